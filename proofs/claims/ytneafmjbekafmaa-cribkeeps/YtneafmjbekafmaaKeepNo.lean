/-
  What crib.Keep answers to what it refuses. No conditions beyond those that each theorem bears.
-/
import Derived.Test.YtneafmjbekafmaaKeep
namespace Go.Proofs.Ytneafmjbekafmaa
open Go.RowKit Go.Shelf

set_option maxRecDepth 100000 in
set_option maxHeartbeats 2000000 in
theorem Keep_len (a : Option Addr) (n c : Nat) (zs : List Int) (w : World) (h : Rd w a n c zs) (h6 : n ≠ 6) :
    Calls Try.prog 12 #[.slice a n c] w fun e w' => e = .returned (.tuple #[.slice none 0 0, .int .i64 0, .int .i64 11]) ∧ Below w.heap.size w w' := by
  have hcap := h.cap
  have hmax := h.max
  unfold maxLen at hmax
  have hq : ((n : Int) == 6) = false := by simp; omega
  refine (callsIn_wide (n := 0)).1 ?_
  refine callsIn_of_wp_marks Try.func12 rfl trivial ?_ rfl
  simp only [Try.ntmps12, List.size_toArray, List.length_cons, List.length_nil, Nat.reduceAdd, Nat.reduceSub, Array.replicate_succ, Array.replicate_zero, List.push_toArray, List.append_toArray, List.nil_append, List.cons_append]
  refine wpIn_wide.2 ?_
  go_wp2_with fail
  exact ⟨_, results3 rfl _ _, rfl, (Below.refl _ w).alloc (Nat.le_refl _) _⟩

set_option maxRecDepth 100000 in
set_option maxHeartbeats 2000000 in
theorem Keep_bad (a : Option Addr) (c : Nat) (zs : List Int) (w : World) (h : Rd w a 6 c zs) (h0 : mayE zs ≠ 0) :
    Calls Try.prog 12 #[.slice a 6 c] w fun e w' => e = .returned (.tuple #[.slice none 0 0, .int .i64 0, .int .i64 (mayE zs)]) ∧ Below w.heap.size w w' := by
  have HH := hide h
  have hcap := h.cap
  have hmax := h.max
  unfold maxLen at hmax
  have CA : Hid (∀ w1, Rd w1 a 6 c zs → Calls Try.prog 20 #[.slice a 6 c] w1 fun e w' => e = .returned (.int .i64 (mayE zs)) ∧ Below w1.heap.size w1 w') := hide (fun w1 h1 => cards_any a 6 c zs w1 h1 (by omega))
  generalize hm : mayE zs = m at *
  have hq : (m == 0) = false := by simpa using h0
  clear h hm
  refine (callsIn_wide (n := 0)).1 ?_
  refine callsIn_of_wp_marks Try.func12 rfl trivial ?_ rfl
  simp only [Try.ntmps12, List.size_toArray, List.length_cons, List.length_nil, Nat.reduceAdd, Nat.reduceSub, Array.replicate_succ, Array.replicate_zero, List.push_toArray, List.append_toArray, List.nil_append, List.cons_append]
  refine wpIn_wide.2 ?_
  go_wp2_with fail
  generalize hw1 : w.alloc (Obj.cells #[.slice a 6 c] 22) = w1
  have B1 : Below w.heap.size w w1 := by rw [← hw1]; exact (Below.refl _ w).alloc (Nat.le_refl _) _
  clear hw1
  refine (CA.out w1 (HH.out.mono B1)).mono ?_
  rintro e w2 ⟨rfl, hB2⟩
  have HB2 := hide (B1.trans (hB2.mono B1.size))
  clear B1 hB2 CA
  go_wp2_with fail
  exact ⟨_, results3 rfl _ _, rfl, HB2.out⟩

end Go.Proofs.Ytneafmjbekafmaa
