/-
  Draughts: a way's text, as the program writes it, walked. No conditions beyond those that each theorem bears.
-/
import Derived.Test.YtnbaangnpoblfaaDoorBd
import Derived.Test.YtnbaangnpoblfaaDoorDx
import Derived.Test.YtnbaangnpoblfaaDoorShelf
import Derived.Test.YtnbaangnpoblfaaDoorNs
namespace Go.Proofs.YtnbaangnpoblfaaDoor
open Go.RowKit

/-- The sign between places. -/
def sgB (j : Bool) : UInt8 := if j = true then 120 else 45
/-- The text of the first k places. -/
def txK (W : List Nat) (j : Bool) : Nat → List UInt8
  | 0 => []
  | k + 1 => txK W j k ++ ((if k = 0 then [] else [sgB j]) ++ Lib.decDigits (W.getD k 0))

theorem dec_len {u : Nat} (h : u < 100) : (Lib.decDigits u).length ≤ 2 := by
  rw [Lib.decDigits]
  split
  · simp
  · rw [Lib.decDigits, dif_pos (by omega)]
    simp
theorem txK_len (W : List Nat) (j : Bool) (hW : ∀ i, W.getD i 0 < 100) : ∀ k, (txK W j k).length ≤ 3 * k
  | 0 => by simp [txK]
  | k + 1 => by
    have := txK_len W j hW k
    have := dec_len (hW k)
    rw [txK]
    generalize Lib.decDigits (W.getD k 0) = D at *
    split <;> simp <;> omega
theorem str_byte (l : List UInt8) : Lib.strCells ⟨l.toArray⟩ = Lib.byteCells l := by simp [Lib.strCells, Lib.byteCells]
theorem byte_app (l m : List UInt8) : Lib.byteCells (l ++ m) = Lib.byteCells l ++ Lib.byteCells m := by simp [Lib.byteCells]
theorem signOf_str (j : Bool) : (if j = true then (⟨#[120]⟩ : ByteArray) else ⟨#[45]⟩) = ⟨[sgB j].toArray⟩ := by cases j <;> rfl

attribute [local irreducible] txK sgB Lib.byteCells

set_option maxRecDepth 100000 in
set_option maxHeartbeats 4000000 in
theorem Text_yes (a : Option Addr) (n c : Nat) (W : List Nat) (j : Bool) (w : World) (h : Rd w a n c (toI W)) (h2 : 2 ≤ n) (h13 : n ≤ 13) (hW : ∀ p ∈ W, 1 ≤ p ∧ p ≤ 32) :
    Calls Tryd.prog 23 #[.slice a n c, .bool j] w fun e w' => e = .returned (.tuple #[.string ⟨(txK W j n).toArray⟩, .int .i64 0]) ∧ Below w.heap.size w w' := by
  have hln : W.length = n := by have := h.len; rw [toI_len] at this; exact this
  have hat : ∀ k, k < n → (toI W).getD k 0 = ((W.getD k 0 : Nat) : Int) ∧ 1 ≤ W.getD k 0 ∧ W.getD k 0 ≤ 32 := fun k hk => by
    have hk' : k < W.length := by omega
    have h1 := hW (W[k]) (List.getElem_mem hk')
    have e : W.getD k 0 = W[k] := by simp [List.getD, hk']
    rw [e]
    exact ⟨by simp [toI, List.getD, hk'], h1⟩
  have h100 : ∀ i, W.getD i 0 < 100 := fun i => by
    by_cases hi : i < n
    · have := (hat i hi).2; omega
    · simp [List.getD, show ¬ i < W.length by omega]
  have HAT := hide hat
  have HTL := hide (txK_len W j h100)
  have HAP := hide (allPlaces_yes a n c (toI W) w h (by omega) (fun k hk => by have := hat k hk; omega))
  have hcap := h.cap
  have hmax := h.max
  unfold maxLen at hmax
  obtain ⟨b1, o1, rfl, hc1⟩ := h.cells (by omega)
  have HC1 := hide hc1
  have hb1 : b1 < w.heap.size := World.block_lt_of_cell? w _ (hc1 0 (by omega))
  obtain ⟨w1, hw1⟩ : ∃ w1, w.alloc (.cells #[.pointer none, .slice none 0 0] 75) = w1 := ⟨_, rfl⟩
  have HB1 : Hid (Below w.heap.size w w1) := hide (by rw [← hw1]; exact (Below.refl _ _).alloc (Nat.le_refl _) _)
  have HI1 : Hid (Lib.IsBuilder 75 5 w.heap.size w.heap.size (Lib.byteCells (txK W j 0)) w1) := hide (by
    left
    refine ⟨Nat.le_refl _, .slice none 0 0, ?_, ?_, by simp [Value.ownBlock]⟩
    · rw [← hw1]; exact heap_alloc_new w _
    · rw [show txK W j 0 = [] by rw [txK], show Lib.byteCells [] = [] by rw [Lib.byteCells]; rfl]
      exact World.ownsRow_nil _ _ _ _)
  have HSG : Hid (∀ W4, Calls Tryd.prog 52 #[.bool j] W4 fun e w' => e = .returned (.string ⟨[sgB j].toArray⟩) ∧ w' = W4) := hide (fun W4 => by
    have := signOf_any j W4
    rw [signOf_str] at this
    exact this)
  clear h hat hc1 hW h100
  have hn2 : ¬ (n : Int) < 2 := by omega
  go_enter Tryd.func23, Tryd.ntmps23
  go_wp2_with fail
  refine HAP.out.mono ?_
  rintro e w0 ⟨rfl, hw0⟩
  subst w0
  go_wp2_with fail
  clear hw1
  go_loopw [17] (fun v wr => ∃ k : Nat, v = .int .i64 k ∧ k ≤ n ∧ Hid (Lib.IsBuilder 75 5 w.heap.size w.heap.size (Lib.byteCells (txK W j k)) wr) ∧ Hid (Below w.heap.size w wr)) (fun v _ => n - (intOf v).toNat)
  case atStart => exact ⟨0, rfl, by omega, HI1, HB1⟩
  case round =>
    obtain ⟨k, rfl, hk, hI, hB⟩ := hrel
    by_cases hlt : k < n
    · have hlt' : (k : Int) < (n : Int) := by omega
      have hp := HAT.out k hlt
      have e1 : wr.cell? ⟨b1, o1 + k, none⟩ = some (.int .i64 ((toI W).getD k 0)) := (hB.out.cell (p := ⟨b1, o1 + k, none⟩) hb1).trans (HC1.out k hlt)
      rw [hp.1] at e1
      have HNX : Hid (txK W j (k + 1) = txK W j k ++ ((if k = 0 then [] else [sgB j]) ++ Lib.decDigits (W.getD k 0))) := hide (by rw [txK])
      have htl := HTL.out k
      obtain ⟨p, hpp⟩ : ∃ p, W.getD k 0 = p := ⟨_, rfl⟩
      rw [hpp] at e1 HNX hp
      have hp2 := hp.2
      have HIT : Hid (∀ W4, Calls Tryd.prog 53 #[.int .i64 (p : Nat)] W4 fun e w' => e = .returned (.string ⟨(Lib.decDigits p).toArray⟩) ∧ w' = W4) := hide (fun W4 => Tryd.strconv_Itoa_small p (by omega) W4)
      have hdl := dec_len (show p < 100 by omega)
      clear hp hpp
      by_cases hk0 : k = 0
      · subst hk0
        rw [if_pos rfl, List.nil_append] at HNX
        rw [Nat.add_zero] at e1
        go_wp2_with fail
        refine (HIT.out _).mono ?_
        rintro e w2 ⟨rfl, hw2⟩
        subst w2
        go_wp2_with fail
        refine (write_any w.heap.size w.heap.size _ ⟨(Lib.decDigits p).toArray⟩ wr hI.out (by rw [Lib.byteCells_length]; simp [ByteArray.size]; omega) hB.out.size).mono ?_
        rintro e w3 ⟨rfl, hA, hb3⟩
        rw [str_byte, ← byte_app, ← HNX.out] at hA
        have HI3 : Hid (Lib.IsBuilder 75 5 w.heap.size w.heap.size (Lib.byteCells (txK W j (0 + 1))) w3) := hide (Or.inr hA)
        have HB3 : Hid (Below w.heap.size w w3) := hide (hB.out.trans hb3)
        clear hA hb3
        go_wp2_with fail
        exact ⟨⟨0 + 1, by go_num, by omega, HI3, HB3⟩, by simp [intOf]; omega⟩
      · have hk0' : (0 : Int) < (k : Int) := by omega
        rw [if_neg hk0] at HNX
        go_wp2_with fail
        refine (HSG.out _).mono ?_
        rintro e w2 ⟨rfl, hw2⟩
        subst w2
        go_wp2_with fail
        refine (write_any w.heap.size w.heap.size _ ⟨[sgB j].toArray⟩ wr hI.out (by rw [Lib.byteCells_length]; simp [ByteArray.size]; omega) hB.out.size).mono ?_
        rintro e w3 ⟨rfl, hA, hb3⟩
        rw [str_byte, ← byte_app] at hA
        have HI3 := hide hA
        have HB3 : Hid (Below w.heap.size w w3) := hide (hB.out.trans hb3)
        clear hA hb3
        go_wp2_with fail
        refine (HIT.out _).mono ?_
        rintro e w4 ⟨rfl, hw4⟩
        subst w4
        go_wp2_with fail
        refine (write_any w.heap.size w.heap.size _ ⟨(Lib.decDigits p).toArray⟩ w3 (Or.inr HI3.out) (by rw [Lib.byteCells_length]; simp [ByteArray.size]; omega) HB3.out.size).mono ?_
        rintro e w5 ⟨rfl, hA, hb5⟩
        rw [str_byte, ← byte_app, List.append_assoc, ← HNX.out] at hA
        have HI5 : Hid (Lib.IsBuilder 75 5 w.heap.size w.heap.size (Lib.byteCells (txK W j (k + 1))) w5) := hide (Or.inr hA)
        have HB5 : Hid (Below w.heap.size w w5) := hide (HB3.out.trans hb5)
        clear hA hb5
        go_wp2_with fail
        exact ⟨⟨k + 1, by go_num, by omega, HI5, HB5⟩, by simp [intOf]; omega⟩
    · obtain rfl : k = n := by omega
      go_wp2_with fail
      refine (Tryd.Builder_String_any w.heap.size w.heap.size (txK W j k) wr hI.out hB.out.size).mono ?_
      rintro e w2 ⟨rfl, hb2⟩
      have HB2 : Hid (Below w.heap.size w w2) := hide (hB.out.trans hb2)
      clear hb2
      go_wp2_with fail
      go_ret2
      exact ⟨rfl, HB2.out⟩

end Go.Proofs.YtnbaangnpoblfaaDoor
