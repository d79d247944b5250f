/-
  What package deck's Nth answers: the order that 'nthSt' makes, step by step, or the error. No conditions beyond those that each theorem bears.
-/
import Derived.Test.YtdhacmcdbpojlaaFact
import Derived.Deep.RegionLaw
namespace Go.Proofs.Ytdhacmcdbpojlaa
open Go.RowKit

/-- 'append(s, x...)' within the capacity of s, which is the call's own; x whatever slice of ints can be read (it may be a part of s): as an operation. -/
theorem wp_append_fits_rd {o : Oper} {a : Act} {K : Act → World → Prop} {Q : Exit → Act → World → Prop} (w : World) (s x : Operand)
    (ho : o.op = .call { callee := .builtin .append, args := #[s, x], argTypes := #[22, 22] }) (base g n cap : Nat) (xs : List Int) (hs : a.eval s = .slice (some ⟨g, 0, none⟩) n cap) (hown : w.ownsRow base 3 1 (.slice (some ⟨g, 0, none⟩) n cap) n (xs.map (Value.int .i64)))
    (ao : Option Addr) (m c : Nat) (ys : List Int) (hx : a.eval x = .slice ao m c) (hR : Rd w ao m c ys) (hfit : n + m ≤ cap)
    (h : ∀ w', w'.ownsRow base 3 1 (.slice (some ⟨g, 0, none⟩) (n + m) cap) (n + m) ((xs ++ ys).map (Value.int .i64)) → w.grownBy w' (some g) → K (a.put o.dst (.slice (some ⟨g, 0, none⟩) (n + m) cap)) w') : o.wp Try.prog a w K Q := by
  obtain ⟨i0, hi, hz0, hz1, hz2⟩ := info_parts Try.info3
  cases ao with
  | none =>
    obtain rfl := hR.nil rfl
    obtain rfl : m = 0 := by have := hR.cap; omega
    have hy : ys = [] := List.eq_nil_of_length_eq_zero hR.len
    subst hy
    have hrun := run_append_owned_none (P := Try.prog) (w := w) base 22 o.type 3 i0 1 Try.underlying22 hi _ n _ hown
    unfold Oper.wp
    simp [execOp, ho, resolve, invoke, builtin, hs, hx, hrun, Result.andThen]
    exact h w (by simpa using hown) (World.grownBy.refl _ _)
  | some ad =>
    obtain ⟨w', hrun, r1, r2⟩ := run_append_fits (P := Try.prog) w base 22 o.type 3 i0 1 Try.underlying22 hi hz1 g n cap _ hown ad m c (ys.map (Value.int .i64)) (by simp [hR.len]) hR.news (ints_oneCell .i64 ys) hfit
    unfold Oper.wp
    simp [execOp, ho, resolve, invoke, builtin, hs, hx, hrun, Result.andThen]
    exact h w' (by rw [List.map_append]; exact r1) r2

theorem wpList_append_fits_rd {ops : Array Oper} {rest : List Oper} {o : Oper} {a : Act} {Q : Exit → Act → World → Prop} (w : World) (hgd : o.guard = none) (s x : Operand)
    (ho : o.op = .call { callee := .builtin .append, args := #[s, x], argTypes := #[22, 22] }) (base g n cap : Nat) (xs : List Int) (hs : a.eval s = .slice (some ⟨g, 0, none⟩) n cap) (hown : w.ownsRow base 3 1 (.slice (some ⟨g, 0, none⟩) n cap) n (xs.map (Value.int .i64)))
    (ao : Option Addr) (m c : Nat) (ys : List Int) (hx : a.eval x = .slice ao m c) (hR : Rd w ao m c ys) (hfit : n + m ≤ cap)
    (h : ∀ w', w'.ownsRow base 3 1 (.slice (some ⟨g, 0, none⟩) (n + m) cap) (n + m) ((xs ++ ys).map (Value.int .i64)) → w.grownBy w' (some g) → wpList Try.prog ops Q rest (a.put o.dst (.slice (some ⟨g, 0, none⟩) (n + m) cap)) w') : wpList Try.prog ops Q (o :: rest) a w :=
  wpList_plain hgd fun _ hK => wp_append_fits_rd w s x ho base g n cap xs hs hown ao m c ys hx hR hfit fun w' h1 h2 => hK _ _ (h w' h1 h2)

/-- 'make([]int, 0, n)', as an operation. -/
theorem wp_make0 {o : Oper} {a : Act} {K : Act → World → Prop} {Q : Exit → Act → World → Prop} (w : World) (l c : Operand) (hop : o.op = Op.makeSlice 22 l c) (base n : Nat) (hl : a.eval l = .int .i64 0) (hc : a.eval c = .int .i64 (n : Int)) (hn : n ≤ 104) (hb : base ≤ w.heap.size)
    (h : ∀ w', w'.ownsRow base 3 1 (.slice (some ⟨w.heap.size, 0, none⟩) 0 n) 0 (([] : List Int).map (Value.int .i64)) → w.grownBy w' none → K (a.put o.dst (.slice (some ⟨w.heap.size, 0, none⟩) 0 n)) w') : o.wp Try.prog a w K Q := by
  obtain ⟨i0, hi, hz0, hz1, hz2⟩ := info_parts Try.info3
  obtain ⟨w', hrun, r1, r2⟩ := run_make_own (P := Try.prog) w base 22 3 i0 (.int .i64 0) 1 Try.underlying22 hi hz0 hz1 .i64 .i64 n (by rw [hz2]; omega) (by unfold maxLen; omega) hb
  unfold Oper.wp
  simp [execOp, hop, hl, hc, hrun, Result.andThen]
  exact h w' r1 r2

theorem own_shrink {w : World} {base g n cap k : Nat} {xs : List Int} (h : w.ownsRow base 3 1 (.slice (some ⟨g, 0, none⟩) n cap) n (xs.map (Value.int .i64))) (hk : k ≤ n) :
    w.ownsRow base 3 1 (.slice (some ⟨g, 0, none⟩) k cap) k ((xs.take k).map (Value.int .i64)) := by
  have hl : xs.length = n := by simpa using h.1
  rcases h.2 with ⟨hv, _⟩ | ⟨g', cap', cur, hv, hb, hg, hnc, hcm, hcs, ht⟩
  · simp at hv
  · simp only [Value.slice.injEq, Option.some.injEq, Addr.mk.injEq, and_true, true_and] at hv
    obtain ⟨rfl, rfl⟩ := hv
    refine ⟨by simp; omega, .inr ⟨g, cap, cur, rfl, hb, hg, by omega, hcm, hcs, ?_⟩⟩
    rw [List.map_take, ← ht, List.take_take]
    congr 1
    omega

theorem own_base {w : World} {base base' : Nat} {v : Value} {n : Nat} {xs : List Value} (h : w.ownsRow base' 3 1 v n xs) (hb : base ≤ base') : w.ownsRow base 3 1 v n xs := by
  refine ⟨h.1, ?_⟩
  rcases h.2 with h2 | ⟨g, cap, cur, hv, hg, r⟩
  · exact .inl h2
  · exact .inr ⟨g, cap, cur, hv, by omega, r⟩

theorem own_below {w w' : World} {base : Nat} {v : Value} {n : Nat} {xs : List Value} (h : w.ownsRow base 3 1 v n xs) (hb : Below w.heap.size w w') : w'.ownsRow base 3 1 v n xs :=
  h.kept (row := none) ⟨hb.os, hb.tape, hb.output, hb.size, fun k hk _ => hb.block k hk⟩ (by cases hv : v.ownBlock <;> simp)

theorem own_cellc {wr : World} {base g n cap : Nat} {L : List Int} (h : wr.ownsRow base 3 1 (.slice (some ⟨g, 0, none⟩) n cap) n (L.map (Value.int .i64))) (p : Nat) (hp : p < n) :
    wr.cell? ⟨g, p, none⟩ = some (.int .i64 (L.getD p 0)) := by
  have hl : L.length = n := by simpa using h.1
  rw [h.cellAt p (by omega)]
  simp [List.getD, hl, hp]

set_option maxHeartbeats 400000 in
theorem rising_ex (n : Nat) (w : World) (hn : n ≤ 104) :
    Calls Try.prog 37 #[.int .i64 n] w fun e w' => e = .returned (.slice (some ⟨w.heap.size, 0, none⟩) n n) ∧ w'.ownsRow w.heap.size 3 1 (.slice (some ⟨w.heap.size, 0, none⟩) n n) n ((ident n).map (Value.int .i64)) ∧ Below w.heap.size w w' := by
  obtain ⟨i0, hi, hz0, hz1, hz2⟩ := info_parts Try.info3
  have hmm : n ≤ maxLen := by unfold maxLen; omega
  have hby : i0.bytes * n ≤ 281474976710656 := by rw [hz2]; omega
  go_enter Try.func37, Try.ntmps37
  go_wp2_with (at_make; refine wpList_make_full w rfl _ _ 22 rfl w.heap.size 3 i0 (.int .i64 0) 1 Try.underlying22 hi hz0 hz1 _ _ _ _ n rfl rfl (by omega) (by omega) hby hmm (Nat.le_refl _) ?_)
  intro w1 hown hgrow
  have hb1 : Below w.heap.size w w1 := (Below.refl _ _).grown hgrow (Nat.le_refl _) (fun k hk => by simp at hk)
  rw [made_ints] at hown
  clear hgrow
  go_wp2
  go_loopw [8] (fun i wr => ∃ (k : Nat) (L : List Int), k ≤ n ∧ i = .int .i64 k ∧ wr.ownsRow w.heap.size 3 1 (.slice (some ⟨w.heap.size, 0, none⟩) n n) n (L.map (Value.int .i64)) ∧ Below w.heap.size w wr ∧ Hid (∀ p, p < k → L.getD p 0 = (p : Int))) (fun i _ => n - (intOf i).toNat)
  case atStart => exact ⟨0, _, by omega, rfl, hown, hb1, fun p hp => absurd hp (by omega)⟩
  case round =>
    clear hown hb1
    obtain ⟨k, L, hk, rfl, hown, hbel, HL⟩ := hrel
    have hLl : Hid (L.length = n) := hide (by simpa using hown.1)
    by_cases hlt : k < n
    · obtain ⟨c1, f1⟩ := own_cell hown k hlt
      have HO := hide (own_set hown k (k : Int))
      have HB := hide hbel
      have HS := hide (ident_step n L k hLl.out hlt HL.out)
      clear hown hbel
      go_wp2
      go_roundw
      case rel => exact ⟨k + 1, _, by omega, by go_num, HO.out, HB.out.setCell (Nat.le_refl _) _, HS.out⟩
      case measure => simp [intOf]; omega
    · obtain rfl : k = n := by omega
      have hlt' : ¬ (k : Int) < (k : Int) := by omega
      go_wp2
      go_ret
      refine ⟨rfl, ?_, hbel⟩
      rw [← eq_ident k L hLl.out HL.out]
      exact hown

set_option maxHeartbeats 400000 in
theorem Nth_size (n k : Int) (w : World) (h : n < 0 ∨ 12 < n) :
    Calls Try.prog 20 #[.int .i64 n, .int .i64 k] w fun e w' => e = .returned (.tuple #[.slice none 0 0, .int .i64 2]) ∧ w' = w := by
  by_cases h1 : n < 0
  · go_enter Try.func20, Try.ntmps20
    go_wp2
    go_ret2
    exact ⟨rfl, rfl⟩
  · have h2 : 12 < n := by omega
    go_enter Try.func20, Try.ntmps20
    go_wp2
    go_ret2
    exact ⟨rfl, rfl⟩

set_option maxHeartbeats 400000 in
theorem Nth_range (n : Nat) (k : Int) (w : World) (hn : n ≤ 12) (h : k < 0 ∨ (fact n : Int) ≤ k) :
    Calls Try.prog 20 #[.int .i64 n, .int .i64 k] w fun e w' => e = .returned (.tuple #[.slice none 0 0, .int .i64 3]) ∧ w' = w := by
  have hf := fact_le n hn
  by_cases h1 : k < 0
  · go_enter Try.func20, Try.ntmps20
    go_wp2_with fail
    refine (fact_any n _ hn).mono ?_
    rintro e w2 ⟨rfl, rfl⟩
    generalize fact n = F at *
    go_wp2_with fail
    go_ret2
    exact ⟨rfl, rfl⟩
  · have h2 : (fact n : Int) ≤ k := by omega
    go_enter Try.func20, Try.ntmps20
    go_wp2_with fail
    refine (fact_any n _ hn).mono ?_
    rintro e w2 ⟨rfl, rfl⟩
    generalize fact n = F at *
    go_wp2_with fail
    go_ret2
    exact ⟨rfl, rfl⟩

end Go.Proofs.Ytdhacmcdbpojlaa
