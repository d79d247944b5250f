/-
  What bridge.Score answers. No conditions beyond those that each theorem bears.
-/
import Derived.Test.YtiihnlpoagnkhaaSc4
import Derived.Deep.RegionHeld3
namespace Go.Proofs.Ytiihnlpoagnkhaa
open Go.RowKit

theorem ret_intN {x y : Int} (h : x = y) : Ending.returned (.int .i64 x) = .returned (.int .i64 y) := by rw [h]
theorem ret_two {x y : Int} (h : x = y) (z : Int) : Ending.returned (.tuple #[.int .i64 x, .int .i64 z]) = .returned (.tuple #[.int .i64 y, .int .i64 z]) := by rw [h]

theorem size34 : (Try.prog.info? 34).map (·.size) = some 4 := by kernel_rfl

/-- What a contract brings. -/
def scN (l s d : Nat) (v : Bool) (t : Nat) : Int := if t < l + 6 then -(failN (l + 6 - t) d v : Nat) else ((madeN l s d v + (t - l - 6) * abvN s d v : Nat) : Int)

theorem isCt_nat (l s d k : Int) (h : isCt l s d k = true) : ∃ l' s' d' : Nat, l = l' ∧ s = s' ∧ d = d' ∧ 1 ≤ l' ∧ l' ≤ 7 ∧ s' ≤ 4 ∧ d' ≤ 2 ∧ 0 ≤ k ∧ k < 4 := by
  simp only [isCt, decide_eq_true_eq] at h
  exact ⟨l.toNat, s.toNat, d.toNat, by omega, by omega, by omega, by omega, by omega, by omega, by omega, by omega, by omega⟩

theorem madeN_le (l s d : Nat) (v : Bool) (hl : l ≤ 7) (hd : d ≤ 2) : madeN l s d v ≤ 3000 := by
  unfold madeN
  have ht := trkN_le s
  have h1 : l * trkN s ≤ 7 * 30 := Nat.mul_le_mul hl ht
  have h2 : 2 ^ d ≤ 2 ^ 2 := Nat.pow_le_pow_right (by omega) hd
  have h3 : bidN l s d ≤ 220 * 4 := by
    unfold bidN
    refine Nat.mul_le_mul ?_ h2
    split <;> omega
  have := eiN_le v 500 300 500 (by omega) (by omega)
  have := eiN_le v 750 500 750 (by omega) (by omega)
  have := eiN_le v 1500 1000 1500 (by omega) (by omega)
  split <;> split <;> (try split) <;> omega

set_option maxRecDepth 100000 in
set_option maxHeartbeats 2000000 in
theorem Score_fail (l s d t : Nat) (k : Int) (v : Bool) (hct : isCt l s d k = true) (hl : 1 ≤ l) (hl7 : l ≤ 7) (hd : d ≤ 2) (ht : t < l + 6) (ht13 : t ≤ 13) (w : World) :
    Calls Try.prog 15 #[.agg (ctA l s d k), .bool v, .int .i64 t] w fun e w' => e = .returned (.tuple #[.int .i64 (-(failN (l + 6 - t) d v : Nat)), .int .i64 0]) ∧ Below w.heap.size w w' := by
  have IC := hide (isContract_any l s d k)
  rw [hct] at IC
  obtain ⟨f, hf⟩ : ∃ f, l + 6 - t = f := ⟨_, rfl⟩
  have FA := hide (failed_any f d v (by omega) hd)
  have hb := failN_le f d (by omega) v hd
  rw [hf]
  obtain ⟨x, hx⟩ : ∃ x, failN f d v = x := ⟨_, rfl⟩
  rw [hx] at FA hb ⊢
  have e1 : (t : Int) - (l : Int) - 6 = -(f : Int) := by omega
  have e2 : -(f : Int) < 0 := by omega
  have e4 : (t : Int) - (l : Int) - 6 < 0 := by omega
  have e3 : - -(f : Int) = (f : Int) := by omega
  have t0 : ¬ (t : Int) < 0 := by omega
  have t0' : decide ((t : Int) < 0) = false := by simp
  have t13 : ¬ (13 : Int) < (t : Int) := by omega
  have t13' : decide ((13 : Int) < (t : Int)) = false := by simp; omega
  clear hf hx hct
  go_enter Try.func15, Try.ntmps15
  go_wp2_with fail
  refine (IC.out _).mono ?_
  rintro e w1 ⟨rfl, hB1⟩
  have hc1 : w1.cell? ⟨w.heap.size, 0, none⟩ = some (.int .i64 l) := by rw [hB1.cell (by simp [World.size_alloc])]; go_simp
  have hc2 : w1.cell? ⟨w.heap.size, 2, none⟩ = some (.int .i64 d) := by rw [hB1.cell (by simp [World.size_alloc])]; go_simp
  have HB1 := hide hB1
  clear hB1
  go_wp2_with fail
  refine (FA.out _).mono ?_
  rintro e w2 ⟨rfl, hw⟩
  subst w2
  go_wp2
  go_ret2
  exact ⟨rfl, ((Below.refl _ _).alloc (Nat.le_refl _) _).trans (HB1.out.mono (by rw [World.size_alloc]; omega))⟩

set_option maxRecDepth 100000 in
set_option maxHeartbeats 2000000 in
theorem Score_made (l s d t : Nat) (k : Int) (v : Bool) (hct : isCt l s d k = true) (hl : 1 ≤ l) (hl7 : l ≤ 7) (hs : s ≤ 4) (hd : d ≤ 2) (ht : l + 6 ≤ t) (ht13 : t ≤ 13) (w : World) :
    Calls Try.prog 15 #[.agg (ctA l s d k), .bool v, .int .i64 t] w fun e w' => e = .returned (.tuple #[.int .i64 ((madeN l s d v + (t - l - 6) * abvN s d v : Nat) : Int), .int .i64 0]) ∧ Below w.heap.size w w' := by
  have IC := hide (isContract_any l s d k)
  rw [hct] at IC
  have MA := hide (made_any l s d k hl hl7 hs hd v)
  have AB := hide (trickAbove_any l k s d hd v)
  have hM := madeN_le l s d v hl7 hd
  have hA := abvN_le s d hd v
  obtain ⟨o, ho⟩ : ∃ o, t - l - 6 = o := ⟨_, rfl⟩
  rw [ho]
  have hoA : o * abvN s d v ≤ 13 * 400 := Nat.mul_le_mul (by omega) hA
  have hc : (o : Int) * (abvN s d v : Nat) = ((o * abvN s d v : Nat) : Int) := by push_cast; rfl
  have e1 : (t : Int) - (l : Int) - 6 = (o : Int) := by omega
  have e2 : ¬ (o : Int) < 0 := by omega
  have e4 : ¬ (t : Int) - (l : Int) - 6 < 0 := by omega
  have t0 : ¬ (t : Int) < 0 := by omega
  have t0' : decide ((t : Int) < 0) = false := by simp
  have t13 : ¬ (13 : Int) < (t : Int) := by omega
  have t13' : decide ((13 : Int) < (t : Int)) = false := by simp; omega
  generalize o * abvN s d v = q at *
  generalize abvN s d v = A at *
  generalize madeN l s d v = M at *
  clear ho hct
  go_enter Try.func15, Try.ntmps15
  go_wp2_with fail
  refine (IC.out _).mono ?_
  rintro e w1 ⟨rfl, hB1⟩
  have hc1 : w1.cell? ⟨w.heap.size, 0, none⟩ = some (.int .i64 l) := by rw [hB1.cell (by simp [World.size_alloc])]; go_simp
  have HB1 := hide hB1
  have HRG0 : w1.rangeAt w.heap.size 0 [.int .i64 l, .int .i64 s, .int .i64 d, .int .i64 k] := by
    intro j u hu
    have hj : j < 4 := by have := (List.getElem?_eq_some_iff.1 hu).1; simpa using this
    rw [hB1.cell (by simp [World.size_alloc])]
    rcases (by omega : j = 0 ∨ j = 1 ∨ j = 2 ∨ j = 3) with rfl | rfl | rfl | rfl <;> · simp at hu; subst hu; go_simp
  have hsz : w.heap.size < w1.heap.size := by have := hB1.size; rw [World.size_alloc] at this; omega
  have HRG : Hid (∀ W, Below w1.heap.size w1 W → W.rangeAt w.heap.size 0 [.int .i64 l, .int .i64 s, .int .i64 d, .int .i64 k]) := hide (fun W hW j u hu => (hW.cell (p := ⟨w.heap.size, 0 + j, none⟩) hsz).trans (HRG0 j u hu))
  have HB2 := hide (((Below.refl w.heap.size w).alloc (Nat.le_refl _) (Obj.cells (ctA l s d k) 34)).trans (hB1.mono (by rw [World.size_alloc]; omega)))
  clear hB1 HB1 HRG0 hsz
  go_wp2_with fail
  refine wp_region_held (S := fun W => Below w1.heap.size w1 W) (by kernel_rfl) ?_
  change wpAnyH _ _ _ _ _ _ _ _ (World.drew _)
  have SW : Below w1.heap.size w1 w1.drew := (Below.refl _ w1).drew
  refine wpAnyH_take (i := 1) (v := .bool v) rfl (by kernel_rfl) (by kernel_rfl) (by kernel_rfl) (fun _ _ _ h => h) (Or.inl ⟨by rfl, ?_⟩) SW ?_
  · intro w _
    go_simp
  go_simp
  refine wpAnyH_take (i := 3) (v := .int .i64 o) rfl (by kernel_rfl) (by kernel_rfl) (by kernel_rfl) (fun _ _ _ h => h) (Or.inl ⟨by rfl, ?_⟩) SW ?_
  · intro w _
    go_simp
  go_simp
  refine wpAnyH_take (i := 5) (v := .bool v) rfl (by kernel_rfl) (by kernel_rfl) (by kernel_rfl) (fun _ _ _ h => h) (Or.inl ⟨by rfl, ?_⟩) SW ?_
  · intro w _
    go_simp
  go_simp
  refine wpAnyH_take (i := 0) (v := .agg (ctA l s d k)) rfl (by kernel_rfl) (by kernel_rfl) (by kernel_rfl) (fun _ _ _ h => h) (yieldsIf_load_mid (by rfl) 34 _ rfl w.heap.size 0 (by rfl) [.int .i64 l, .int .i64 s, .int .i64 d, .int .i64 k] _ (fun W hW => HRG.out W hW) Try.underlying34 rfl size34) SW ?_
  go_simp
  refine wpAnyH_take (i := 4) (v := .agg (ctA l s d k)) rfl (by kernel_rfl) (by kernel_rfl) (by kernel_rfl) (fun _ _ _ h => h) (yieldsIf_load_mid (by rfl) 34 _ rfl w.heap.size 0 (by rfl) [.int .i64 l, .int .i64 s, .int .i64 d, .int .i64 k] _ (fun W hW => HRG.out W hW) Try.underlying34 rfl size34) SW ?_
  go_simp
  refine wpAnyH_ready (rs := [2]) (by kernel_rfl) (by simp) ?_
  refine AllReadyH.cons rfl (fun K1 hK1 => ?_) AllReadyH.nil
  go_simp
  refine (MA.out _).mono ?_
  rintro e w6 ⟨rfl, hB6⟩
  refine hK1.out _ _ (SW.trans (hB6.mono SW.size)) (fun SW => ?_)
  clear hK1 K1
  go_simp
  refine wpAnyH_ready (rs := [6]) (by kernel_rfl) (by simp) ?_
  refine AllReadyH.cons rfl (fun K1 hK1 => ?_) AllReadyH.nil
  go_simp
  refine (AB.out _).mono ?_
  rintro e w7 ⟨rfl, hB7⟩
  refine hK1.out _ _ (SW.trans (hB7.mono SW.size)) (fun SW => ?_)
  clear hK1 K1
  go_simp
  refine wpAnyH_take (i := 7) (v := .int .i64 q) rfl (by kernel_rfl) (by kernel_rfl) (by kernel_rfl) (fun _ _ _ h => h) (Or.inl ⟨by rfl, ?_⟩) SW ?_
  · intro w _
    go_simp
    rw [IntKind.wrap_i64]; omega
  go_simp
  refine wpAnyH_take (i := 8) (v := .int .i64 ((M : Int) + q)) rfl (by kernel_rfl) (by kernel_rfl) (by kernel_rfl) (fun _ _ _ h => h) (Or.inl ⟨by rfl, ?_⟩) SW ?_
  · intro w _
    go_simp
    rw [IntKind.wrap_i64]; omega
  go_simp
  refine wpAnyH_take (i := 9) (v := .int .i64 ((M : Int) + q)) rfl (by kernel_rfl) (by kernel_rfl) (by kernel_rfl) (fun _ _ _ h => h) (Or.inl ⟨by rfl, ?_⟩) SW ?_
  · intro w _
    go_simp
  go_simp
  refine wpAnyH_take (i := 10) (v := .int .i64 0) rfl (by kernel_rfl) (by kernel_rfl) (by kernel_rfl) (fun _ _ _ h => h) (Or.inl ⟨by rfl, ?_⟩) SW ?_
  · intro w _
    go_simp
  go_simp
  refine wpAnyH_done (by kernel_rfl) ?_ _
  have HSW := hide SW
  clear SW
  go_wp2
  go_ret2
  exact ⟨ret_two (by omega) _, HB2.out.trans (HSW.out.mono HB2.out.size)⟩

set_option maxRecDepth 100000 in
set_option maxHeartbeats 2000000 in
theorem Score_bad (l s d t : Int) (k : Int) (v : Bool) (hct : (isCt l s d k && decide (0 ≤ t ∧ t ≤ 13)) = false) (w : World) :
    Calls Try.prog 15 #[.agg (ctA l s d k), .bool v, .int .i64 t] w fun e w' => e = .returned (.tuple #[.int .i64 0, .int .i64 3]) ∧ Below w.heap.size w w' := by
  have IC := hide (isContract_any l s d k)
  by_cases hc : isCt l s d k = true
  · rw [hc] at IC
    simp only [hc, Bool.true_and, decide_eq_false_iff_not] at hct
    clear hc
    by_cases h0 : t < 0
    · go_enter Try.func15, Try.ntmps15
      go_wp2_with fail
      refine (IC.out _).mono ?_
      rintro e w1 ⟨rfl, hB1⟩
      go_wp2
      go_ret2
      exact ⟨rfl, ((Below.refl _ _).alloc (Nat.le_refl _) _).trans (hB1.mono (by rw [World.size_alloc]; omega))⟩
    · have h0' : decide (t < 0) = false := by simp; omega
      have h13 : 13 < t := by omega
      go_enter Try.func15, Try.ntmps15
      go_wp2_with fail
      refine (IC.out _).mono ?_
      rintro e w1 ⟨rfl, hB1⟩
      go_wp2
      go_ret2
      exact ⟨rfl, ((Below.refl _ _).alloc (Nat.le_refl _) _).trans (hB1.mono (by rw [World.size_alloc]; omega))⟩
  · have hc' : isCt l s d k = false := by simpa using hc
    rw [hc'] at IC
    clear hct hc hc'
    go_enter Try.func15, Try.ntmps15
    go_wp2_with fail
    refine (IC.out _).mono ?_
    rintro e w1 ⟨rfl, hB1⟩
    go_wp2
    go_ret2
    exact ⟨rfl, ((Below.refl _ _).alloc (Nat.le_refl _) _).trans (hB1.mono (by rw [World.size_alloc]; omega))⟩

/-- What Score answers, where contract and tricks may be. -/
theorem Score_good (l s d t : Nat) (k : Int) (v : Bool) (hct : isCt l s d k = true) (ht13 : t ≤ 13) (w : World) :
    Calls Try.prog 15 #[.agg (ctA l s d k), .bool v, .int .i64 t] w fun e w' => e = .returned (.tuple #[.int .i64 (scN l s d v t), .int .i64 0]) ∧ Below w.heap.size w w' := by
  obtain ⟨l', s', d', h1, h2, h3, h4, h5, h6, h7, h8, h9⟩ := isCt_nat l s d k hct
  obtain rfl : l = l' := by omega
  obtain rfl : s = s' := by omega
  obtain rfl : d = d' := by omega
  by_cases ht : t < l + 6
  · rw [scN, if_pos ht]
    exact Score_fail l s d t k v hct h4 h5 h7 ht ht13 w
  · rw [scN, if_neg ht]
    exact Score_made l s d t k v hct h4 h5 h6 h7 (by omega) ht13 w

end Go.Proofs.Ytiihnlpoagnkhaa
