/-
  dice.Exploding where nothing is wrong. No conditions beyond those that each theorem bears.
-/
import Derived.Test.YtonmgbepkdlklaaExpl
namespace Go.Proofs.Ytonmgbepkdlklaa
open Go.RowKit

set_option maxRecDepth 100000 in
set_option maxHeartbeats 4000000 in
theorem Exploding_yes (s d n : Nat) (w : World) (hdn : d + 1 = n) (hn : n ≤ 5) (hs1 : 1 ≤ s) (hs : s ≤ 20) (hw : s ^ n ≤ 100000) (M : Nat) (hM : s * n = M) :
    Calls Try.prog 17 #[.int .i64 s, .int .i64 d] w fun e w' => ∃ b, e = .returned (.tuple #[.slice (some ⟨b, 0, none⟩) M M, .int .i64 0]) ∧ Blk w' b (tl (exF s) 1 M (List.replicate n s)) ∧ w.heap.size ≤ b ∧ Below w.heap.size w w' := by
  have e2 : wsB (s : Int) = false := by unfold wsB; rw [decide_eq_false_iff_not]; omega
  have e4 : tmB n s = false := by unfold tmB; rw [decide_eq_false_iff_not]; omega
  have d1 : ¬ (d : Int) < 0 := by omega
  have d2 : ¬ (4 : Int) < (d : Int) := by omega
  have d1' : decide ((d : Int) < 0) = false := by simp
  have d2' : decide ((4 : Int) < (d : Int)) = false := by simpa using d2
  have hne : (d : Int) + 1 = (n : Int) := by omega
  have hn1 : 1 ≤ n := by omega
  have hn10 : n ≤ 10 := by omega
  have hQe : (s : Int) * (n : Int) = (M : Int) := by rw [← hM]; simp
  have hM1 : 1 ≤ M := by rw [← hM]; exact Nat.mul_pos hs1 hn1
  have hM2 : M ≤ 100 := by rw [← hM]; exact Nat.le_trans (Nat.mul_le_mul hs hn) (by omega)
  have HM := hide hM
  have HDN := hide hdn
  have HB0 := hide ((Below.refl w.heap.size w).alloc (Nat.le_refl _) (.cells #[.int .i64 (s : Int)] 3))
  clear hM hdn
  go_enter Try.func17, Try.ntmps17
  go_wp2_with (first | (go_at_call 23; refine (wrongSides_any _ _).mono ?_; rintro e w' ⟨rfl, hw'⟩; subst w') | (go_at_call 29; refine (tooManyWays_any n s _ hn10 hs).mono ?_; rintro e w' ⟨rfl, hw'⟩; subst w'))
  clear e2 e4 d1 d2 d1' d2'
  obtain ⟨P, hP⟩ : ∃ P, w.heap.size = P := ⟨_, rfl⟩
  have g0 : (w.alloc (.cells #[.int .i64 (s : Int)] 3)).cell? ⟨P, 0, none⟩ = some (.int .i64 s) := by rw [← hP]; exact new_cell _ _ _
  generalize hw0 : w.alloc (.cells #[.int .i64 (s : Int)] 3) = w0 at *
  simp only [hP]
  clear hw0
  refine wp_region_held (S := fun W => Below w0.heap.size w0 W) (by kernel_rfl) ?_
  change wpAnyH _ _ _ _ _ _ _ _ (World.drew _)
  have SW : Below w0.heap.size w0 w0.drew := (Below.refl _ w0).drew
  have C0 : Hid (∀ W, Below w0.heap.size w0 W → W.cell? ⟨P, 0, none⟩ = some (.int .i64 s)) := hide (fun W hW => (hW.cell (World.block_lt_of_cell? _ _ g0)).trans g0)
  refine wpAnyH_take (i := 0) (v := .func (.func 36) #[] #[.pointer (some ⟨P, 0, none⟩)]) rfl (by kernel_rfl) (by kernel_rfl) (by kernel_rfl) (fun _ _ _ h => h) (Or.inl ⟨by rfl, ?_⟩) SW ?_
  · intro W hW
    go_simp
  go_simp
  refine wpAnyH_take (i := 1) (v := .int .i64 s) rfl (by kernel_rfl) (by kernel_rfl) (by kernel_rfl) (fun _ _ _ h => h) (Or.inl ⟨by rfl, ?_⟩) SW ?_
  · intro W hW
    have f0 := C0.out W hW
    go_simp
  go_simp
  refine wpAnyH_take (i := 2) (v := .int .i64 d) rfl (by kernel_rfl) (by kernel_rfl) (by kernel_rfl) (fun _ _ _ h => h) (Or.inl ⟨by rfl, ?_⟩) SW ?_
  · intro W hW
    go_simp
  go_simp
  refine wpAnyH_take (i := 3) (v := .int .i64 n) rfl (by kernel_rfl) (by kernel_rfl) (by kernel_rfl) (fun _ _ _ h => h) (Or.inl ⟨by rfl, ?_⟩) SW ?_
  · intro W hW
    go_simp
    rw [IntKind.wrap_i64]
    omega
  go_simp
  refine wpAnyH_take (i := 4) (v := .int .i64 M) rfl (by kernel_rfl) (by kernel_rfl) (by kernel_rfl) (fun _ _ _ h => h) (Or.inl ⟨by rfl, ?_⟩) SW ?_
  · intro W hW
    go_simp
    rw [IntKind.wrap_i64]
    omega
  go_simp
  refine wpAnyH_take (i := 5) (v := .int .i64 d) rfl (by kernel_rfl) (by kernel_rfl) (by kernel_rfl) (fun _ _ _ h => h) (Or.inl ⟨by rfl, ?_⟩) SW ?_
  · intro W hW
    go_simp
  go_simp
  refine wpAnyH_take (i := 6) (v := .int .i64 n) rfl (by kernel_rfl) (by kernel_rfl) (by kernel_rfl) (fun _ _ _ h => h) (Or.inl ⟨by rfl, ?_⟩) SW ?_
  · intro W hW
    go_simp
    rw [IntKind.wrap_i64]
    omega
  go_simp
  refine wpAnyH_take (i := 7) (v := .int .i64 s) rfl (by kernel_rfl) (by kernel_rfl) (by kernel_rfl) (fun _ _ _ h => h) (Or.inl ⟨by rfl, ?_⟩) SW ?_
  · intro W hW
    have f0 := C0.out W hW
    go_simp
  go_simp
  refine wpAnyH_ready (rs := [8]) (by kernel_rfl) (by simp) ?_
  refine AllReadyH.cons rfl (fun K1 hK1 => ?_) AllReadyH.nil
  go_simp
  refine (alike_any n s _ (by omega) hn1).mono ?_
  rintro e w1 ⟨b1, rfl, hT1, hB1⟩
  have SW1 := SW.trans (hB1.mono SW.size)
  refine hK1.out _ _ SW1 (fun SW => ?_)
  clear hK1 K1 SW1
  have HT1 := hide hT1
  clear hT1 hB1
  go_simp
  refine wpAnyH_ready (rs := [9]) (by kernel_rfl) (by simp) ?_
  refine AllReadyH.cons rfl (fun K1 hK1 => ?_) AllReadyH.nil
  go_simp
  have R1 := HT1.out.rd (by rw [List.length_replicate]; unfold maxLen; omega)
  rw [List.length_replicate] at R1
  refine (tally_any (some ⟨b1, 0, none⟩) n M 36 #[.pointer (some ⟨P, 0, none⟩)] 1 (M : Int) (List.replicate n s) n (by simp) (by omega) (by omega) (exF s) w1 (enters_of Try.func36 (by kernel_rfl) rfl) R1 (by omega) (by omega) (by omega) (by omega)
    (fun W L SB hW _ hL hl hO => expl1_any P SB n s L W (C0.out W (SW.trans (hW.mono SW.size))) hL hl hn1 hn10 (fun x hx => Nat.le_trans (ok_rep n s L hl hO x hx).2 hs))
    (fun L hl hO => by have := exS_between s L (by omega) (ok_rep n s L hl hO); rw [hl, HM.out] at this; unfold exF; omega)
    (fun i => by rw [rep_getD]; split <;> omega) (by rw [prod_pow]; omega)).mono ?_
  rintro e w2 ⟨b2, rfl, hT2, hb2, hB2⟩
  have SW2 := SW.trans (hB2.mono SW.size)
  have HT2 := hide hT2
  have HBB := hide (Nat.le_trans SW.size hb2)
  refine hK1.out _ _ SW2 (fun SW => ?_)
  clear hK1 K1 SW2 hT2 hB2 hb2 R1
  go_simp
  refine wpAnyH_take (i := 10) (v := .slice (some ⟨b2, 0, none⟩) M M) rfl (by kernel_rfl) (by kernel_rfl) (by kernel_rfl) (fun _ _ _ h => h) (Or.inl ⟨by rfl, ?_⟩) SW ?_
  · intro W hW
    go_simp
  go_simp
  refine wpAnyH_take (i := 11) (v := .int .i64 0) rfl (by kernel_rfl) (by kernel_rfl) (by kernel_rfl) (fun _ _ _ h => h) (Or.inl ⟨by rfl, ?_⟩) SW ?_
  · intro W hW
    go_simp
  go_simp
  refine wpAnyH_done (by kernel_rfl) ?_ _
  have HBZ := hide (HB0.out.trans (SW.mono HB0.out.size))
  have HBY : Hid (w.heap.size ≤ b2) := hide (Nat.le_trans HB0.out.size HBB.out)
  clear SW C0 g0 HB0 HBB
  go_wp2_with fail
  go_ret2
  exact ⟨b2, rfl, HT2.out, HBY.out, HBZ.out⟩

end Go.Proofs.Ytonmgbepkdlklaa
