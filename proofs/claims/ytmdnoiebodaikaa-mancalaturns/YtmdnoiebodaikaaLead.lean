/-
  Who is ahead, and what is better. No conditions beyond those that each theorem bears.
-/
import Derived.Test.YtmdnoiebodaikaaMemo
import Derived.OrdersHeld
import Derived.Deep.RegionHeld3
namespace Go.Proofs.Ytmdnoiebodaikaa
open Go.RowKit

set_option maxHeartbeats 2000000 in
theorem lead_any (S : List Int) (hS : S.length = 14) (p t : Nat) (hp : p ≤ 6) (hf : Fit p S) (w : World) :
    Calls Try.prog 42 #[bv S p t] w fun e w' => e = .returned (.int .i64 (leadS p S)) ∧ Below w.heap.size w w' := by
  obtain ⟨w0, hw0⟩ : ∃ w0, w.alloc (Obj.cells (ivs (bdL S p t)).toArray 46) = w0 := ⟨_, rfl⟩
  have K0 : Blk w0 w.heap.size 46 (bdL S p t) := by rw [← hw0]; exact Blk.new w 46 _ _ rfl
  have B0 : Below w.heap.size w w0 := by rw [← hw0]; exact (Below.refl _ w).alloc (Nat.le_refl _) _
  obtain ⟨b, hbe⟩ : ∃ b, w.heap.size = b := ⟨_, rfl⟩
  rw [hbe] at K0
  have HK := hide K0
  have HB := hide B0
  have hl : Hid ((bdL S p t).length = 16) := hide (bdL_length S p t hS)
  have HF := hide hf
  have H0 : Hid (pl p 0 p = p) := hide (pl0 p p)
  obtain ⟨e1, he1⟩ : ∃ e1, 2 * p + 1 = e1 := ⟨_, rfl⟩
  have H1 : Hid (pl p 1 p = e1) := hide (by rw [pl1]; omega)
  have a1 := hf.pos p (by omega)
  have a2 := hf.le (i := p) (by omega)
  have a3 := hf.pos e1 (by omega)
  have a4 := hf.le (i := e1) (by omega)
  obtain ⟨a5, a6⟩ := hf.inP (x := 0) (by omega)
  obtain ⟨a7, a8⟩ := hf.inP (x := 1) (by omega)
  obtain ⟨v0, hv0⟩ : ∃ v0, S.getD p 0 = v0 := ⟨_, rfl⟩
  obtain ⟨v1, hv1⟩ : ∃ v1, S.getD e1 0 = v1 := ⟨_, rfl⟩
  obtain ⟨i0, hi0⟩ : ∃ i0, inP p 0 S = i0 := ⟨_, rfl⟩
  obtain ⟨i1, hi1⟩ : ∃ i1, inP p 1 S = i1 := ⟨_, rfl⟩
  have HL : Hid (leadS p S = v0 + i0 - v1 - i1) := hide (by unfold leadS; rw [he1, hv0, hv1, hi0, hi1])
  rw [hv0] at a1 a2
  rw [hv1] at a3 a4
  rw [hi0] at a5 a6
  rw [hi1] at a7 a8
  have HV0 := hide hv0
  have HV1 := hide hv1
  have HI0 := hide hi0
  have HI1 := hide hi1
  have he14 : e1 < 14 := by omega
  clear K0 B0 hf hv0 hv1 hi0 hi1 he1
  go_enter Try.func42, Try.ntmps42
  go_wp2_with fail
  refine wp_region_held (S := fun W => Below w0.heap.size w0 W) (by kernel_rfl) ?_
  change wpAnyH _ _ _ _ _ _ _ _ (World.drew _)
  have SW : Below w0.heap.size w0 w0.drew := (Below.refl _ w0).drew
  refine wpAnyH_take (i := 0) (v := .agg (ivs (bdL S p t)).toArray) rfl (by kernel_rfl) (by kernel_rfl) (by kernel_rfl) (fun _ _ _ h => h) (yieldsIf_load_mid (by rfl) 46 _ rfl b 0 (by rfl) (ivs (bdL S p t)) _ (fun W hW => (HK.out.below hW HK.out.lt).range) Try.underlying46 rfl (by rw [ivs_length, hl.out]; exact size46)) SW ?_
  go_simp
  refine wpAnyH_take (i := 5) (v := .agg (ivs (bdL S p t)).toArray) rfl (by kernel_rfl) (by kernel_rfl) (by kernel_rfl) (fun _ _ _ h => h) (yieldsIf_load_mid (by rfl) 46 _ rfl b 0 (by rfl) (ivs (bdL S p t)) _ (fun W hW => (HK.out.below hW HK.out.lt).range) Try.underlying46 rfl (by rw [ivs_length, hl.out]; exact size46)) SW ?_
  go_simp
  refine wpAnyH_take (i := 8) (v := .agg (ivs (bdL S p t)).toArray) rfl (by kernel_rfl) (by kernel_rfl) (by kernel_rfl) (fun _ _ _ h => h) (yieldsIf_load_mid (by rfl) 46 _ rfl b 0 (by rfl) (ivs (bdL S p t)) _ (fun W hW => (HK.out.below hW HK.out.lt).range) Try.underlying46 rfl (by rw [ivs_length, hl.out]; exact size46)) SW ?_
  go_simp
  refine wpAnyH_take (i := 14) (v := .agg (ivs (bdL S p t)).toArray) rfl (by kernel_rfl) (by kernel_rfl) (by kernel_rfl) (fun _ _ _ h => h) (yieldsIf_load_mid (by rfl) 46 _ rfl b 0 (by rfl) (ivs (bdL S p t)) _ (fun W hW => (HK.out.below hW HK.out.lt).range) Try.underlying46 rfl (by rw [ivs_length, hl.out]; exact size46)) SW ?_
  go_simp
  refine wpAnyH_take (i := 2) (v := .pointer (some ⟨b, 0, none⟩)) rfl (by kernel_rfl) (by kernel_rfl) (by kernel_rfl) (fun _ _ _ h => h) (Or.inl ⟨by rfl, ?_⟩) SW ?_
  · intro W hW
    go_simp <;> first | done | rfl | (rw [IntKind.wrap_i64]; omega) | (intro hh; exfalso; omega)
  go_simp
  refine wpAnyH_take (i := 10) (v := .pointer (some ⟨b, 0, none⟩)) rfl (by kernel_rfl) (by kernel_rfl) (by kernel_rfl) (fun _ _ _ h => h) (Or.inl ⟨by rfl, ?_⟩) SW ?_
  · intro W hW
    go_simp <;> first | done | rfl | (rw [IntKind.wrap_i64]; omega) | (intro hh; exfalso; omega)
  go_simp
  refine wpAnyH_ready (rs := [1]) (by kernel_rfl) (by simp) ?_
  refine AllReadyH.cons rfl (fun K1 hK1 => ?_) AllReadyH.nil
  go_simp
  refine (store_any S hS p t 0 hp (by omega) _).mono ?_
  rintro e w2 ⟨rfl, hw⟩
  refine hK1.out _ _ (SW.trans (hw.mono SW.size)) (fun SW1 => ?_)
  clear hK1 K1 SW hw
  have SW := SW1
  clear SW1
  rw [H0.out]
  go_simp
  refine wpAnyH_take (i := 3) (v := .pointer (some ⟨b, p, none⟩)) rfl (by kernel_rfl) (by kernel_rfl) (by kernel_rfl) (fun _ _ _ h => h) (Or.inl ⟨by rfl, ?_⟩) SW ?_
  · intro W hW
    go_simp <;> first | done | rfl | (rw [IntKind.wrap_i64]; omega) | (intro hh; exfalso; omega)
  go_simp
  refine wpAnyH_take (i := 4) (v := .int .i64 v0) rfl (by kernel_rfl) (by kernel_rfl) (by kernel_rfl) (fun _ _ _ h => h) (Or.inl ⟨by rfl, ?_⟩) SW ?_
  · intro W hW
    have hcell := (HK.out.below hW HK.out.lt).seed hS (i := p) (by omega)
    rw [HV0.out] at hcell
    go_simp <;> first | done | rfl | (rw [IntKind.wrap_i64]; omega) | (intro hh; exfalso; omega)
  go_simp
  refine wpAnyH_ready (rs := [6]) (by kernel_rfl) (by simp) ?_
  refine AllReadyH.cons rfl (fun K1 hK1 => ?_) AllReadyH.nil
  go_simp
  refine (inPits_any S hS p t 0 hp (by omega) HF.out _).mono ?_
  rintro e w2 ⟨rfl, hw⟩
  refine hK1.out _ _ (SW.trans (hw.mono SW.size)) (fun SW1 => ?_)
  clear hK1 K1 SW hw
  have SW := SW1
  clear SW1
  rw [HI0.out]
  go_simp
  refine wpAnyH_take (i := 7) (v := .int .i64 (v0 + i0)) rfl (by kernel_rfl) (by kernel_rfl) (by kernel_rfl) (fun _ _ _ h => h) (Or.inl ⟨by rfl, ?_⟩) SW ?_
  · intro W hW
    go_simp <;> first | done | rfl | (rw [IntKind.wrap_i64]; omega) | (intro hh; exfalso; omega)
  go_simp
  refine wpAnyH_ready (rs := [9]) (by kernel_rfl) (by simp) ?_
  refine AllReadyH.cons rfl (fun K1 hK1 => ?_) AllReadyH.nil
  go_simp
  refine (store_any S hS p t 1 hp (by omega) _).mono ?_
  rintro e w2 ⟨rfl, hw⟩
  refine hK1.out _ _ (SW.trans (hw.mono SW.size)) (fun SW1 => ?_)
  clear hK1 K1 SW hw
  have SW := SW1
  clear SW1
  rw [H1.out]
  go_simp
  refine wpAnyH_take (i := 11) (v := .pointer (some ⟨b, e1, none⟩)) rfl (by kernel_rfl) (by kernel_rfl) (by kernel_rfl) (fun _ _ _ h => h) (Or.inl ⟨by rfl, ?_⟩) SW ?_
  · intro W hW
    go_simp <;> first | done | rfl | (rw [IntKind.wrap_i64]; omega) | (intro hh; exfalso; omega)
  go_simp
  refine wpAnyH_take (i := 12) (v := .int .i64 v1) rfl (by kernel_rfl) (by kernel_rfl) (by kernel_rfl) (fun _ _ _ h => h) (Or.inl ⟨by rfl, ?_⟩) SW ?_
  · intro W hW
    have hcell := (HK.out.below hW HK.out.lt).seed hS (i := e1) (by omega)
    rw [HV1.out] at hcell
    go_simp <;> first | done | rfl | (rw [IntKind.wrap_i64]; omega) | (intro hh; exfalso; omega)
  go_simp
  refine wpAnyH_take (i := 13) (v := .int .i64 (v0 + i0 - v1)) rfl (by kernel_rfl) (by kernel_rfl) (by kernel_rfl) (fun _ _ _ h => h) (Or.inl ⟨by rfl, ?_⟩) SW ?_
  · intro W hW
    go_simp <;> first | done | rfl | (rw [IntKind.wrap_i64]; omega) | (intro hh; exfalso; omega)
  go_simp
  refine wpAnyH_ready (rs := [15]) (by kernel_rfl) (by simp) ?_
  refine AllReadyH.cons rfl (fun K1 hK1 => ?_) AllReadyH.nil
  go_simp
  refine (inPits_any S hS p t 1 hp (by omega) HF.out _).mono ?_
  rintro e w2 ⟨rfl, hw⟩
  refine hK1.out _ _ (SW.trans (hw.mono SW.size)) (fun SW1 => ?_)
  clear hK1 K1 SW hw
  have SW := SW1
  clear SW1
  rw [HI1.out]
  go_simp
  refine wpAnyH_take (i := 16) (v := .int .i64 (v0 + i0 - v1 - i1)) rfl (by kernel_rfl) (by kernel_rfl) (by kernel_rfl) (fun _ _ _ h => h) (Or.inl ⟨by rfl, ?_⟩) SW ?_
  · intro W hW
    go_simp <;> first | done | rfl | (rw [IntKind.wrap_i64]; omega) | (intro hh; exfalso; omega)
  go_simp
  refine wpAnyH_take (i := 17) (v := .int .i64 (v0 + i0 - v1 - i1)) rfl (by kernel_rfl) (by kernel_rfl) (by kernel_rfl) (fun _ _ _ h => h) (Or.inl ⟨by rfl, ?_⟩) SW ?_
  · intro W hW
    go_simp <;> first | done | rfl | (rw [IntKind.wrap_i64]; omega) | (intro hh; exfalso; omega)
  go_simp
  refine wpAnyH_done (by kernel_rfl) ?_ _
  have HB2 := hide (HB.out.trans (SW.mono HB.out.size))
  clear SW
  go_wp2
  go_ret
  exact ⟨ret_int HL.out.symm, by first | exact HB2.out | (rw [← hbe]; exact HB2.out)⟩

set_option maxHeartbeats 1000000 in
theorem better_any (S : List Int) (hS : S.length = 14) (p t : Nat) (x y : Int) (w : World) :
    Calls Try.prog 43 #[bv S p t, .int .i64 x, .int .i64 y] w fun e w' => e = .returned (.bool (bet t x y)) ∧ Below w.heap.size w w' := by
  have K0 : Blk (w.alloc (Obj.cells (ivs (bdL S p t)).toArray 46)) w.heap.size 46 (bdL S p t) := Blk.new w 46 _ _ rfl
  have c15 := K0.turn hS
  have HB := hide (show Below w.heap.size w (w.alloc (Obj.cells (ivs (bdL S p t)).toArray 46)) from (Below.refl _ w).alloc (Nat.le_refl _) _)
  clear K0
  by_cases h0 : t = 0
  · have h0b : ((t : Int) == 0) = true := by simp [h0]
    have h0n : (t == 0) = true := by simp [h0]
    have HV : Hid (bet t x y = decide (y < x)) := hide (by unfold bet; rw [if_pos h0])
    clear h0
    go_enter Try.func43, Try.ntmps43
    go_wp2
    go_ret
    exact ⟨ret_bool HV.out.symm, HB.out⟩
  · have h0b : ((t : Int) == 0) = false := by simp; omega
    have h0n : (t == 0) = false := by simpa using h0
    have HV : Hid (bet t x y = decide (x < y)) := hide (by unfold bet; rw [if_neg h0])
    clear h0
    go_enter Try.func43, Try.ntmps43
    go_wp2
    go_ret
    exact ⟨ret_bool HV.out.symm, HB.out⟩

end Go.Proofs.Ytmdnoiebodaikaa
