/-
  A play from a board. No conditions beyond those that each theorem bears.
-/
import Derived.Test.YtafiaimlmdflnaaMv
namespace Go.Proofs.Ytafiaimlmdflnaa
open Go.RowKit Go.Shelf Go.Maps Go.WideMaps

attribute [local irreducible] D4 spr rgs rgsU lib goneU gone clr grp pz pt pE pad kof stn

theorem build70 (W H : Int) (a : Option Addr) (n c b : Nat) (w : World) : (Instr.build 70 #[(0, .agg (gdA W H a n c)), (4, .map (some b))]).run Try.prog w = .ok (.agg (plA W H a n c 0 0 0 0 b)) w := by
  simp [Instr.build, go_sem, run_underlying Try.underlying70]

theorem Hb.range' {w : World} {b : Nat} {W H : Int} {a : Option Addr} {n c : Nat} (h : Hb w b W H a n c) : w.rangeAt b 0 (gdA W H a n c).toList := h.range

/-- A play's beginning. -/
def ps0 (Z : List Int) : PS := ⟨Z, 0, 0, 0, 0, [pad Z]⟩

set_option maxRecDepth 100000 in
set_option maxHeartbeats 8000000 in
theorem playFrom_any (W H N bc cb co : Nat) (Z : List Int) (w : World) (hW : 1 ≤ W ∧ W ≤ 10) (hH : 1 ≤ H ∧ H ≤ 10) (hN : W * H = N) (hmay : mayP W H Z) (hR : Rd w (some ⟨cb, co, none⟩) N bc Z) :
    Calls Try.prog 43 #[.agg (gdA W H (some ⟨cb, co, none⟩) N bc)] w fun e w' => ∃ g b, e = .returned (.pointer (some ⟨g, 0, none⟩)) ∧ PlayAt w' g b W H N (ps0 Z) ∧ Below w.heap.size w w' ∧ w.heap.size ≤ g ∧ w.heap.size ≤ b := by
  have hN100 : N ≤ 100 := by rw [← hN]; exact Nat.mul_le_mul hW.2 hH.2
  have hN0 : 0 < N := by rw [← hN]; exact Nat.mul_pos hW.1 hH.1
  obtain ⟨w1, hw1⟩ : ∃ w1, w.alloc (.cells (gdA W H (some ⟨cb, co, none⟩) N bc) 24) = w1 := ⟨_, rfl⟩
  have B1 : Below w.heap.size w w1 := by rw [← hw1]; exact (Below.refl _ w).alloc (Nat.le_refl _) _
  have K1 : Gd w1 w.heap.size W H (some ⟨cb, co, none⟩) N bc := by rw [← hw1]; exact Gd.new w W H _ N bc
  have HCL := hide (clone_any W H N bc cb co Z w1 hN100 hN0 (hR.mono B1))
  have HPZ : Hid (Pic (pad Z)) := hide (pad_pic (by rw [hR.len]; exact hN100) hmay.2.2.2.2.2)
  have HPC : Hid (∀ xg xc W4, Bw W4 xg N xc Z → Calls Try.prog 59 #[.agg (gdA W H (some ⟨xg, 0, none⟩) N xc)] W4 fun e w' => e = .returned (sv (pad Z)) ∧ Below W4.heap.size W4 w') := hide (fun xg xc W4 h => picture_any W H N xc xg 0 Z W4 hN0 hN100 h.rd)
  have HMY := hide hmay
  have HB1 := hide B1
  obtain ⟨S0, hS0⟩ : ∃ S0, ps0 Z = S0 := ⟨_, rfl⟩
  have HS0 := hide hS0
  rw [hS0]
  have HLL := hide HPZ.out.len
  obtain ⟨PZ, hPZ⟩ : ∃ PZ, pad Z = PZ := ⟨_, rfl⟩
  have HPE := hide hPZ
  rw [hPZ] at HPZ HPC HLL
  clear hR B1 hmay hN hS0 hPZ
  go_enter Try.func43, Try.ntmps43
  go_upto_region 1 with fail
  clear hw1
  go_wp2_with (first | (refine wpList_load_gd rfl (.tmp 1) rfl w.heap.size rfl K1 ?_) | fail)
  refine HCL.out.mono ?_
  rintro e w2 ⟨xg, xc, rfl, hBx, hxl, hb2⟩
  have K2 := Hb.new w2 0 0 none 0 0
  go_upto_region 2 with (first | (refine wpList_store_hb rfl (.tmp 3) (.tmp 6) rfl w2.heap.size rfl rfl K2 ?_; intro w3 K3 kk3))
  have B23 : Below w2.heap.size w2 w3 := ((Below.refl _ w2).alloc (Nat.le_refl _) _).trans (kk3.below (by simp) (fun k hk e => by omega))
  have HB3 : Hid (Below w.heap.size w w3) := hide (HB1.out.trans ((hb2.trans (B23.mono hb2.size)).mono HB1.out.size))
  have HX3 := hide (hBx.mono B23)
  have hx0 : w.heap.size ≤ xg := by have := HB1.out.size; omega
  have hx3 : xg < w3.heap.size := HX3.out.lt
  have h03 : w.heap.size ≤ w3.heap.size := HB3.out.size
  clear HCL K1 K2 kk3 B23 hBx hb2 hxl HB1
  refine wp_region_held (S := fun W4 => Below w3.heap.size w3 W4) (by kernel_rfl) ?_
  change wpAnyH _ _ _ _ _ _ _ _ (World.drew _)
  have SW : Below w3.heap.size w3 w3.drew := (Below.refl _ w3).drew
  have hdr : w3.drew.heap.size = w3.heap.size := rfl
  refine wpAnyH_take (i := 0) (v := .agg (gdA W H (some ⟨xg, 0, none⟩) N xc)) rfl (by kernel_rfl) (by kernel_rfl) (by kernel_rfl) (fun _ _ _ h => h) (yieldsIf_load_mid (by rfl) 54 _ rfl w2.heap.size 0 (by rfl) (gdA W H (some ⟨xg, 0, none⟩) N xc).toList _ (fun W4 hW4 => (K3.below hW4 K3.lt).range') Try.underlying54 rfl (by exact size54)) SW ?_
  go_simp
  refine wpAnyH_take (i := 2) (v := .agg (gdA W H (some ⟨xg, 0, none⟩) N xc)) rfl (by kernel_rfl) (by kernel_rfl) (by kernel_rfl) (fun _ _ _ h => h) (yieldsIf_load_mid (by rfl) 54 _ rfl w2.heap.size 0 (by rfl) (gdA W H (some ⟨xg, 0, none⟩) N xc).toList _ (fun W4 hW4 => (K3.below hW4 K3.lt).range') Try.underlying54 rfl (by exact size54)) SW ?_
  go_simp
  refine wpAnyH_take (i := 4) (v := .agg #[]) rfl (by kernel_rfl) (by kernel_rfl) (by kernel_rfl) (fun _ _ _ h => h) (Or.inl ⟨by rfl, ?_⟩) SW ?_
  · intro W4 hW4
    go_simp <;> first | done | rfl | (rw [IntKind.wrap_i64]; omega) | omega
  go_simp
  refine wpAnyH_ready (rs := [1, 3]) (by kernel_rfl) (by simp) ?_
  refine AllReadyH.cons rfl (fun K1 hK1 => ?_) ?_
  · go_simp
    have S4' : St (w3.drew.alloc (.map #[] 0)) w3.heap.size 0 [] := St.made w3.drew
    refine hK1.out _ _ (SW.alloc SW.size _) (fun SW => ?_)
    clear hK1 K1
    go_simp
    refine wpAnyH_ready (rs := [3]) (by kernel_rfl) (by simp) ?_
    refine AllReadyH.cons rfl (fun K1 hK1 => ?_) AllReadyH.nil
    go_simp
    refine (HPC.out xg xc _ (HX3.out.mono SW)).mono ?_
    rintro e w4 ⟨rfl, hb4⟩
    have S4 := S4'.below hb4 S4'.lt
    have B4 := SW.trans (hb4.mono (by have := SW.size; omega))
    refine hK1.out _ _ B4 (fun SW => ?_)
    clear hK1 K1
    go_simp
    refine wpAnyH_ready (rs := [5]) (by kernel_rfl) (by simp) ?_
    refine AllReadyH.cons rfl (fun K1 hK1 => ?_) AllReadyH.nil
    refine wp_update_st (.tmp 8) (.tmp 10) (.tmp 11) (.inr rfl) S4 (by omega) HPZ.out rfl rfl rfl ?_
    intro w5 S5 kk5
    have B5 := SW.trans ((kk5.mono (Y := fun k => w3.heap.size ≤ k) (fun k _ e => by omega)).below (B := w3.heap.size) (by have := SW.size; first | omega | (rw [World.size_alloc]; omega)) (fun k hk e => by omega))
    refine hK1.out _ _ B5 (fun SW => ?_)
    clear hK1 K1
    go_simp
    refine wpAnyH_take (i := 6) (v := .map (some w3.heap.size)) rfl (by kernel_rfl) (by kernel_rfl) (by kernel_rfl) (fun _ _ _ h => h) (Or.inl ⟨by rfl, ?_⟩) SW ?_
    · intro W4 hW4
      go_simp <;> first | done | rfl | (rw [IntKind.wrap_i64]; omega) | omega
    go_simp
    refine wpAnyH_take (i := 7) (v := .agg (plA W H (some ⟨xg, 0, none⟩) N xc 0 0 0 0 w3.heap.size)) rfl (by kernel_rfl) (by kernel_rfl) (by kernel_rfl) (fun _ _ _ h => h) (Or.inl ⟨by rfl, ?_⟩) SW ?_
    · intro W4 hW4
      have hcell := build70 W H (some ⟨xg, 0, none⟩) N xc w3.heap.size W4
      go_simp <;> first | done | rfl | (rw [IntKind.wrap_i64]; omega) | omega
    go_simp
    refine wpAnyH_ready (rs := [8]) (by kernel_rfl) (by simp) ?_
    refine AllReadyH.cons rfl (fun K1 hK1 => ?_) AllReadyH.nil
    go_simp
    refine hK1.out _ _ (SW.alloc SW.size _) (fun SW => ?_)
    clear hK1 K1
    go_simp
    refine wpAnyH_ready (rs := [9]) (by kernel_rfl) (by simp) ?_
    refine AllReadyH.cons rfl (fun K1 hK1 => ?_) AllReadyH.nil
    go_simp
    refine hK1.out _ _ SW (fun SW => ?_)
    clear hK1 K1
    go_simp
    refine wpAnyH_done (by kernel_rfl) ?_ _
    have HF : Hid (∀ V, V = (w5.alloc (.cells (plA W H (some ⟨xg, 0, none⟩) N xc 0 0 0 0 w3.heap.size) 70)) → PlayAt V w5.heap.size w3.heap.size W H N (ps0 Z)) := hide (by
      rintro V rfl
      refine ⟨⟨xg, xc, Py.new w5 W H _ N xc 0 0 0 0 w3.heap.size, (HX3.out.mono B5).mono ((Below.refl _ w5).alloc (Nat.le_refl _) _), ?_, ?_⟩, ?_, ?_, HMY.out, ?_, ?_, ?_⟩
      · have := B5.size; omega
      · omega
      · show St _ w3.heap.size 1 [pad Z]
        rw [HPE.out]
        exact S5.below ((Below.refl _ w5).alloc (Nat.le_refl _) _) S5.lt
      · have := S5.lt; omega
      · show 0 ≤ 100 * 0
        omega
      · show 0 ≤ 100 * 0
        omega
      · show 0 ≤ 2
        omega)
    have h5 := B5.size
    go_wp2_with fail
    go_ret
    first | exact ⟨w5.heap.size, rfl, w3.heap.size, by rw [← HS0.out]; exact HF.out _ rfl, HB3.out.trans (SW.mono h03), by omega, by omega⟩ | exact ⟨w5.heap.size, w3.heap.size, rfl, by rw [← HS0.out]; exact HF.out _ rfl, HB3.out.trans (SW.mono h03), by omega, by omega⟩
  refine AllReadyH.cons rfl (fun K1 hK1 => ?_) AllReadyH.nil
  go_simp
  refine (HPC.out xg xc _ (HX3.out.mono SW)).mono ?_
  rintro e w4 ⟨rfl, hb4⟩
  have B4 := SW.trans (hb4.mono (by have := SW.size; omega))
  have h34 : w3.heap.size ≤ w4.heap.size := B4.size
  refine hK1.out _ _ B4 (fun SW => ?_)
  clear hK1 K1
  go_simp
  refine wpAnyH_ready (rs := [1]) (by kernel_rfl) (by simp) ?_
  refine AllReadyH.cons rfl (fun K1 hK1 => ?_) AllReadyH.nil
  go_simp
  have S4 := St.made w4
  refine hK1.out _ _ (SW.alloc SW.size _) (fun SW => ?_)
  clear hK1 K1
  go_simp
  refine wpAnyH_ready (rs := [5]) (by kernel_rfl) (by simp) ?_
  refine AllReadyH.cons rfl (fun K1 hK1 => ?_) AllReadyH.nil
  refine wp_update_st (.tmp 8) (.tmp 10) (.tmp 11) (.inr rfl) S4 (by omega) HPZ.out rfl rfl rfl ?_
  intro w5 S5 kk5
  have B5 := SW.trans ((kk5.mono (Y := fun k => w3.heap.size ≤ k) (fun k _ e => by omega)).below (B := w3.heap.size) (by have := SW.size; first | omega | (rw [World.size_alloc]; omega)) (fun k hk e => by omega))
  refine hK1.out _ _ B5 (fun SW => ?_)
  clear hK1 K1
  go_simp
  refine wpAnyH_take (i := 6) (v := .map (some w4.heap.size)) rfl (by kernel_rfl) (by kernel_rfl) (by kernel_rfl) (fun _ _ _ h => h) (Or.inl ⟨by rfl, ?_⟩) SW ?_
  · intro W4 hW4
    go_simp <;> first | done | rfl | (rw [IntKind.wrap_i64]; omega) | omega
  go_simp
  refine wpAnyH_take (i := 7) (v := .agg (plA W H (some ⟨xg, 0, none⟩) N xc 0 0 0 0 w4.heap.size)) rfl (by kernel_rfl) (by kernel_rfl) (by kernel_rfl) (fun _ _ _ h => h) (Or.inl ⟨by rfl, ?_⟩) SW ?_
  · intro W4 hW4
    have hcell := build70 W H (some ⟨xg, 0, none⟩) N xc w4.heap.size W4
    go_simp <;> first | done | rfl | (rw [IntKind.wrap_i64]; omega) | omega
  go_simp
  refine wpAnyH_ready (rs := [8]) (by kernel_rfl) (by simp) ?_
  refine AllReadyH.cons rfl (fun K1 hK1 => ?_) AllReadyH.nil
  go_simp
  refine hK1.out _ _ (SW.alloc SW.size _) (fun SW => ?_)
  clear hK1 K1
  go_simp
  refine wpAnyH_ready (rs := [9]) (by kernel_rfl) (by simp) ?_
  refine AllReadyH.cons rfl (fun K1 hK1 => ?_) AllReadyH.nil
  go_simp
  refine hK1.out _ _ SW (fun SW => ?_)
  clear hK1 K1
  go_simp
  refine wpAnyH_done (by kernel_rfl) ?_ _
  have HF : Hid (∀ V, V = (w5.alloc (.cells (plA W H (some ⟨xg, 0, none⟩) N xc 0 0 0 0 w4.heap.size) 70)) → PlayAt V w5.heap.size w4.heap.size W H N (ps0 Z)) := hide (by
    rintro V rfl
    refine ⟨⟨xg, xc, Py.new w5 W H _ N xc 0 0 0 0 w4.heap.size, (HX3.out.mono B5).mono ((Below.refl _ w5).alloc (Nat.le_refl _) _), ?_, ?_⟩, ?_, ?_, HMY.out, ?_, ?_, ?_⟩
    · have := B5.size; omega
    · omega
    · show St _ w4.heap.size 1 [pad Z]
      rw [HPE.out]
      exact S5.below ((Below.refl _ w5).alloc (Nat.le_refl _) _) S5.lt
    · have := S5.lt; omega
    · show 0 ≤ 100 * 0
      omega
    · show 0 ≤ 100 * 0
      omega
    · show 0 ≤ 2
      omega)
  have h5 := B5.size
  go_wp2_with fail
  go_ret
  first | exact ⟨w5.heap.size, rfl, w4.heap.size, by rw [← HS0.out]; exact HF.out _ rfl, HB3.out.trans (SW.mono h03), by omega, by omega⟩ | exact ⟨w5.heap.size, w4.heap.size, rfl, by rw [← HS0.out]; exact HF.out _ rfl, HB3.out.trans (SW.mono h03), by omega, by omega⟩

end Go.Proofs.Ytafiaimlmdflnaa
