/-
  'gameroomlaw.FourBests' returns true. No conditions beyond those that the theorem bears.
-/
import Derived.Test.YtaglhmkjdajgpaaDoorBe
import Derived.Test.YtaglhmkjdajgpaaDoorGMv
namespace Go.Proofs.YtaglhmkjdajgpaaDoor
open Go.RowKit

attribute [local irreducible] wmG mvO rbd hng mayP

theorem wm_bw {W H : Int} {a : Option Addr} {n c : Nat} {zs : List Int} {w : World} (h : Rd w a n c zs) (hw : wmG W H zs = true) : ∃ gW gH : Nat, W = gW ∧ H = gH ∧ Bw gW gH n zs := by
  obtain ⟨gW, gH, rfl, rfl, h1, h2, h3, h4, h5, h6⟩ := wm_nat hw
  rw [h.len] at h3 h4
  exact ⟨gW, gH, rfl, rfl, h1, h2, h3, h5, h6, h.len, h4⟩

set_option maxRecDepth 100000 in
set_option maxHeartbeats 4000000 in
theorem bests_any (W H : Int) (a : Option Addr) (n c : Nat) (zs : List Int) (k deep : Int) (w : World) (hT : Tab w) (h : Rd w a n c zs) (hr : n * 8 ≤ 140737488351232) :
    Calls Tryd.prog 4 #[.agg (gdA W H a n c), .int .i64 k, .int .i64 deep] w fun e w' => e = .returned (.bool true) ∧ Below w.heap.size w w' := by
  have HB0 : Hid (Below w.heap.size w (w.alloc (.cells (gdA W H a n c) 24))) := hide ((Below.refl _ _).alloc (Nat.le_refl _) _)
  have HGO := hide (GridOf_own W H a n c zs _ (h.mono HB0.out) hr)
  have HWM := hide (fun w1 (hb : Below w.heap.size w w1) => WellMay_any W H a n c zs w1 (h.mono hb))
  have G0 := Gd.new w W H a n c
  have HG0 := hide G0
  have HT := hide hT
  cases hwm : wmG W H zs with
  | false =>
    have HBS := hide (fun a' c' w1 (hR : Rd w1 a' n c' zs) => Best_state W H a' n c' zs k deep w1 hR hwm)
    rw [hwm] at HWM
    clear h hwm hT HT
    go_enter Tryd.func4, Tryd.ntmps4
    go_wp2_with (refine wpList_load_gd rfl (.tmp 3) rfl w.heap.size rfl G0 ?_)
    refine HGO.out.mono ?_
    rintro e w2 ⟨a', c', rfl, hO, hb2⟩
    have HB2 := hide (HB0.out.trans (hb2.mono HB0.out.size))
    have HG2 := hide (HG0.out.below hb2 HG0.out.lt)
    have HBE := hide (HBS.out a' c' w2 (Rd.of_own hO))
    clear hb2 hO G0 HGO
    go_wp2_with fail
    refine HBE.out.mono ?_
    rintro e w3 ⟨rfl, hb3⟩
    have HB3 := hide (HB2.out.trans (hb3.mono HB2.out.size))
    have G3 := HG2.out.below hb3 HG2.out.lt
    have HG3 := hide G3
    clear hb3 HBE HG2 HB2
    go_wp2_with (refine wpList_load_gd rfl (.tmp 3) rfl w.heap.size rfl G3 ?_)
    clear G3
    refine (HWM.out w3 HB3.out).mono ?_
    rintro e w4 ⟨rfl, hb4⟩
    have HB4 := hide (HB3.out.trans (hb4.mono HB3.out.size))
    have G4 := HG3.out.below hb4 HG3.out.lt
    have HG4 := hide G4
    clear hb4 HG3 HB3
    go_wp2_with fail
    go_ret
    exact ⟨by rfl, HB4.out⟩
  | true =>
    rw [hwm] at HWM
    obtain ⟨gW, gH, rfl, rfl, hbw⟩ := wm_bw h hwm
    clear hwm
    by_cases hk : 1 ≤ k ∧ k ≤ 10
    rotate_left
    · have HBS := hide (fun a' c' w1 (hR : Rd w1 a' n c' zs) => Best_k gW gH a' n c' zs k deep w1 hR hbw.wd hbw.ht hbw.mul hbw.may hbw.hn hk)
      have hk' : k < 1 ∨ (1 ≤ k ∧ 10 < k) := by omega
      clear h hT HT hbw hk
      rcases hk' with hk | ⟨hk, hk2⟩
      · skip
        go_enter Tryd.func4, Tryd.ntmps4
        go_wp2_with (refine wpList_load_gd rfl (.tmp 3) rfl w.heap.size rfl G0 ?_)
        refine HGO.out.mono ?_
        rintro e w2 ⟨a', c', rfl, hO, hb2⟩
        have HB2 := hide (HB0.out.trans (hb2.mono HB0.out.size))
        have HG2 := hide (HG0.out.below hb2 HG0.out.lt)
        have HBE := hide (HBS.out a' c' w2 (Rd.of_own hO))
        clear hb2 hO G0 HGO
        go_wp2_with fail
        refine HBE.out.mono ?_
        rintro e w3 ⟨rfl, hb3⟩
        have HB3 := hide (HB2.out.trans (hb3.mono HB2.out.size))
        have G3 := HG2.out.below hb3 HG2.out.lt
        have HG3 := hide G3
        clear hb3 HBE HG2 HB2
        go_wp2_with (refine wpList_load_gd rfl (.tmp 3) rfl w.heap.size rfl G3 ?_)
        clear G3
        refine (HWM.out w3 HB3.out).mono ?_
        rintro e w4 ⟨rfl, hb4⟩
        have HB4 := hide (HB3.out.trans (hb4.mono HB3.out.size))
        have G4 := HG3.out.below hb4 HG3.out.lt
        have HG4 := hide G4
        clear hb4 HG3 HB3
        go_wp2_with fail
        go_ret
        exact ⟨by rfl, HB4.out⟩
      · skip
        go_enter Tryd.func4, Tryd.ntmps4
        go_wp2_with (refine wpList_load_gd rfl (.tmp 3) rfl w.heap.size rfl G0 ?_)
        refine HGO.out.mono ?_
        rintro e w2 ⟨a', c', rfl, hO, hb2⟩
        have HB2 := hide (HB0.out.trans (hb2.mono HB0.out.size))
        have HG2 := hide (HG0.out.below hb2 HG0.out.lt)
        have HBE := hide (HBS.out a' c' w2 (Rd.of_own hO))
        clear hb2 hO G0 HGO
        go_wp2_with fail
        refine HBE.out.mono ?_
        rintro e w3 ⟨rfl, hb3⟩
        have HB3 := hide (HB2.out.trans (hb3.mono HB2.out.size))
        have G3 := HG2.out.below hb3 HG2.out.lt
        have HG3 := hide G3
        clear hb3 HBE HG2 HB2
        go_wp2_with (refine wpList_load_gd rfl (.tmp 3) rfl w.heap.size rfl G3 ?_)
        clear G3
        refine (HWM.out w3 HB3.out).mono ?_
        rintro e w4 ⟨rfl, hb4⟩
        have HB4 := hide (HB3.out.trans (hb4.mono HB3.out.size))
        have G4 := HG3.out.below hb4 HG3.out.lt
        have HG4 := hide G4
        clear hb4 HG3 HB3
        go_wp2_with fail
        go_ret
        exact ⟨by rfl, HB4.out⟩
    obtain ⟨K, rfl⟩ := Int.eq_ofNat_of_zero_le (show 0 ≤ k by omega)
    have hK : 1 ≤ K ∧ K ≤ 10 := by omega
    have k1 : ¬ (K : Int) < 1 := by omega
    have k2 : ¬ (10 : Int) < (K : Int) := by omega
    by_cases hd : 0 ≤ deep ∧ deep ≤ 6
    rotate_left
    · have hd' : deep < 0 ∨ (0 ≤ deep ∧ 6 < deep) := by omega
      have HBS := hide (fun a' c' w1 (hR : Rd w1 a' n c' zs) (hT1 : Tab w1) => Best_deep gW gH a' n c' K zs deep w1 hT1 hR hbw hK hd')
      clear h hT hbw hk hK hd
      rcases hd' with hd | ⟨hd, hd2⟩
      · skip
        go_enter Tryd.func4, Tryd.ntmps4
        go_wp2_with (refine wpList_load_gd rfl (.tmp 3) rfl w.heap.size rfl G0 ?_)
        refine HGO.out.mono ?_
        rintro e w2 ⟨a', c', rfl, hO, hb2⟩
        have HB2 := hide (HB0.out.trans (hb2.mono HB0.out.size))
        have HG2 := hide (HG0.out.below hb2 HG0.out.lt)
        have HBE := hide (HBS.out a' c' w2 (Rd.of_own hO) (HT.out.mono HB2.out))
        clear hb2 hO G0 HGO
        go_wp2_with fail
        refine HBE.out.mono ?_
        rintro e w3 ⟨rfl, hb3⟩
        have HB3 := hide (HB2.out.trans (hb3.mono HB2.out.size))
        have G3 := HG2.out.below hb3 HG2.out.lt
        have HG3 := hide G3
        clear hb3 HBE HG2 HB2
        go_wp2_with (refine wpList_load_gd rfl (.tmp 3) rfl w.heap.size rfl G3 ?_)
        clear G3
        refine (HWM.out w3 HB3.out).mono ?_
        rintro e w4 ⟨rfl, hb4⟩
        have HB4 := hide (HB3.out.trans (hb4.mono HB3.out.size))
        have G4 := HG3.out.below hb4 HG3.out.lt
        have HG4 := hide G4
        clear hb4 HG3 HB3
        go_wp2_with fail
        go_ret
        exact ⟨by rfl, HB4.out⟩
      · skip
        go_enter Tryd.func4, Tryd.ntmps4
        go_wp2_with (refine wpList_load_gd rfl (.tmp 3) rfl w.heap.size rfl G0 ?_)
        refine HGO.out.mono ?_
        rintro e w2 ⟨a', c', rfl, hO, hb2⟩
        have HB2 := hide (HB0.out.trans (hb2.mono HB0.out.size))
        have HG2 := hide (HG0.out.below hb2 HG0.out.lt)
        have HBE := hide (HBS.out a' c' w2 (Rd.of_own hO) (HT.out.mono HB2.out))
        clear hb2 hO G0 HGO
        go_wp2_with fail
        refine HBE.out.mono ?_
        rintro e w3 ⟨rfl, hb3⟩
        have HB3 := hide (HB2.out.trans (hb3.mono HB2.out.size))
        have G3 := HG2.out.below hb3 HG2.out.lt
        have HG3 := hide G3
        clear hb3 HBE HG2 HB2
        go_wp2_with (refine wpList_load_gd rfl (.tmp 3) rfl w.heap.size rfl G3 ?_)
        clear G3
        refine (HWM.out w3 HB3.out).mono ?_
        rintro e w4 ⟨rfl, hb4⟩
        have HB4 := hide (HB3.out.trans (hb4.mono HB3.out.size))
        have G4 := HG3.out.below hb4 HG3.out.lt
        have HG4 := hide G4
        clear hb4 HG3 HB3
        go_wp2_with fail
        go_ret
        exact ⟨by rfl, HB4.out⟩
    obtain ⟨d, rfl⟩ := Int.eq_ofNat_of_zero_le hd.1
    have hd6 : d ≤ 6 := by omega
    have j1 : ¬ (d : Int) < 0 := by omega
    have j2 : ¬ (6 : Int) < (d : Int) := by omega
    have HBS := hide (fun a' c' w1 (hR : Rd w1 a' n c' zs) (hT1 : Tab w1) => Best_in gW gH a' n c' K d zs w1 hT1 hR hbw hK hd6)
    have HMV := hide (fun w1 (hb : Below w.heap.size w w1) => GridMover_any gW gH a n c zs hbw.n100 hbw.z.2 w1 (h.mono hb))
    have HBD := hide (fun (hM : mvO zs = 1 ∨ mvO zs = 2) w1 (hb : Below w.heap.size w w1) => bd_all gW gH K n hbw.wd hbw.ht hbw.mul hK d a c zs (mvO zs) 0 w1 hM (by omega) hbw.z (h.mono hb))
    have hm2 := mvO_12 zs
    obtain ⟨M, hM⟩ : ∃ M, mvO zs = M := ⟨_, rfl⟩
    rw [hM] at HBS HMV HBD hm2
    clear h hT hbw hk hK hd hd6 hM
    by_cases hM0 : M = 0
    · rw [if_pos hM0, if_pos hM0, if_pos hM0] at HBS
      subst hM0
      clear HBD
      go_enter Tryd.func4, Tryd.ntmps4
      go_wp2_with (refine wpList_load_gd rfl (.tmp 3) rfl w.heap.size rfl G0 ?_)
      refine HGO.out.mono ?_
      rintro e w2 ⟨a', c', rfl, hO, hb2⟩
      have HB2 := hide (HB0.out.trans (hb2.mono HB0.out.size))
      have HG2 := hide (HG0.out.below hb2 HG0.out.lt)
      have HBE := hide (HBS.out a' c' w2 (Rd.of_own hO) (HT.out.mono HB2.out))
      clear hb2 hO G0 HGO
      go_wp2_with fail
      refine HBE.out.mono ?_
      rintro e w3 ⟨rfl, hb3⟩
      have HB3 := hide (HB2.out.trans (hb3.mono HB2.out.size))
      have G3 := HG2.out.below hb3 HG2.out.lt
      have HG3 := hide G3
      clear hb3 HBE HG2 HB2
      go_wp2_with (refine wpList_load_gd rfl (.tmp 3) rfl w.heap.size rfl G3 ?_)
      clear G3
      refine (HWM.out w3 HB3.out).mono ?_
      rintro e w4 ⟨rfl, hb4⟩
      have HB4 := hide (HB3.out.trans (hb4.mono HB3.out.size))
      have G4 := HG3.out.below hb4 HG3.out.lt
      have HG4 := hide G4
      clear hb4 HG3 HB3
      go_wp2_with (refine wpList_load_gd rfl (.tmp 3) rfl w.heap.size rfl G4 ?_)
      clear G4
      refine (HMV.out w4 HB4.out).mono ?_
      rintro e w5 ⟨rfl, hb5⟩
      have HB5 := hide (HB4.out.trans (hb5.mono HB4.out.size))
      clear hb5
      go_wp2_with fail
      go_ret
      exact ⟨by rfl, HB5.out⟩
    · rw [if_neg hM0, if_neg hM0, if_neg hM0] at HBS
      have HBD := hide (HBD.out (by omega))
      obtain ⟨⟨Rv, Rc⟩, hR⟩ : ∃ P, rbd gW gH K d 0 zs M = P := ⟨_, rfl⟩
      rw [hR] at HBS HBD
      dsimp only at HBS HBD
      rw [Nat.zero_add] at HBD
      have hMz : ((M : Int) == 0) = false := by simp; omega
      clear hR hM0
      go_enter Tryd.func4, Tryd.ntmps4
      go_wp2_with (refine wpList_load_gd rfl (.tmp 3) rfl w.heap.size rfl G0 ?_)
      refine HGO.out.mono ?_
      rintro e w2 ⟨a', c', rfl, hO, hb2⟩
      have HB2 := hide (HB0.out.trans (hb2.mono HB0.out.size))
      have HG2 := hide (HG0.out.below hb2 HG0.out.lt)
      have HBE := hide (HBS.out a' c' w2 (Rd.of_own hO) (HT.out.mono HB2.out))
      clear hb2 hO G0 HGO
      go_wp2_with fail
      refine HBE.out.mono ?_
      rintro e w3 ⟨rfl, hb3⟩
      have HB3 := hide (HB2.out.trans (hb3.mono HB2.out.size))
      have G3 := HG2.out.below hb3 HG2.out.lt
      have HG3 := hide G3
      clear hb3 HBE HG2 HB2
      go_wp2_with (refine wpList_load_gd rfl (.tmp 3) rfl w.heap.size rfl G3 ?_)
      clear G3
      refine (HWM.out w3 HB3.out).mono ?_
      rintro e w4 ⟨rfl, hb4⟩
      have HB4 := hide (HB3.out.trans (hb4.mono HB3.out.size))
      have G4 := HG3.out.below hb4 HG3.out.lt
      have HG4 := hide G4
      clear hb4 HG3 HB3
      go_wp2_with (refine wpList_load_gd rfl (.tmp 3) rfl w.heap.size rfl G4 ?_)
      clear G4
      refine (HMV.out w4 HB4.out).mono ?_
      rintro e w5 ⟨rfl, hb5⟩
      have HB5 := hide (HB4.out.trans (hb5.mono HB4.out.size))
      have HG5 := hide (HG4.out.below hb5 HG4.out.lt)
      clear hb5
      go_upto_region 11 with fail
      refine wp_region_held (S := fun W4 => Gd W4 w.heap.size gW gH a n c) (by kernel_rfl) ?_
      change wpAnyH _ _ _ _ _ _ _ _ (World.drew _)
      have SW : Gd w5.drew w.heap.size gW gH a n c := HG5.out.below (Below.refl _ w5).drew HG5.out.lt
      refine wpAnyH_take (i := 0) (v := .agg (gdA gW gH a n c)) rfl (by kernel_rfl) (by kernel_rfl) (by kernel_rfl) (fun _ _ _ h => h) (yieldsIf_load_mid (by rfl) 24 _ rfl w.heap.size 0 (by rfl) [.int .i64 gW, .int .i64 gH, .slice a n c] _ (fun W hW => hW.range) Tryd.underlying24 rfl size24) SW ?_
      go_simp
      refine wpAnyH_take (i := 1) (v := .int .i64 (K : Nat)) rfl (by kernel_rfl) (by kernel_rfl) (by kernel_rfl) (fun _ _ _ h => h) (Or.inl ⟨by rfl, ?_⟩) SW ?_
      · intro W4 hW4
        go_simp <;> first | done | rfl | (rw [IntKind.wrap_i64]; omega) | omega
      go_simp
      refine wpAnyH_take (i := 2) (v := .int .i64 (d : Nat)) rfl (by kernel_rfl) (by kernel_rfl) (by kernel_rfl) (fun _ _ _ h => h) (Or.inl ⟨by rfl, ?_⟩) SW ?_
      · intro W4 hW4
        go_simp <;> first | done | rfl | (rw [IntKind.wrap_i64]; omega) | omega
      go_simp
      refine wpAnyH_take (i := 3) (v := .agg (gdA gW gH a n c)) rfl (by kernel_rfl) (by kernel_rfl) (by kernel_rfl) (fun _ _ _ h => h) (yieldsIf_load_mid (by rfl) 24 _ rfl w.heap.size 0 (by rfl) [.int .i64 gW, .int .i64 gH, .slice a n c] _ (fun W hW => hW.range) Tryd.underlying24 rfl size24) SW ?_
      go_simp
      refine wpAnyH_ready (rs := [4]) (by kernel_rfl) (by simp) ?_
      refine AllReadyH.cons rfl (fun K1 hK1 => ?_) AllReadyH.nil
      go_simp
      refine (HMV.out _ (HB5.out.drew)).mono ?_
      rintro e w6 ⟨rfl, hb6⟩
      have B6 : Below w.heap.size w w6 := (HB5.out.drew).trans (hb6.mono HB5.out.size)
      refine hK1.out _ _ (SW.below hb6 SW.lt) (fun SW => ?_)
      clear hK1 K1 hb6
      go_simp
      refine wpAnyH_ready (rs := [5]) (by kernel_rfl) (by simp) ?_
      refine AllReadyH.cons rfl (fun K1 hK1 => ?_) AllReadyH.nil
      go_simp
      refine (HBD.out _ B6).mono ?_
      rintro e w7 ⟨rfl, hb7⟩
      have HB7 := hide (B6.trans (hb7.mono B6.size))
      refine hK1.out _ _ (SW.below hb7 SW.lt) (fun SW => ?_)
      clear hK1 K1 hb7
      go_simp
      refine wpAnyH_take (i := 6) (v := .tuple #[.int .i64 Rv, .int .i64 Rc]) rfl (by kernel_rfl) (by kernel_rfl) (by kernel_rfl) (fun _ _ _ h => h) (Or.inl ⟨by rfl, ?_⟩) SW ?_
      · intro W4 hW4
        go_simp <;> first | done | rfl | (rw [IntKind.wrap_i64]; omega) | omega
      go_simp
      refine wpAnyH_take (i := 7) (v := .int .i64 Rv) rfl (by kernel_rfl) (by kernel_rfl) (by kernel_rfl) (fun _ _ _ h => h) (Or.inl ⟨by rfl, ?_⟩) SW ?_
      · intro W4 hW4
        go_simp <;> first | done | rfl | (rw [IntKind.wrap_i64]; omega) | omega
      go_simp
      refine wpAnyH_take (i := 8) (v := .int .i64 Rc) rfl (by kernel_rfl) (by kernel_rfl) (by kernel_rfl) (fun _ _ _ h => h) (Or.inl ⟨by rfl, ?_⟩) SW ?_
      · intro W4 hW4
        go_simp <;> first | done | rfl | (rw [IntKind.wrap_i64]; omega) | omega
      go_simp
      refine wpAnyH_take (i := 9) (v := .int .i64 Rv) rfl (by kernel_rfl) (by kernel_rfl) (by kernel_rfl) (fun _ _ _ h => h) (Or.inl ⟨by rfl, ?_⟩) SW ?_
      · intro W4 hW4
        go_simp <;> first | done | rfl | (rw [IntKind.wrap_i64]; omega) | omega
      go_simp
      refine wpAnyH_take (i := 10) (v := .int .i64 Rc) rfl (by kernel_rfl) (by kernel_rfl) (by kernel_rfl) (fun _ _ _ h => h) (Or.inl ⟨by rfl, ?_⟩) SW ?_
      · intro W4 hW4
        go_simp <;> first | done | rfl | (rw [IntKind.wrap_i64]; omega) | omega
      go_simp
      refine wpAnyH_done (by kernel_rfl) ?_ _
      clear SW B6
      go_wp2_with fail
      go_ret
      exact ⟨by rfl, HB7.out⟩

end Go.Proofs.YtaglhmkjdajgpaaDoor
