/-
  Draughts: a board turned round, by the law's own function, walked. No conditions beyond those that each theorem bears.
-/
import Derived.Test.YtnbaangnpoblfaaDoorTu
import Derived.Test.YtnbaangnpoblfaaDoorNe
namespace Go.Proofs.YtnbaangnpoblfaaDoor
open Go.RowKit Go.Shelf

theorem dg_setRow {w : World} {b : Nat} {ad ad' : Option Addr} {n c n' c' : Nat} {t t' : Int} (hb : Dg w b ad' n' c' t') : Dg (w.setRow b (dgA ad n c t)) b ad n c t ∧ Keeps (fun k => k = b) w (w.setRow b (dgA ad n c t)) := by
  have hb' : w.heap[b]? = _ := hb
  refine ⟨?_, ?_⟩
  · simp [Dg, World.setRow, Array.getElem?_modify, hb']
  · exact ⟨rfl, rfl, rfl, by simp [World.setRow], fun k _ hk => by simp [World.setRow, Array.getElem?_modify, show ¬ b = k from fun e => hk e.symm]⟩

/-- The board while it is turned. -/
def usL (Z : List Int) (k : Nat) : List Int := (List.range 33).map fun p => if 1 ≤ p ∧ p < k then -(Z.getD (33 - p) 0) else 0
theorem usL_one (Z : List Int) : usL Z 1 = zer 33 := by
  have h : ∀ p ∈ List.range 33, (if 1 ≤ p ∧ p < 1 then -(Z.getD (33 - p) 0) else 0) = 0 := fun p _ => if_neg (by omega)
  unfold usL
  rw [List.map_congr_left h]
  decide
theorem usL_set (Z : List Int) {k : Nat} (h1 : 1 ≤ k) (h2 : k ≤ 32) : (usL Z k).set k (-(Z.getD (33 - k) 0)) = usL Z (k + 1) := by
  apply List.ext_getElem?
  intro i
  unfold usL
  rw [List.getElem?_set]
  by_cases hi : i < 33
  · by_cases e : k = i
    · subst e
      simp [hi, h1]
    · simp only [e, if_false, List.getElem?_map, List.getElem?_range hi, Option.map_some, Option.some.injEq]
      by_cases q : 1 ≤ i ∧ i < k
      · rw [if_pos q, if_pos (by omega)]
      · rw [if_neg q, if_neg (by omega)]
  · rw [if_neg (by omega)]
    simp [hi]
theorem usL_end (Z : List Int) : usL Z 33 = upL Z := by
  apply List.ext_getElem?
  intro i
  by_cases hi : i < 33
  · have e1 : (upL Z)[i]? = some ((upL Z).getD i 0) := by simp [List.getD, upL_len, hi]
    rw [e1]
    unfold usL
    simp only [List.getElem?_map, List.getElem?_range hi, Option.map_some, Option.some.injEq]
    by_cases hz : i = 0
    · subst hz; rfl
    · rw [if_pos (by omega), upL_at _ (by omega) (by omega)]
  · rw [List.getElem?_eq_none (by simp [usL]; omega), List.getElem?_eq_none (by rw [upL_len]; omega)]

attribute [local go_sem] build24d
attribute [local irreducible] usL upL

set_option maxRecDepth 100000 in
set_option maxHeartbeats 8000000 in
theorem upside_any (t : Nat) (a : Option Addr) (c : Nat) (Z : List Int) (w : World) (h : Rd w a 33 c Z) (hM : Mb Z t) :
    Calls Tryd.prog 27 #[.agg (dgA a 33 c (t : Nat))] w fun e w' => ∃ a' c', e = .returned (.agg (dgA a' 33 c' ((3 - t : Nat)))) ∧ Rd w' a' 33 c' (upL Z) ∧ Below w.heap.size w w' := by
  have ht : t = 1 ∨ t = 2 := by have := hM.tt; omega
  have HOK : Hid (∀ r, 1 ≤ r → r ≤ 32 → -2 ≤ Z.getD r 0 ∧ Z.getD r 0 ≤ 2) := hide (fun r h1 h2 => by
    have h3 := hM.ok (r - 1) (by omega)
    rw [show r - 1 + 1 = r by omega] at h3
    unfold okP at h3
    simp only [decide_eq_true_eq] at h3
    omega)
  obtain ⟨u, hu⟩ : ∃ u : Nat, 3 - t = u := ⟨_, rfl⟩
  have hu3 : (3 : Int) - (t : Int) = (u : Int) := by omega
  rw [hu]
  obtain ⟨w1, hw1⟩ : ∃ w1, (w.alloc (.cells (dgA a 33 c (t : Nat)) 24)).alloc (.cells #[.slice none 0 0, .int .i64 0] 24) = w1 := ⟨_, rfl⟩
  have HB1 : Hid (Below w.heap.size w w1) := hide (by rw [← hw1]; exact ((Below.refl _ _).alloc (Nat.le_refl _) _).alloc (by simp) _)
  have D1 : Dg w1 w.heap.size a 33 c (t : Nat) := by rw [← hw1]; exact (Dg.new _ _ _ _ _).old _
  have HZ1 : Hid (Dg w1 (w.heap.size + 1) none 0 0 0) := hide (by
    rw [← hw1]
    have := Dg.new (w.alloc (.cells (dgA a 33 c (t : Nat)) 24)) none 0 0 0
    rw [World.size_alloc] at this
    exact this)
  have hs1 : w.heap.size + 2 ≤ w1.heap.size ∧ w1.heap.size ≤ w.heap.size + 2 := by rw [← hw1]; simp
  have R1 := h.mono HB1.out
  have hc1 := R1.cap
  have hc2 := R1.max
  unfold maxLen at hc2
  obtain ⟨zb, zo, rfl, hcz⟩ := R1.cells (by omega)
  have hzl : zb < w1.heap.size := World.block_lt_of_cell? w1 _ (hcz 0 (by omega))
  have HCZ : Hid (∀ i, i < 33 → w1.cell? ⟨zb, zo + i, none⟩ = some (.int .i64 (Z.getD i 0))) := hide hcz
  have HD1 := hide D1
  clear h hM R1 hcz D1
  go_enter Tryd.func27, Tryd.ntmps27
  go_upto_region 1 with fail
  clear hw1
  refine wp_region_held (S := fun W4 => Below w1.heap.size w1 W4) (by kernel_rfl) ?_
  change wpAnyH _ _ _ _ _ _ _ _ (World.drew _)
  have SW : Below w1.heap.size w1 w1.drew := (Below.refl _ _).drew
  obtain ⟨wd, hwd⟩ : ∃ wd, w1.drew = wd := ⟨_, rfl⟩
  rw [hwd] at SW ⊢
  clear hwd
  refine wpAnyH_take (i := 1) (v := .pointer (some ⟨w.heap.size, 1, none⟩)) rfl (by kernel_rfl) (by kernel_rfl) (by kernel_rfl) (fun _ _ _ h => h) (Or.inl ⟨by rfl, ?_⟩) SW ?_
  · intro W4 hW4
    go_simp <;> first | done | rfl | (rw [IntKind.wrap_i64]; omega) | omega
  go_simp
  refine wpAnyH_take (i := 2) (v := .int .i64 (t : Nat)) rfl (by kernel_rfl) (by kernel_rfl) (by kernel_rfl) (fun _ _ _ h => h) (Or.inl ⟨by rfl, ?_⟩) SW ?_
  · intro W4 hW4
    have x0 := (HD1.out.below hW4 HD1.out.lt).cells.2
    go_simp <;> first | done | rfl | (rw [IntKind.wrap_i64]; omega) | omega
  go_simp
  refine wpAnyH_take (i := 3) (v := .int .i64 (u : Nat)) rfl (by kernel_rfl) (by kernel_rfl) (by kernel_rfl) (fun _ _ _ h => h) (Or.inl ⟨by rfl, ?_⟩) SW ?_
  · intro W4 hW4
    go_simp <;> first | done | rfl | (rw [IntKind.wrap_i64]; omega) | omega
  go_simp
  refine wpAnyH_ready (rs := [0, 5]) (by kernel_rfl) (by simp) ?_
  refine AllReadyH.cons rfl (fun K1 hK1 => ?_) (AllReadyH.cons rfl (fun K1 hK1 => ?_) AllReadyH.nil)
  · obtain ⟨w2, hrun0, hO2, hg2⟩ := make_row 33 (by omega) wd
    have hrun : (Instr.makeSlice 22 (.int .i64 33) (.int .i64 33)).run Tryd.prog wd = .ok (.slice (some ⟨wd.heap.size, 0, none⟩) 33 33) w2 := hrun0
    have B2 : Below wd.heap.size wd w2 := (Below.refl _ wd).grown hg2 (Nat.le_refl _) (fun j hj => by cases hj)
    have hl2 : wd.heap.size < w2.heap.size := (hO2.lt _ rfl).2
    have hld := SW.size
    have HO2 := hide hO2
    clear hrun0 hO2 hg2
    go_simp
    refine hK1.out _ _ (SW.trans (B2.mono SW.size)) (fun SW => ?_)
    clear hK1 K1 hrun B2
    go_simp
    obtain ⟨cb, hcb⟩ : ∃ cb, wd.heap.size = cb := ⟨_, rfl⟩
    rw [hcb] at HO2 hl2 hld ⊢
    refine wpAnyH_take (i := 4) (v := .agg (dgA (some ⟨cb, 0, none⟩) 33 33 (u : Nat))) rfl (by kernel_rfl) (by kernel_rfl) (by kernel_rfl) (fun _ _ _ h => h) (Or.inl ⟨by rfl, ?_⟩) SW ?_
    · intro W4 hW4
      go_simp <;> first | done | rfl | (rw [IntKind.wrap_i64]; omega) | omega
    go_simp
    obtain ⟨w3, hw3⟩ : ∃ w3, w2.alloc (.cells #[.slice none 0 0, .int .i64 0] 24) = w3 := ⟨_, rfl⟩
    have B23 : Below w2.heap.size w2 w3 := by rw [← hw3]; exact (Below.refl _ _).alloc (Nat.le_refl _) _
    have K3 : Dg w3 w2.heap.size none 0 0 0 := by rw [← hw3]; exact Dg.new _ _ _ _ _
    refine wpAnyH_ready (rs := [5]) (by kernel_rfl) (by simp) ?_
    refine AllReadyH.cons rfl (fun K1 hK1 => ?_) AllReadyH.nil
    go_simp
    refine hK1.out _ _ (SW.trans (B23.mono SW.size)) (fun SW => ?_)
    clear hK1 K1 hw3
    go_simp
    obtain ⟨gb, hgb⟩ : ∃ gb, w2.heap.size = gb := ⟨_, rfl⟩
    rw [hgb] at K3 hl2 B23 ⊢
    refine wpAnyH_ready (rs := [6]) (by kernel_rfl) (by simp) ?_
    refine AllReadyH.cons rfl (fun K1 hK1 => ?_) AllReadyH.nil
    rw [if_pos (by rfl)]
    have hK3' : w3.heap[gb]? = _ := K3
    refine wp_store_row 24 (.tmp 3) (.tmp 9) rfl gb (dgA (some ⟨cb, 0, none⟩) 33 33 (u : Nat)) rfl rfl 24 _ hK3' size24 rfl (by simp [Value.oneCell']) ?_
    obtain ⟨G5, kk⟩ := dg_setRow (ad := some ⟨cb, 0, none⟩) (n := 33) (c := 33) (t := (u : Nat)) K3
    have SW5 : Below w1.heap.size w1 (w3.setRow gb (dgA (some ⟨cb, 0, none⟩) 33 33 (u : Nat))) := SW.trans (kk.below SW.size (fun k hk e => by omega))
    refine hK1.out _ _ SW5 (fun SW => ?_)
    clear hK1 K1 SW5 hK3'
    generalize w3.setRow gb (dgA (some ⟨cb, 0, none⟩) 33 33 (u : Nat)) = w5 at *
    have P5 : PW w5 cb cb 33 33 w5 (usL Z 1) := by
      refine ⟨Keeps.refl _ _, ?_⟩
      rw [usL_one]
      have hbb : Below gb w2 w5 := B23.trans (kk.below (by have := B23.size; omega) (fun k hk e => by omega))
      exact HO2.out.kept (row := none) ⟨hbb.os, hbb.tape, hbb.output, hbb.size, fun i hi _ => hbb.block i (by omega)⟩ (Or.inr (by simp [Value.ownBlock]))
    clear K3 kk B23 HO2 hcb hgb
    go_simp
    refine wpAnyH_done (by kernel_rfl) ?_ _
    have HG5 := hide G5
    have HP5 := hide P5
    have HB5 : Hid (Below w.heap.size w w5) := hide (HB1.out.trans (SW.mono HB1.out.size))
    have HD5 := hide (HD1.out.below SW HD1.out.lt)
    have HZ5 := hide (HZ1.out.below SW HZ1.out.lt)
    have HC5 : Hid (∀ i, i < 33 → w5.cell? ⟨zb, zo + i, none⟩ = some (.int .i64 (Z.getD i 0))) := hide (fun i hi => (SW.cell (p := ⟨zb, zo + i, none⟩) hzl).trans (HCZ.out i hi))
    clear SW G5 P5
    go_wp2_with fail
    go_loopw [4] (fun v wr => ∃ k : Nat, v = .int .i64 k ∧ 1 ≤ k ∧ k ≤ 33 ∧ Hid (PW w5 cb cb 33 33 wr (usL Z k))) (fun v _ => 33 - (intOf v).toNat)
    case atStart => exact ⟨1, rfl, by omega, by omega, HP5⟩
    case round =>
      obtain ⟨k, rfl, hk1, hk, hP⟩ := hrel
      by_cases hk2 : k < 33
      · have hk' : (k : Int) < 33 := by omega
        have HXA := hide (usL_set Z hk1 (by omega))
        obtain ⟨r, hr⟩ : ∃ r, 33 - k = r := ⟨_, rfl⟩
        have e2 : 33 - (k : Int) = (r : Int) := by omega
        have r33 : (r : Int) < 33 := by omega
        have hx1 := HOK.out r (by omega) (by omega)
        have hxc := HC5.out r (by omega)
        rw [hr] at HXA
        obtain ⟨x, hx⟩ : ∃ x, Z.getD r 0 = x := ⟨_, rfl⟩
        rw [hx] at HXA hx1 hxc
        have HXC : Hid (∀ W4, Keeps (fun q => q = cb) w5 W4 → W4.cell? ⟨zb, zo + r, none⟩ = some (.int .i64 x)) := hide (fun W4 h4 => h4.cell hxc (by show ¬ zb = cb; omega))
        have HPD := hide hP.out.drew
        clear hr hx hxc
        go_upto_region 5 with fail
        refine wp_region_held (S := fun W4 => Keeps (fun q => q = cb) w5 W4) (by kernel_rfl) ?_
        change wpAnyH _ _ _ _ _ _ _ _ (World.drew _)
        have SW : Keeps (fun q => q = cb) w5 wr.drew := HPD.out.k
        generalize wr.drew = wd at *
        have HGK : Hid (∀ W4, Keeps (fun q => q = cb) w5 W4 → W4.cell? ⟨gb, 0, none⟩ = some (.slice (some ⟨cb, 0, none⟩) 33 33)) := hide (fun W4 h4 => (HG5.out.keeps h4 (by show ¬ gb = cb; omega)).cells.1)
        have HDK : Hid (∀ W4, Keeps (fun q => q = cb) w5 W4 → W4.cell? ⟨w.heap.size, 0, none⟩ = some (.slice (some ⟨zb, zo, none⟩) 33 c)) := hide (fun W4 h4 => (HD5.out.keeps h4 (by show ¬ w.heap.size = cb; omega)).cells.1)
        refine wpAnyH_take (i := 0) (v := .pointer (some ⟨gb, 0, none⟩)) rfl (by kernel_rfl) (by kernel_rfl) (by kernel_rfl) (fun _ _ _ h => h) (Or.inl ⟨by rfl, ?_⟩) SW ?_
        · intro W4 hW4
          go_simp <;> first | done | rfl | (rw [IntKind.wrap_i64]; omega) | omega
        go_simp
        refine wpAnyH_take (i := 1) (v := .slice (some ⟨cb, 0, none⟩) 33 33) rfl (by kernel_rfl) (by kernel_rfl) (by kernel_rfl) (fun _ _ _ h => h) (Or.inl ⟨by rfl, ?_⟩) SW ?_
        · intro W4 hW4
          have x0 := HGK.out W4 hW4
          go_simp <;> first | done | rfl | (rw [IntKind.wrap_i64]; omega) | omega
        go_simp
        refine wpAnyH_take (i := 2) (v := .int .i64 (k : Nat)) rfl (by kernel_rfl) (by kernel_rfl) (by kernel_rfl) (fun _ _ _ h => h) (Or.inl ⟨by rfl, ?_⟩) SW ?_
        · intro W4 hW4
          go_simp <;> first | done | rfl | (rw [IntKind.wrap_i64]; omega) | omega
        go_simp
        refine wpAnyH_take (i := 3) (v := .pointer (some ⟨w.heap.size, 0, none⟩)) rfl (by kernel_rfl) (by kernel_rfl) (by kernel_rfl) (fun _ _ _ h => h) (Or.inl ⟨by rfl, ?_⟩) SW ?_
        · intro W4 hW4
          go_simp <;> first | done | rfl | (rw [IntKind.wrap_i64]; omega) | omega
        go_simp
        refine wpAnyH_take (i := 4) (v := .slice (some ⟨zb, zo, none⟩) 33 c) rfl (by kernel_rfl) (by kernel_rfl) (by kernel_rfl) (fun _ _ _ h => h) (Or.inl ⟨by rfl, ?_⟩) SW ?_
        · intro W4 hW4
          have x0 := HDK.out W4 hW4
          go_simp <;> first | done | rfl | (rw [IntKind.wrap_i64]; omega) | omega
        go_simp
        refine wpAnyH_take (i := 5) (v := .int .i64 (k : Nat)) rfl (by kernel_rfl) (by kernel_rfl) (by kernel_rfl) (fun _ _ _ h => h) (Or.inl ⟨by rfl, ?_⟩) SW ?_
        · intro W4 hW4
          go_simp <;> first | done | rfl | (rw [IntKind.wrap_i64]; omega) | omega
        go_simp
        refine wpAnyH_take (i := 6) (v := .int .i64 (r : Nat)) rfl (by kernel_rfl) (by kernel_rfl) (by kernel_rfl) (fun _ _ _ h => h) (Or.inl ⟨by rfl, ?_⟩) SW ?_
        · intro W4 hW4
          go_simp <;> first | done | rfl | (rw [IntKind.wrap_i64]; omega) | omega
        go_simp
        refine wpAnyH_take (i := 7) (v := .pointer (some ⟨zb, zo + r, none⟩)) rfl (by kernel_rfl) (by kernel_rfl) (by kernel_rfl) (fun _ _ _ h => h) (Or.inl ⟨by rfl, ?_⟩) SW ?_
        · intro W4 hW4
          go_simp <;> first | done | rfl | (rw [IntKind.wrap_i64]; omega) | omega
        go_simp
        refine wpAnyH_take (i := 8) (v := .int .i64 x) rfl (by kernel_rfl) (by kernel_rfl) (by kernel_rfl) (fun _ _ _ h => h) (Or.inl ⟨by rfl, ?_⟩) SW ?_
        · intro W4 hW4
          have x0 := HXC.out W4 hW4
          go_simp <;> first | done | rfl | (rw [IntKind.wrap_i64]; omega) | omega
        go_simp
        refine wpAnyH_take (i := 9) (v := .int .i64 (-x)) rfl (by kernel_rfl) (by kernel_rfl) (by kernel_rfl) (fun _ _ _ h => h) (Or.inl ⟨by rfl, ?_⟩) SW ?_
        · intro W4 hW4
          go_simp <;> first | done | rfl | (rw [IntKind.wrap_i64]; omega) | omega
        go_simp
        refine wpAnyH_take (i := 10) (v := .pointer (some ⟨cb, k, none⟩)) rfl (by kernel_rfl) (by kernel_rfl) (by kernel_rfl) (fun _ _ _ h => h) (Or.inl ⟨by rfl, ?_⟩) SW ?_
        · intro W4 hW4
          go_simp <;> first | done | rfl | (rw [IntKind.wrap_i64]; omega) | omega
        go_simp
        refine wpAnyH_ready (rs := [11]) (by kernel_rfl) (by simp) ?_
        refine AllReadyH.cons rfl (fun K1 hK1 => ?_) AllReadyH.nil
        go_simp
        obtain ⟨⟨v1, c1⟩, f1⟩ := HPD.out.cell (show k < 33 by omega)
        have HS1 := hide (HPD.out.set k (-x))
        go_simp
        refine hK1.out _ _ HS1.out.k (fun SW => ?_)
        clear hK1 K1 c1 f1
        go_simp
        refine wpAnyH_done (by kernel_rfl) ?_ _
        rw [HXA.out] at HS1
        clear SW
        go_wp2_with fail
        exact ⟨⟨k + 1, by go_num, by omega, by omega, HS1⟩, by simp [intOf]; omega⟩
      · obtain rfl : k = 33 := by omega
        have HEN := hide (usL_end Z)
        have G6 := HG5.out.keeps hP.out.k (show ¬ gb = cb by omega)
        have Z6 := HZ5.out.keeps hP.out.k (show ¬ w.heap.size + 1 = cb by omega)
        have hs6 := hP.out.k.size
        go_wp2_with (first
          | refine wpList_load_dg rfl (.tmp 3) rfl gb rfl G6 ?_
          | (refine wpList_store_dg rfl (.tmp 2) (.tmp 25) rfl (w.heap.size + 1) rfl rfl Z6 ?_; intro w7 k7 kk7))
        refine bodyPost_ret (results_dg rfl _ _ (w.heap.size + 1) rfl k7) rfl ⟨_, _, rfl, ?_, ?_⟩
        · rw [← HEN.out]
          exact Rd.of_own (own_keeps hP.out.o kk7 (by omega))
        · exact HB5.out.trans (((hP.out.k.mono (Y := fun q => w.heap.size ≤ q) (fun q _ e => by omega)).trans (kk7.mono (fun q _ e => by omega))).below (B := w.heap.size) HB5.out.size (fun q hq e => by omega))
  · obtain ⟨wx, hwx⟩ : ∃ wx, wd.alloc (.cells #[.slice none 0 0, .int .i64 0] 24) = wx := ⟨_, rfl⟩
    have BX : Below wd.heap.size wd wx := by rw [← hwx]; exact (Below.refl _ _).alloc (Nat.le_refl _) _
    have KX : Dg wx wd.heap.size none 0 0 0 := by rw [← hwx]; exact Dg.new _ _ _ _ _
    have hld := SW.size
    have hlx := KX.lt
    go_simp
    refine hK1.out _ _ (SW.trans (BX.mono SW.size)) (fun SW => ?_)
    clear hK1 K1 hwx BX
    go_simp
    obtain ⟨gb, hgb⟩ : ∃ gb, wd.heap.size = gb := ⟨_, rfl⟩
    rw [hgb] at KX hld hlx ⊢
    obtain ⟨w3, hrun0, hO2, hg2⟩ := make_row 33 (by omega) wx
    have hrun : (Instr.makeSlice 22 (.int .i64 33) (.int .i64 33)).run Tryd.prog wx = .ok (.slice (some ⟨wx.heap.size, 0, none⟩) 33 33) w3 := hrun0
    have B2 : Below wx.heap.size wx w3 := (Below.refl _ wx).grown hg2 (Nat.le_refl _) (fun j hj => by cases hj)
    have K3 : Dg w3 gb none 0 0 0 := KX.below B2 hlx
    have HO2 := hide hO2
    clear hrun0 hO2 hg2 KX
    refine wpAnyH_ready (rs := [0]) (by kernel_rfl) (by simp) ?_
    refine AllReadyH.cons rfl (fun K1 hK1 => ?_) AllReadyH.nil
    go_simp
    refine hK1.out _ _ (SW.trans (B2.mono SW.size)) (fun SW => ?_)
    clear hK1 K1 hrun B2
    go_simp
    obtain ⟨cb, hcb⟩ : ∃ cb, wx.heap.size = cb := ⟨_, rfl⟩
    rw [hcb] at HO2 hlx ⊢
    refine wpAnyH_take (i := 4) (v := .agg (dgA (some ⟨cb, 0, none⟩) 33 33 (u : Nat))) rfl (by kernel_rfl) (by kernel_rfl) (by kernel_rfl) (fun _ _ _ h => h) (Or.inl ⟨by rfl, ?_⟩) SW ?_
    · intro W4 hW4
      go_simp <;> first | done | rfl | (rw [IntKind.wrap_i64]; omega) | omega
    go_simp
    refine wpAnyH_ready (rs := [6]) (by kernel_rfl) (by simp) ?_
    refine AllReadyH.cons rfl (fun K1 hK1 => ?_) AllReadyH.nil
    rw [if_pos (by rfl)]
    have hK3' : w3.heap[gb]? = _ := K3
    refine wp_store_row 24 (.tmp 3) (.tmp 9) rfl gb (dgA (some ⟨cb, 0, none⟩) 33 33 (u : Nat)) rfl rfl 24 _ hK3' size24 rfl (by simp [Value.oneCell']) ?_
    obtain ⟨G5, kk⟩ := dg_setRow (ad := some ⟨cb, 0, none⟩) (n := 33) (c := 33) (t := (u : Nat)) K3
    have SW5 : Below w1.heap.size w1 (w3.setRow gb (dgA (some ⟨cb, 0, none⟩) 33 33 (u : Nat))) := SW.trans (kk.below SW.size (fun k hk e => by omega))
    refine hK1.out _ _ SW5 (fun SW => ?_)
    clear hK1 K1 SW5 hK3'
    generalize w3.setRow gb (dgA (some ⟨cb, 0, none⟩) 33 33 (u : Nat)) = w5 at *
    have P5 : PW w5 cb cb 33 33 w5 (usL Z 1) := ⟨Keeps.refl _ _, by rw [usL_one]; exact own_keeps HO2.out kk (by omega)⟩
    clear K3 kk HO2 hcb hgb
    go_simp
    refine wpAnyH_done (by kernel_rfl) ?_ _
    have HG5 := hide G5
    have HP5 := hide P5
    have HB5 : Hid (Below w.heap.size w w5) := hide (HB1.out.trans (SW.mono HB1.out.size))
    have HD5 := hide (HD1.out.below SW HD1.out.lt)
    have HZ5 := hide (HZ1.out.below SW HZ1.out.lt)
    have HC5 : Hid (∀ i, i < 33 → w5.cell? ⟨zb, zo + i, none⟩ = some (.int .i64 (Z.getD i 0))) := hide (fun i hi => (SW.cell (p := ⟨zb, zo + i, none⟩) hzl).trans (HCZ.out i hi))
    clear SW G5 P5
    go_wp2_with fail
    go_loopw [4] (fun v wr => ∃ k : Nat, v = .int .i64 k ∧ 1 ≤ k ∧ k ≤ 33 ∧ Hid (PW w5 cb cb 33 33 wr (usL Z k))) (fun v _ => 33 - (intOf v).toNat)
    case atStart => exact ⟨1, rfl, by omega, by omega, HP5⟩
    case round =>
      obtain ⟨k, rfl, hk1, hk, hP⟩ := hrel
      by_cases hk2 : k < 33
      · have hk' : (k : Int) < 33 := by omega
        have HXA := hide (usL_set Z hk1 (by omega))
        obtain ⟨r, hr⟩ : ∃ r, 33 - k = r := ⟨_, rfl⟩
        have e2 : 33 - (k : Int) = (r : Int) := by omega
        have r33 : (r : Int) < 33 := by omega
        have hx1 := HOK.out r (by omega) (by omega)
        have hxc := HC5.out r (by omega)
        rw [hr] at HXA
        obtain ⟨x, hx⟩ : ∃ x, Z.getD r 0 = x := ⟨_, rfl⟩
        rw [hx] at HXA hx1 hxc
        have HXC : Hid (∀ W4, Keeps (fun q => q = cb) w5 W4 → W4.cell? ⟨zb, zo + r, none⟩ = some (.int .i64 x)) := hide (fun W4 h4 => h4.cell hxc (by show ¬ zb = cb; omega))
        have HPD := hide hP.out.drew
        clear hr hx hxc
        go_upto_region 5 with fail
        refine wp_region_held (S := fun W4 => Keeps (fun q => q = cb) w5 W4) (by kernel_rfl) ?_
        change wpAnyH _ _ _ _ _ _ _ _ (World.drew _)
        have SW : Keeps (fun q => q = cb) w5 wr.drew := HPD.out.k
        generalize wr.drew = wd at *
        have HGK : Hid (∀ W4, Keeps (fun q => q = cb) w5 W4 → W4.cell? ⟨gb, 0, none⟩ = some (.slice (some ⟨cb, 0, none⟩) 33 33)) := hide (fun W4 h4 => (HG5.out.keeps h4 (by show ¬ gb = cb; omega)).cells.1)
        have HDK : Hid (∀ W4, Keeps (fun q => q = cb) w5 W4 → W4.cell? ⟨w.heap.size, 0, none⟩ = some (.slice (some ⟨zb, zo, none⟩) 33 c)) := hide (fun W4 h4 => (HD5.out.keeps h4 (by show ¬ w.heap.size = cb; omega)).cells.1)
        refine wpAnyH_take (i := 0) (v := .pointer (some ⟨gb, 0, none⟩)) rfl (by kernel_rfl) (by kernel_rfl) (by kernel_rfl) (fun _ _ _ h => h) (Or.inl ⟨by rfl, ?_⟩) SW ?_
        · intro W4 hW4
          go_simp <;> first | done | rfl | (rw [IntKind.wrap_i64]; omega) | omega
        go_simp
        refine wpAnyH_take (i := 1) (v := .slice (some ⟨cb, 0, none⟩) 33 33) rfl (by kernel_rfl) (by kernel_rfl) (by kernel_rfl) (fun _ _ _ h => h) (Or.inl ⟨by rfl, ?_⟩) SW ?_
        · intro W4 hW4
          have x0 := HGK.out W4 hW4
          go_simp <;> first | done | rfl | (rw [IntKind.wrap_i64]; omega) | omega
        go_simp
        refine wpAnyH_take (i := 2) (v := .int .i64 (k : Nat)) rfl (by kernel_rfl) (by kernel_rfl) (by kernel_rfl) (fun _ _ _ h => h) (Or.inl ⟨by rfl, ?_⟩) SW ?_
        · intro W4 hW4
          go_simp <;> first | done | rfl | (rw [IntKind.wrap_i64]; omega) | omega
        go_simp
        refine wpAnyH_take (i := 3) (v := .pointer (some ⟨w.heap.size, 0, none⟩)) rfl (by kernel_rfl) (by kernel_rfl) (by kernel_rfl) (fun _ _ _ h => h) (Or.inl ⟨by rfl, ?_⟩) SW ?_
        · intro W4 hW4
          go_simp <;> first | done | rfl | (rw [IntKind.wrap_i64]; omega) | omega
        go_simp
        refine wpAnyH_take (i := 4) (v := .slice (some ⟨zb, zo, none⟩) 33 c) rfl (by kernel_rfl) (by kernel_rfl) (by kernel_rfl) (fun _ _ _ h => h) (Or.inl ⟨by rfl, ?_⟩) SW ?_
        · intro W4 hW4
          have x0 := HDK.out W4 hW4
          go_simp <;> first | done | rfl | (rw [IntKind.wrap_i64]; omega) | omega
        go_simp
        refine wpAnyH_take (i := 5) (v := .int .i64 (k : Nat)) rfl (by kernel_rfl) (by kernel_rfl) (by kernel_rfl) (fun _ _ _ h => h) (Or.inl ⟨by rfl, ?_⟩) SW ?_
        · intro W4 hW4
          go_simp <;> first | done | rfl | (rw [IntKind.wrap_i64]; omega) | omega
        go_simp
        refine wpAnyH_take (i := 6) (v := .int .i64 (r : Nat)) rfl (by kernel_rfl) (by kernel_rfl) (by kernel_rfl) (fun _ _ _ h => h) (Or.inl ⟨by rfl, ?_⟩) SW ?_
        · intro W4 hW4
          go_simp <;> first | done | rfl | (rw [IntKind.wrap_i64]; omega) | omega
        go_simp
        refine wpAnyH_take (i := 7) (v := .pointer (some ⟨zb, zo + r, none⟩)) rfl (by kernel_rfl) (by kernel_rfl) (by kernel_rfl) (fun _ _ _ h => h) (Or.inl ⟨by rfl, ?_⟩) SW ?_
        · intro W4 hW4
          go_simp <;> first | done | rfl | (rw [IntKind.wrap_i64]; omega) | omega
        go_simp
        refine wpAnyH_take (i := 8) (v := .int .i64 x) rfl (by kernel_rfl) (by kernel_rfl) (by kernel_rfl) (fun _ _ _ h => h) (Or.inl ⟨by rfl, ?_⟩) SW ?_
        · intro W4 hW4
          have x0 := HXC.out W4 hW4
          go_simp <;> first | done | rfl | (rw [IntKind.wrap_i64]; omega) | omega
        go_simp
        refine wpAnyH_take (i := 9) (v := .int .i64 (-x)) rfl (by kernel_rfl) (by kernel_rfl) (by kernel_rfl) (fun _ _ _ h => h) (Or.inl ⟨by rfl, ?_⟩) SW ?_
        · intro W4 hW4
          go_simp <;> first | done | rfl | (rw [IntKind.wrap_i64]; omega) | omega
        go_simp
        refine wpAnyH_take (i := 10) (v := .pointer (some ⟨cb, k, none⟩)) rfl (by kernel_rfl) (by kernel_rfl) (by kernel_rfl) (fun _ _ _ h => h) (Or.inl ⟨by rfl, ?_⟩) SW ?_
        · intro W4 hW4
          go_simp <;> first | done | rfl | (rw [IntKind.wrap_i64]; omega) | omega
        go_simp
        refine wpAnyH_ready (rs := [11]) (by kernel_rfl) (by simp) ?_
        refine AllReadyH.cons rfl (fun K1 hK1 => ?_) AllReadyH.nil
        go_simp
        obtain ⟨⟨v1, c1⟩, f1⟩ := HPD.out.cell (show k < 33 by omega)
        have HS1 := hide (HPD.out.set k (-x))
        go_simp
        refine hK1.out _ _ HS1.out.k (fun SW => ?_)
        clear hK1 K1 c1 f1
        go_simp
        refine wpAnyH_done (by kernel_rfl) ?_ _
        rw [HXA.out] at HS1
        clear SW
        go_wp2_with fail
        exact ⟨⟨k + 1, by go_num, by omega, by omega, HS1⟩, by simp [intOf]; omega⟩
      · obtain rfl : k = 33 := by omega
        have HEN := hide (usL_end Z)
        have G6 := HG5.out.keeps hP.out.k (show ¬ gb = cb by omega)
        have Z6 := HZ5.out.keeps hP.out.k (show ¬ w.heap.size + 1 = cb by omega)
        have hs6 := hP.out.k.size
        go_wp2_with (first
          | refine wpList_load_dg rfl (.tmp 3) rfl gb rfl G6 ?_
          | (refine wpList_store_dg rfl (.tmp 2) (.tmp 25) rfl (w.heap.size + 1) rfl rfl Z6 ?_; intro w7 k7 kk7))
        refine bodyPost_ret (results_dg rfl _ _ (w.heap.size + 1) rfl k7) rfl ⟨_, _, rfl, ?_, ?_⟩
        · rw [← HEN.out]
          exact Rd.of_own (own_keeps hP.out.o kk7 (by omega))
        · exact HB5.out.trans (((hP.out.k.mono (Y := fun q => w.heap.size ≤ q) (fun q _ e => by omega)).trans (kk7.mono (fun q _ e => by omega))).below (B := w.heap.size) HB5.out.size (fun q hq e => by omega))

end Go.Proofs.YtnbaangnpoblfaaDoor
