/-
  Chess problems: the best value and its first move, as the document finds them one move deeper, walked. No conditions beyond those that each theorem bears.
-/
import Derived.Test.YtdmlamnonbmboaaDoorQ47
namespace Go.Proofs.YtdmlamnonbmboaaDoor
open Go.RowKit Go.Shelf

attribute [local irreducible] mvs nxP mtP skP ckP mS pci bG bStep
attribute [local go_sem] Oper.semAt_some wide_fn wide_fn0 wide_depth

set_option maxRecDepth 100000 in
set_option maxHeartbeats 16000000 in
theorem BestOf_on (l : Nat) (hl : l ≤ 9) (dv : Int) (ih : ∀ q, MayP q → ∀ ply : Int, 0 ≤ ply → ply + (l : Int) = dv → ∀ a c w, Rd w a 64 c q.Z → Calls Tryd.prog 16 #[.agg (chP a c q), .int .i64 dv, .int .i64 ply] w fun r w' => r = .returned (.tuple #[.int .i64 (bG (-5000) l ply q).1, .agg (mvC (bG (-5000) l ply q).2).toArray]) ∧ Below w.heap.size w w')
    (a : Option Addr) (c : Nat) (p : Ps) (hM : MayP p) (ply : Int) (hp0 : 0 ≤ ply) (hp1 : ply + ((l + 1 : Nat) : Int) = dv) (hd9 : dv ≤ 900) (w : World) (hR : Rd w a 64 c p.Z) (hmt : mtP p = false) (hsk : skP p = false) :
    Calls Tryd.prog 16 #[.agg (chP a c p), .int .i64 dv, .int .i64 ply] w fun r w' => r = .returned (.tuple #[.int .i64 (bG (-5000) (l + 1) ply p).1, .agg (mvC (bG (-5000) (l + 1) ply p).2).toArray]) ∧ Below w.heap.size w w' := by
  obtain ⟨w1, hw1⟩ : ∃ w1, (w.alloc (.cells (chP a c p) 24)).alloc (.cells #[.int .i64 0, .int .i64 0, .int .i64 0] 42) = w1 := ⟨_, rfl⟩
  obtain ⟨g, hg⟩ : ∃ g, w.heap.size = g := ⟨_, rfl⟩
  have B1 : Below w.heap.size w w1 := by rw [← hw1]; exact ((Below.refl _ w).alloc (Nat.le_refl _) _).alloc (by simp) _
  have s1 : w1.heap.size = g + 2 := by rw [← hw1, ← hg]; simp
  have C1 : Ch w1 g a 64 c (p.t : Nat) (p.k : Nat) p.e (p.h : Nat) (p.f : Nat) := by rw [← hw1, ← hg]; exact (Ch.new w a 64 c _ _ _ _ _).old _
  have M1 : Vb w1 (g + 1) 42 (mvC (0, 0, 0)) := by
    rw [← hw1, ← hg]
    have h := Vb.new (w.alloc (.cells (chP a c p) 24)) 42 [.int .i64 0, .int .i64 0, .int .i64 0]
    rw [World.size_alloc] at h
    exact h
  have hR1 := hR.mono B1
  have HMA := hide (MovesAll_any a c p hM w1 hR1)
  have HCH : Hid (∀ W, Below w1.heap.size w1 W → Ch W g a 64 c (p.t : Nat) (p.k : Nat) p.e (p.h : Nat) (p.f : Nat)) := hide (fun W hb => C1.below hb C1.lt)
  have HM1 := hide M1
  have HB1 := hide B1
  have HS1 := hide s1
  have HG := hide hg
  have HDN : Hid (∀ m ∈ mvs p, ∀ W, Below w1.heap.size w1 W → Calls Tryd.prog 30 #[.agg (chP a c p), .agg (mvC m).toArray] W fun r w' => ∃ rb c', r = .returned (.agg (chP (some ⟨rb, 0, none⟩) c' (nxP p m))) ∧ Rd w' (some ⟨rb, 0, none⟩) 64 c' (nxP p m).Z ∧ W.heap.size ≤ rb ∧ Below W.heap.size W w') := hide (fun m hm W hb => done_nx a c p hM m hm W (hR1.mono hb))
  have HIH := hide (fun m (hm : m ∈ mvs p) a' c' W (h : Rd W a' 64 c' (nxP p m).Z) => ih (nxP p m) (may_nx hM hm) (ply + 1) (by omega) (by omega) a' c' W h)
  have HBD := hide (fun m (hm : m ∈ mvs p) => bG_bd (lo := -5000) (by omega) l (ply + 1) (nxP p m) (may_nx hM hm) (by omega) (by omega))
  have HRS : Hid ((mvs p).foldl (bStep fun m => (bG (-5000) l (ply + 1) (nxP p m)).1) (-5000, (0, 0, 0)) = bG (-5000) (l + 1) ply p) := hide (bG_on hmt hsk).symm
  have hne := mvs_ne hmt hsk
  have ed : (ply == dv) = false := by rw [beq_eq_false_iff_ne]; omega
  have HEP : Hid (IntKind.i64.wrap (ply + 1) = ply + 1) := hide (by rw [IntKind.wrap_i64]; omega)
  obtain ⟨XS, hXS⟩ : ∃ XS, mvs p = XS := ⟨_, rfl⟩
  rw [hXS] at HMA HDN HIH HBD HRS hne
  obtain ⟨RF, hRF⟩ : ∃ RF : Nat × Nat × Nat → Int × (Nat × Nat × Nat), (fun m => bG (-5000) l (ply + 1) (nxP p m)) = RF := ⟨_, rfl⟩
  have HRF : Hid (∀ m, bG (-5000) l (ply + 1) (nxP p m) = RF m) := hide (fun m => by rw [← hRF])
  have hRS2 : (fun m => (bG (-5000) l (ply + 1) (nxP p m)).1) = fun m => (RF m).1 := by rw [← hRF]
  rw [hRS2] at HRS
  obtain ⟨rs, hrs⟩ : ∃ rs, bG (-5000) (l + 1) ply p = rs := ⟨_, rfl⟩
  rw [hrs] at HRS ⊢
  have hXL : XS.length ≤ 16384 := by rw [← hXS]; exact mvs_len p
  clear B1 hR hR1 hM ih M1 s1 hXS hRF hRS2 hrs hmt hsk hl
  go_enter Tryd.func16, Tryd.ntmps16
  go_upto_region 1 with fail
  try rw [hg]
  clear hw1 hg
  go_wp2_with (refine wpList_load_ch rfl (.tmp 3) rfl g rfl C1 ?_)
  refine HMA.out.mono ?_
  rintro r w2 ⟨ad, cp, rfl, hO, hb2⟩
  obtain ⟨hlen, hcp, hcm, hcells⟩ := (Mr.of_own hO).at
  obtain ⟨M, hMl⟩ : ∃ M, XS.length = M := ⟨_, rfl⟩
  rw [hMl] at hXL hcp hcells
  have hM0 : 0 < M := by
    rw [← hMl]
    cases XS with
    | nil => exact absurd rfl hne
    | cons x r => exact Nat.succ_pos _
  have e0 : (((M : Nat) : Int) == 0) = false := by rw [beq_eq_false_iff_ne]; omega
  have HML := hide hMl
  have HCL := hide hcells
  have HB2 := hide hb2
  unfold maxLen at hcm
  try rw [hMl]
  clear hO hb2 hcells hlen hMl C1 HMA hne
  obtain ⟨e, hee⟩ : ∃ e, w2.heap.size = e := ⟨_, rfl⟩
  obtain ⟨w3, hw3⟩ : ∃ w3, w2.alloc (.cells #[.int .i64 0, .int .i64 0, .int .i64 0] 42) = w3 := ⟨_, rfl⟩
  have V3 : Vb w3 e 42 (mvC (0, 0, 0)) := by rw [← hw3, ← hee]; exact Vb.new w2 42 _
  have b23 : Below w2.heap.size w2 w3 := by rw [← hw3]; exact (Below.refl _ _).alloc (Nat.le_refl _) _
  have s3 : w3.heap.size = e + 1 := by rw [← hw3, ← hee]; simp
  have HX3 : Hid (∀ W, Below e w3 W → Below w2.heap.size w2 W) := hide (fun W hW => b23.trans (by rw [hee]; exact hW))
  have HV3 := hide V3
  have HE : Hid (w2.heap.size = e ∧ g + 2 ≤ e ∧ w3.heap.size = e + 1) := hide ⟨hee, by rw [← hee]; have := HB2.out.size; have := HS1.out; omega, s3⟩
  clear V3 b23 s3
  go_upto_region 11 with fail
  try rw [hw3]
  try rw [hee]
  clear hw3 hee
  go_wp2_with fail
  go_loopw [11, 13] (fun u v wr => ∃ (i : Nat) (bv : Int) (bm : Nat × Nat × Nat), v = .int .i64 i ∧ i ≤ M ∧ u = .int .i64 bv ∧ Hid ((XS.take i).foldl (bStep fun m => (RF m).1) (-5000, (0, 0, 0)) = (bv, bm)) ∧ Hid (Vb wr e 42 (mvC bm)) ∧ Hid (Below e w3 wr)) (fun _ v _ => M - (intOf v).toNat)
  case atStart => exact ⟨0, -5000, (0, 0, 0), rfl, by omega, rfl, hide rfl, HV3, hide (Below.refl _ _)⟩
  case round =>
    obtain ⟨i, bv, bm, rfl, hi, rfl, hac, hV, hb⟩ := hrel
    by_cases hlt : i < M
    · have hlt' : (i : Int) < (M : Int) := by omega
      obtain ⟨m, hm⟩ : ∃ m, XS[i]? = some m := ⟨XS[i]'(by rw [HML.out]; exact hlt), List.getElem?_eq_getElem _⟩
      obtain ⟨mb, rfl, hc⟩ := HCL.out (by omega)
      have hmm : m ∈ XS := List.mem_of_getElem? hm
      have HDm := hide (HDN.out m hmm)
      have HIm := hide (HIH.out m hmm)
      have hbd := HBD.out m hmm
      rw [HRF.out m] at HIm hbd
      have HNX : Hid ((XS.take (i + 1)).foldl (bStep fun m => (RF m).1) (-5000, (0, 0, 0)) = bStep (fun m => (RF m).1) (bv, bm) m) := hide (by rw [List.take_add_one, hm, List.foldl_append, hac.out]; rfl)
      have HST : Hid (bStep (fun m => (RF m).1) (bv, bm) m = if bv < -(RF m).1 then (-(RF m).1, m) else (bv, bm)) := hide (by unfold bStep; rfl)
      obtain ⟨ov, hov⟩ : ∃ ov, (RF m).1 = ov := ⟨_, rfl⟩
      obtain ⟨om, hom⟩ : ∃ om, (RF m).2 = om := ⟨_, rfl⟩
      rw [hov] at hbd HST HIm
      rw [hom] at HIm
      obtain ⟨ob1, ob2⟩ := hbd
      have HBW : Hid (∀ W, Below e wr W → Below e w3 W) := hide (fun W hW => hb.out.trans hW)
      have HBX : Hid (∀ W, Below e wr W → Below w1.heap.size w1 W) := hide (fun W hW => HB2.out.trans ((HX3.out W (HBW.out W hW)).mono HB2.out.size))
      have HCM : Hid (∀ W, Below e wr W → W.cell? ⟨mb, i * 3, none⟩ = some (.int .i64 (m.1 : Nat)) ∧ W.cell? ⟨mb, i * 3 + 1, none⟩ = some (.int .i64 (m.2.1 : Nat)) ∧ W.cell? ⟨mb, i * 3 + 2, none⟩ = some (.int .i64 (m.2.2 : Nat))) := hide (fun W hW => by
        have hbb := HX3.out W (HBW.out W hW)
        obtain ⟨z1, z2, z3⟩ := hc i m hm
        exact ⟨(hbb.cell (p := ⟨mb, i * 3, none⟩) (World.block_lt_of_cell? w2 _ z1)).trans z1, (hbb.cell (p := ⟨mb, i * 3 + 1, none⟩) (World.block_lt_of_cell? w2 _ z2)).trans z2, (hbb.cell (p := ⟨mb, i * 3 + 2, none⟩) (World.block_lt_of_cell? w2 _ z3)).trans z3⟩)
      have HVW : Hid (∀ W, Below wr.heap.size wr W → Vb W e 42 (mvC bm)) := hide (fun W hW => hV.out.mono hW)
      have HSE : Hid (e ≤ wr.heap.size) := hide (Nat.le_of_lt hV.out.lt)
      clear hmm hm hc hov hom
      go_upto_region 14 with fail
      refine wp_region_held (S := fun W5 => Below wr.heap.size wr W5) (by kernel_rfl) ?_
      change wpAnyH _ _ _ _ _ _ _ _ (World.drew _)
      have SW : (fun W5 => Below wr.heap.size wr W5) wr.drew := (Below.refl _ _).drew
      generalize hwd : wr.drew = wd at SW ⊢
      clear hwd
      refine wpAnyH_take (i := 0) (v := .agg (chP a c p)) rfl (by kernel_rfl) (by kernel_rfl) (by kernel_rfl) (fun _ _ _ h => h) (yieldsIf_load_mid (by rfl) 24 _ rfl g 0 (by rfl) [.slice a 64 c, .int .i64 (p.t : Nat), .int .i64 (p.k : Nat), .int .i64 p.e, .int .i64 (p.h : Nat), .int .i64 (p.f : Nat)] _ (fun W hW => (show Vb W g 24 [.slice a 64 c, .int .i64 (p.t : Nat), .int .i64 (p.k : Nat), .int .i64 p.e, .int .i64 (p.h : Nat), .int .i64 (p.f : Nat)] from HCH.out W (HBX.out W (hW.mono HSE.out))).range) Tryd.underlying24 rfl size24) SW ?_
      go_simp
      refine wpAnyH_take (i := 1) (v := .slice (some ⟨mb, 0, none⟩) M cp) rfl (by kernel_rfl) (by kernel_rfl) (by kernel_rfl) (fun _ _ _ h => h) (Or.inl ⟨by rfl, ?_⟩) SW ?_
      · intro W5 hW5
        go_simp <;> first | done | rfl | (rw [IntKind.wrap_i64]; omega) | omega
      go_simp
      refine wpAnyH_take (i := 2) (v := .int .i64 (i : Nat)) rfl (by kernel_rfl) (by kernel_rfl) (by kernel_rfl) (fun _ _ _ h => h) (Or.inl ⟨by rfl, ?_⟩) SW ?_
      · intro W5 hW5
        go_simp <;> first | done | rfl | (rw [IntKind.wrap_i64]; omega) | omega
      go_simp
      refine wpAnyH_take (i := 3) (v := .pointer (some ⟨mb, i * 3, none⟩)) rfl (by kernel_rfl) (by kernel_rfl) (by kernel_rfl) (fun _ _ _ h => h) (Or.inl ⟨by rfl, ?_⟩) SW ?_
      · intro W5 hW5
        go_simp <;> first | done | rfl | (rw [IntKind.wrap_i64]; omega) | omega
      go_simp
      refine wpAnyH_take (i := 4) (v := .agg (mvC m).toArray) rfl (by kernel_rfl) (by kernel_rfl) (by kernel_rfl) (fun _ _ _ h => h) (Or.inl ⟨by rfl, ?_⟩) SW ?_
      · intro W5 hW5
        obtain ⟨y0, y1, y2⟩ := HCM.out W5 (hW5.mono HSE.out)
        go_simp <;> first | done | rfl | (rw [IntKind.wrap_i64]; omega) | omega
      go_simp
      refine wpAnyH_take (i := 6) (v := .int .i64 dv) rfl (by kernel_rfl) (by kernel_rfl) (by kernel_rfl) (fun _ _ _ h => h) (Or.inl ⟨by rfl, ?_⟩) SW ?_
      · intro W5 hW5
        go_simp <;> first | done | rfl | (rw [IntKind.wrap_i64]; omega) | omega
      go_simp
      refine wpAnyH_take (i := 7) (v := .int .i64 ply) rfl (by kernel_rfl) (by kernel_rfl) (by kernel_rfl) (fun _ _ _ h => h) (Or.inl ⟨by rfl, ?_⟩) SW ?_
      · intro W5 hW5
        go_simp <;> first | done | rfl | (rw [IntKind.wrap_i64]; omega) | omega
      go_simp
      refine wpAnyH_take (i := 8) (v := .int .i64 (ply + 1)) rfl (by kernel_rfl) (by kernel_rfl) (by kernel_rfl) (fun _ _ _ h => h) (Or.inl ⟨by rfl, ?_⟩) SW ?_
      · intro W5 hW5
        have y0 := HEP.out
        go_simp <;> first | done | rfl | (rw [IntKind.wrap_i64]; omega) | omega
      go_simp
      refine wpAnyH_ready (rs := [5, 13]) (by kernel_rfl) (by simp) ?_
      refine AllReadyH.cons rfl (fun K1 hK1 => ?_) (AllReadyH.cons rfl (fun K1 hK1 => ?_) AllReadyH.nil)
      · go_simp
        refine (HDm.out _ (HBX.out _ (SW.mono HSE.out))).mono ?_
        rintro r w9 ⟨rb, c', rfl, hrd, -, hb9⟩
        have SWb := SW.trans (hb9.mono SW.size)
        refine hK1.out _ _ SWb (fun SW => ?_)
        clear hK1 K1 SWb hb9
        have HRD := hide hrd
        clear hrd
        rename World => wd
        go_simp
        refine wpAnyH_ready (rs := [9, 13]) (by kernel_rfl) (by simp) ?_
        refine AllReadyH.cons rfl (fun K1 hK1 => ?_) (AllReadyH.cons rfl (fun K1 hK1 => ?_) AllReadyH.nil)
        · go_simp
          refine (HIm.out _ _ _ HRD.out).mono ?_
          rintro r w9 ⟨rfl, hb9⟩
          have SWb := SW.trans (hb9.mono SW.size)
          refine hK1.out _ _ SWb (fun SW => ?_)
          clear hK1 K1 SWb hb9 HRD
          rename World => wd
          go_simp
          refine wpAnyH_take (i := 10) (v := .tuple #[.int .i64 ov, .agg (mvC om).toArray]) rfl (by kernel_rfl) (by kernel_rfl) (by kernel_rfl) (fun _ _ _ h => h) (Or.inl ⟨by rfl, ?_⟩) SW ?_
          · intro W5 hW5
            go_simp <;> first | done | rfl | (rw [IntKind.wrap_i64]; omega) | omega
          go_simp
          refine wpAnyH_take (i := 11) (v := .int .i64 ov) rfl (by kernel_rfl) (by kernel_rfl) (by kernel_rfl) (fun _ _ _ h => h) (Or.inl ⟨by rfl, ?_⟩) SW ?_
          · intro W5 hW5
            go_simp <;> first | done | rfl | (rw [IntKind.wrap_i64]; omega) | omega
          go_simp
          refine wpAnyH_take (i := 12) (v := .agg (mvC om).toArray) rfl (by kernel_rfl) (by kernel_rfl) (by kernel_rfl) (fun _ _ _ h => h) (Or.inl ⟨by rfl, ?_⟩) SW ?_
          · intro W5 hW5
            go_simp <;> first | done | rfl | (rw [IntKind.wrap_i64]; omega) | omega
          go_simp
          refine wpAnyH_ready (rs := [13]) (by kernel_rfl) (by simp) ?_
          refine AllReadyH.cons rfl (fun K1 hK1 => ?_) AllReadyH.nil
          go_simp
          obtain ⟨dd, hdd⟩ : ∃ dd, wd.heap.size = dd := ⟨_, rfl⟩
          have KZ : Vb (wd.alloc (.cells #[.int .i64 0, .int .i64 0, .int .i64 0] 42)) dd 42 (mvC (0, 0, 0)) := by rw [← hdd]; exact Vb.new wd 42 _
          have HDD : Hid (wr.heap.size ≤ dd) := hide (by rw [← hdd]; exact SW.size)
          have SWb : Below wr.heap.size wr (wd.alloc (.cells #[.int .i64 0, .int .i64 0, .int .i64 0] 42)) := SW.alloc SW.size _
          refine hK1.out _ _ SWb (fun SW => ?_)
          clear hK1 K1 SWb
          try rw [hdd]
          clear hdd
          generalize hwz : wd.alloc (.cells #[.int .i64 0, .int .i64 0, .int .i64 0] 42) = wz at SW KZ ⊢
          clear hwz
          have HVD := hide KZ
          clear KZ
          rename World => wd
          go_simp
          refine wpAnyH_take (i := 14) (v := .int .i64 ov) rfl (by kernel_rfl) (by kernel_rfl) (by kernel_rfl) (fun _ _ _ h => h) (Or.inl ⟨by rfl, ?_⟩) SW ?_
          · intro W5 hW5
            go_simp <;> first | done | rfl | (rw [IntKind.wrap_i64]; omega) | omega
          go_simp
          refine wpAnyH_ready (rs := [15]) (by kernel_rfl) (by simp) ?_
          refine AllReadyH.cons rfl (fun K1 hK1 => ?_) AllReadyH.nil
          refine wp_store_mv (m' := (0, 0, 0)) (.tmp 15) (.tmp 67) rfl dd rfl rfl HVD.out ?_
          intro wc VC kk
          have SWb : Below wr.heap.size wr wc := SW.trans (kk.below SW.size (fun j hj q => by have := HDD.out; omega))
          refine hK1.out _ _ SWb (fun SW => ?_)
          clear hK1 K1 SWb kk VC HVD
          go_simp
          refine wpAnyH_done (by kernel_rfl) ?_ _
          have HV8 := hide (HVW.out wc SW)
          have HB8 : Hid (Below e w3 wc) := hide (HBW.out wc (SW.mono HSE.out))
          obtain ⟨y0, y1, y2⟩ := HCM.out wc (SW.mono HSE.out)
          clear SW HDD
          by_cases hgt : bv < -ov
          · have HSX : Hid (bStep (fun m => (RF m).1) (bv, bm) m = (-ov, m)) := hide (by rw [HST.out, if_pos hgt])
            have hv8 := HV8.out
            go_wp2_with (refine wpList_store_vb rfl 42 (.tmp 12) (.tmp 77) rfl e (mvC m) _ (by simp [Act.eval]) rfl hv8 rfl row26 (mvC_one _) ?_; intro wh VH KH)
            have HBh : Hid (Below e w3 wh) := hide (HB8.out.trans (KH.below (Nat.le_trans (by have := HE.out; omega) HB8.out.size) (fun j hj q => by omega)))
            have HVh := hide VH
            clear VH KH hv8 y0 y1 y2
            go_wp2_with fail
            exact ⟨⟨i + 1, -ov, m, by go_num, by omega, rfl, hide (by rw [HNX.out, HSX.out]), HVh, HBh⟩, by simp [intOf]; omega⟩
          · have HSX : Hid (bStep (fun m => (RF m).1) (bv, bm) m = (bv, bm)) := hide (by rw [HST.out, if_neg hgt])
            clear y0 y1 y2
            go_wp2_with fail
            exact ⟨⟨i + 1, bv, bm, by go_num, by omega, rfl, hide (by rw [HNX.out, HSX.out]), HV8, HB8⟩, by simp [intOf]; omega⟩
        · go_simp
          obtain ⟨dd, hdd⟩ : ∃ dd, wd.heap.size = dd := ⟨_, rfl⟩
          have KZ : Vb (wd.alloc (.cells #[.int .i64 0, .int .i64 0, .int .i64 0] 42)) dd 42 (mvC (0, 0, 0)) := by rw [← hdd]; exact Vb.new wd 42 _
          have HDD : Hid (wr.heap.size ≤ dd) := hide (by rw [← hdd]; exact SW.size)
          have SWb : Below wr.heap.size wr (wd.alloc (.cells #[.int .i64 0, .int .i64 0, .int .i64 0] 42)) := SW.alloc SW.size _
          have hrd2 := HRD.out.mono ((Below.refl wd.heap.size wd).alloc (Nat.le_refl _) (.cells #[.int .i64 0, .int .i64 0, .int .i64 0] 42))
          refine hK1.out _ _ SWb (fun SW => ?_)
          clear hK1 K1 SWb
          try rw [hdd]
          clear hdd
          generalize hwz : wd.alloc (.cells #[.int .i64 0, .int .i64 0, .int .i64 0] 42) = wz at SW KZ hrd2 ⊢
          clear hwz
          have HVD := hide KZ
          clear KZ
          clear HRD
          have HRD := hide hrd2
          clear hrd2
          rename World => wd
          go_simp
          refine wpAnyH_ready (rs := [9]) (by kernel_rfl) (by simp) ?_
          refine AllReadyH.cons rfl (fun K1 hK1 => ?_) AllReadyH.nil
          go_simp
          refine (HIm.out _ _ _ HRD.out).mono ?_
          rintro r w9 ⟨rfl, hb9⟩
          have SWb := SW.trans (hb9.mono SW.size)
          have HVD := hide (HVD.out.mono hb9)
          refine hK1.out _ _ SWb (fun SW => ?_)
          clear hK1 K1 SWb hb9 HRD
          rename World => wd
          go_simp
          refine wpAnyH_take (i := 10) (v := .tuple #[.int .i64 ov, .agg (mvC om).toArray]) rfl (by kernel_rfl) (by kernel_rfl) (by kernel_rfl) (fun _ _ _ h => h) (Or.inl ⟨by rfl, ?_⟩) SW ?_
          · intro W5 hW5
            go_simp <;> first | done | rfl | (rw [IntKind.wrap_i64]; omega) | omega
          go_simp
          refine wpAnyH_take (i := 11) (v := .int .i64 ov) rfl (by kernel_rfl) (by kernel_rfl) (by kernel_rfl) (fun _ _ _ h => h) (Or.inl ⟨by rfl, ?_⟩) SW ?_
          · intro W5 hW5
            go_simp <;> first | done | rfl | (rw [IntKind.wrap_i64]; omega) | omega
          go_simp
          refine wpAnyH_take (i := 12) (v := .agg (mvC om).toArray) rfl (by kernel_rfl) (by kernel_rfl) (by kernel_rfl) (fun _ _ _ h => h) (Or.inl ⟨by rfl, ?_⟩) SW ?_
          · intro W5 hW5
            go_simp <;> first | done | rfl | (rw [IntKind.wrap_i64]; omega) | omega
          go_simp
          refine wpAnyH_take (i := 14) (v := .int .i64 ov) rfl (by kernel_rfl) (by kernel_rfl) (by kernel_rfl) (fun _ _ _ h => h) (Or.inl ⟨by rfl, ?_⟩) SW ?_
          · intro W5 hW5
            go_simp <;> first | done | rfl | (rw [IntKind.wrap_i64]; omega) | omega
          go_simp
          refine wpAnyH_ready (rs := [15]) (by kernel_rfl) (by simp) ?_
          refine AllReadyH.cons rfl (fun K1 hK1 => ?_) AllReadyH.nil
          refine wp_store_mv (m' := (0, 0, 0)) (.tmp 15) (.tmp 67) rfl dd rfl rfl HVD.out ?_
          intro wc VC kk
          have SWb : Below wr.heap.size wr wc := SW.trans (kk.below SW.size (fun j hj q => by have := HDD.out; omega))
          refine hK1.out _ _ SWb (fun SW => ?_)
          clear hK1 K1 SWb kk VC HVD
          go_simp
          refine wpAnyH_done (by kernel_rfl) ?_ _
          have HV8 := hide (HVW.out wc SW)
          have HB8 : Hid (Below e w3 wc) := hide (HBW.out wc (SW.mono HSE.out))
          obtain ⟨y0, y1, y2⟩ := HCM.out wc (SW.mono HSE.out)
          clear SW HDD
          by_cases hgt : bv < -ov
          · have HSX : Hid (bStep (fun m => (RF m).1) (bv, bm) m = (-ov, m)) := hide (by rw [HST.out, if_pos hgt])
            have hv8 := HV8.out
            go_wp2_with (refine wpList_store_vb rfl 42 (.tmp 12) (.tmp 77) rfl e (mvC m) _ (by simp [Act.eval]) rfl hv8 rfl row26 (mvC_one _) ?_; intro wh VH KH)
            have HBh : Hid (Below e w3 wh) := hide (HB8.out.trans (KH.below (Nat.le_trans (by have := HE.out; omega) HB8.out.size) (fun j hj q => by omega)))
            have HVh := hide VH
            clear VH KH hv8 y0 y1 y2
            go_wp2_with fail
            exact ⟨⟨i + 1, -ov, m, by go_num, by omega, rfl, hide (by rw [HNX.out, HSX.out]), HVh, HBh⟩, by simp [intOf]; omega⟩
          · have HSX : Hid (bStep (fun m => (RF m).1) (bv, bm) m = (bv, bm)) := hide (by rw [HST.out, if_neg hgt])
            clear y0 y1 y2
            go_wp2_with fail
            exact ⟨⟨i + 1, bv, bm, by go_num, by omega, rfl, hide (by rw [HNX.out, HSX.out]), HV8, HB8⟩, by simp [intOf]; omega⟩
      · go_simp
        obtain ⟨dd, hdd⟩ : ∃ dd, wd.heap.size = dd := ⟨_, rfl⟩
        have KZ : Vb (wd.alloc (.cells #[.int .i64 0, .int .i64 0, .int .i64 0] 42)) dd 42 (mvC (0, 0, 0)) := by rw [← hdd]; exact Vb.new wd 42 _
        have HDD : Hid (wr.heap.size ≤ dd) := hide (by rw [← hdd]; exact SW.size)
        have SWb : Below wr.heap.size wr (wd.alloc (.cells #[.int .i64 0, .int .i64 0, .int .i64 0] 42)) := SW.alloc SW.size _
        refine hK1.out _ _ SWb (fun SW => ?_)
        clear hK1 K1 SWb
        try rw [hdd]
        clear hdd
        generalize hwz : wd.alloc (.cells #[.int .i64 0, .int .i64 0, .int .i64 0] 42) = wz at SW KZ ⊢
        clear hwz
        have HVD := hide KZ
        clear KZ
        rename World => wd
        go_simp
        refine wpAnyH_ready (rs := [5]) (by kernel_rfl) (by simp) ?_
        refine AllReadyH.cons rfl (fun K1 hK1 => ?_) AllReadyH.nil
        go_simp
        refine (HDm.out _ (HBX.out _ (SW.mono HSE.out))).mono ?_
        rintro r w9 ⟨rb, c', rfl, hrd, -, hb9⟩
        have SWb := SW.trans (hb9.mono SW.size)
        have HVD := hide (HVD.out.mono hb9)
        refine hK1.out _ _ SWb (fun SW => ?_)
        clear hK1 K1 SWb hb9
        have HRD := hide hrd
        clear hrd
        rename World => wd
        go_simp
        refine wpAnyH_ready (rs := [9]) (by kernel_rfl) (by simp) ?_
        refine AllReadyH.cons rfl (fun K1 hK1 => ?_) AllReadyH.nil
        go_simp
        refine (HIm.out _ _ _ HRD.out).mono ?_
        rintro r w9 ⟨rfl, hb9⟩
        have SWb := SW.trans (hb9.mono SW.size)
        have HVD := hide (HVD.out.mono hb9)
        refine hK1.out _ _ SWb (fun SW => ?_)
        clear hK1 K1 SWb hb9 HRD
        rename World => wd
        go_simp
        refine wpAnyH_take (i := 10) (v := .tuple #[.int .i64 ov, .agg (mvC om).toArray]) rfl (by kernel_rfl) (by kernel_rfl) (by kernel_rfl) (fun _ _ _ h => h) (Or.inl ⟨by rfl, ?_⟩) SW ?_
        · intro W5 hW5
          go_simp <;> first | done | rfl | (rw [IntKind.wrap_i64]; omega) | omega
        go_simp
        refine wpAnyH_take (i := 11) (v := .int .i64 ov) rfl (by kernel_rfl) (by kernel_rfl) (by kernel_rfl) (fun _ _ _ h => h) (Or.inl ⟨by rfl, ?_⟩) SW ?_
        · intro W5 hW5
          go_simp <;> first | done | rfl | (rw [IntKind.wrap_i64]; omega) | omega
        go_simp
        refine wpAnyH_take (i := 12) (v := .agg (mvC om).toArray) rfl (by kernel_rfl) (by kernel_rfl) (by kernel_rfl) (fun _ _ _ h => h) (Or.inl ⟨by rfl, ?_⟩) SW ?_
        · intro W5 hW5
          go_simp <;> first | done | rfl | (rw [IntKind.wrap_i64]; omega) | omega
        go_simp
        refine wpAnyH_take (i := 14) (v := .int .i64 ov) rfl (by kernel_rfl) (by kernel_rfl) (by kernel_rfl) (fun _ _ _ h => h) (Or.inl ⟨by rfl, ?_⟩) SW ?_
        · intro W5 hW5
          go_simp <;> first | done | rfl | (rw [IntKind.wrap_i64]; omega) | omega
        go_simp
        refine wpAnyH_ready (rs := [15]) (by kernel_rfl) (by simp) ?_
        refine AllReadyH.cons rfl (fun K1 hK1 => ?_) AllReadyH.nil
        refine wp_store_mv (m' := (0, 0, 0)) (.tmp 15) (.tmp 67) rfl dd rfl rfl HVD.out ?_
        intro wc VC kk
        have SWb : Below wr.heap.size wr wc := SW.trans (kk.below SW.size (fun j hj q => by have := HDD.out; omega))
        refine hK1.out _ _ SWb (fun SW => ?_)
        clear hK1 K1 SWb kk VC HVD
        go_simp
        refine wpAnyH_done (by kernel_rfl) ?_ _
        have HV8 := hide (HVW.out wc SW)
        have HB8 : Hid (Below e w3 wc) := hide (HBW.out wc (SW.mono HSE.out))
        obtain ⟨y0, y1, y2⟩ := HCM.out wc (SW.mono HSE.out)
        clear SW HDD
        by_cases hgt : bv < -ov
        · have HSX : Hid (bStep (fun m => (RF m).1) (bv, bm) m = (-ov, m)) := hide (by rw [HST.out, if_pos hgt])
          have hv8 := HV8.out
          go_wp2_with (refine wpList_store_vb rfl 42 (.tmp 12) (.tmp 77) rfl e (mvC m) _ (by simp [Act.eval]) rfl hv8 rfl row26 (mvC_one _) ?_; intro wh VH KH)
          have HBh : Hid (Below e w3 wh) := hide (HB8.out.trans (KH.below (Nat.le_trans (by have := HE.out; omega) HB8.out.size) (fun j hj q => by omega)))
          have HVh := hide VH
          clear VH KH hv8 y0 y1 y2
          go_wp2_with fail
          exact ⟨⟨i + 1, -ov, m, by go_num, by omega, rfl, hide (by rw [HNX.out, HSX.out]), HVh, HBh⟩, by simp [intOf]; omega⟩
        · have HSX : Hid (bStep (fun m => (RF m).1) (bv, bm) m = (bv, bm)) := hide (by rw [HST.out, if_neg hgt])
          clear y0 y1 y2
          go_wp2_with fail
          exact ⟨⟨i + 1, bv, bm, by go_num, by omega, rfl, hide (by rw [HNX.out, HSX.out]), HV8, HB8⟩, by simp [intOf]; omega⟩
    · obtain rfl : i = M := by omega
      have hfin : rs = (bv, bm) := by rw [← HRS.out, ← hac.out, ← HML.out, List.take_length]
      subst hfin
      have HM6 : Hid (∀ W, Keeps (fun j => j = g + 1) wr W → Vb W e 42 (mvC bm)) := hide (fun W hk => hV.out.keeps hk (fun q => by have := HE.out; omega))
      have b2 : Below w1.heap.size w1 wr := HB2.out.trans ((HX3.out wr hb.out).mono HB2.out.size)
      have HMd : Hid (Vb wr.drew (g + 1) 42 (mvC (0, 0, 0))) := hide ((HM1.out.mono b2).mono (drewN_below _ _ 1))
      have HB6 : Hid (Below w.heap.size w wr) := hide (HB1.out.trans (b2.mono HB1.out.size))
      clear b2
      go_upto_region 18 with fail
      refine wp_region_held (S := fun W5 => Keeps (fun j => j = g + 1) wr W5) (by kernel_rfl) ?_
      change wpAnyH _ _ _ _ _ _ _ _ (World.drew _)
      have SW : Keeps (fun j => j = g + 1) wr wr.drew := (Keeps.refl _ wr).drew
      generalize hwd : wr.drew = wd at SW HMd ⊢
      clear hwd
      refine wpAnyH_take (i := 0) (v := .int .i64 bv) rfl (by kernel_rfl) (by kernel_rfl) (by kernel_rfl) (fun _ _ _ h => h) (Or.inl ⟨by rfl, ?_⟩) SW ?_
      · intro W5 hW5
        go_simp <;> first | done | rfl | (rw [IntKind.wrap_i64]; omega) | omega
      go_simp
      refine wpAnyH_take (i := 1) (v := .agg (mvC bm).toArray) rfl (by kernel_rfl) (by kernel_rfl) (by kernel_rfl) (fun _ _ _ h => h) (Or.inl ⟨by rfl, ?_⟩) SW ?_
      · intro W5 hW5
        have y0 := (HM6.out W5 hW5).cell (i := 0) rfl
        have y1 := (HM6.out W5 hW5).cell (i := 1) rfl
        have y2 := (HM6.out W5 hW5).cell (i := 2) rfl
        go_simp <;> first | done | rfl | (rw [IntKind.wrap_i64]; omega) | omega
      go_simp
      refine wpAnyH_take (i := 2) (v := .int .i64 bv) rfl (by kernel_rfl) (by kernel_rfl) (by kernel_rfl) (fun _ _ _ h => h) (Or.inl ⟨by rfl, ?_⟩) SW ?_
      · intro W5 hW5
        go_simp <;> first | done | rfl | (rw [IntKind.wrap_i64]; omega) | omega
      go_simp
      refine wpAnyH_ready (rs := [3]) (by kernel_rfl) (by simp) ?_
      refine AllReadyH.cons rfl (fun K1 hK1 => ?_) AllReadyH.nil
      refine wp_store_mv (.tmp 7) (.tmp 79) rfl (g + 1) rfl rfl HMd.out ?_
      intro wc VC kk
      have SWb := SW.trans kk
      refine hK1.out _ _ SWb (fun SW => ?_)
      clear hK1 K1 SWb kk
      go_simp
      refine wpAnyH_done (by kernel_rfl) ?_ _
      have HBW := hide (HB6.out.trans (SW.below HB6.out.size (fun j hj q => by have := HG.out; omega)))
      clear SW
      go_wp2_with fail
      try simp only [Exit.inBlock, Exit.then]
      refine bodyPost_ret (results_tr rfl _ _ (g + 1) rfl rfl (load_mv VC)) rfl ?_
      exact ⟨rfl, HBW.out⟩

theorem BestOf_any (l : Nat) (hl : l ≤ 9) (dv : Int) (hd9 : dv ≤ 900) : ∀ q, MayP q → ∀ ply : Int, 0 ≤ ply → ply + (l : Int) = dv → ∀ a c w, Rd w a 64 c q.Z → Calls Tryd.prog 16 #[.agg (chP a c q), .int .i64 dv, .int .i64 ply] w fun r w' => r = .returned (.tuple #[.int .i64 (bG (-5000) l ply q).1, .agg (mvC (bG (-5000) l ply q).2).toArray]) ∧ Below w.heap.size w w' := by
  induction l with
  | zero =>
    intro p hM ply h0 h1 a c w hR
    cases he : (mvs p).isEmpty with
    | true =>
      have hh := BestOf_over a c p hM dv ply h0 (by omega) w hR he
      cases h : mtP p with
      | true => rw [bG_mt h]; rw [h] at hh; exact hh
      | false =>
        have h2 : skP p = true := by unfold mtP at h; unfold skP; rw [he] at h ⊢; simpa using h
        rw [bG_sk h h2]; rw [h] at hh; exact hh
    | false =>
      have h : mtP p = false := by unfold mtP; rw [he, Bool.and_false]
      have h2 : skP p = false := by unfold skP; rw [he, Bool.and_false]
      rw [bG_end h h2]
      obtain rfl : ply = dv := by omega
      exact BestOf_end a c p hM ply w hR he
  | succ l ih =>
    intro p hM ply h0 h1 a c w hR
    cases he : (mvs p).isEmpty with
    | true =>
      have hh := BestOf_over a c p hM dv ply h0 (by omega) w hR he
      cases h : mtP p with
      | true => rw [bG_mt h]; rw [h] at hh; exact hh
      | false =>
        have h2 : skP p = true := by unfold mtP at h; unfold skP; rw [he] at h ⊢; simpa using h
        rw [bG_sk h h2]; rw [h] at hh; exact hh
    | false =>
      have h : mtP p = false := by unfold mtP; rw [he, Bool.and_false]
      have h2 : skP p = false := by unfold skP; rw [he, Bool.and_false]
      exact BestOf_on l (by omega) dv (ih (by omega)) a c p hM ply h0 h1 hd9 w hR h h2

end Go.Proofs.YtdmlamnonbmboaaDoor
