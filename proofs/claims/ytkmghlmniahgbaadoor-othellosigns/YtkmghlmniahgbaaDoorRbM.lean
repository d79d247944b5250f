/-
  What the document says is best, so many moves deep: where there are moves. No conditions beyond those that each theorem bears.
-/
import Derived.Test.YtkmghlmniahgbaaDoorRbD
namespace Go.Proofs.YtkmghlmniahgbaaDoor
open Go.RowKit

attribute [local irreducible] ob pz sps psN psY ldj

set_option maxRecDepth 100000 in
set_option maxHeartbeats 16000000 in
theorem rb_moves (gW gH n l : Nat) (zs : List Int) (m : Nat) (b : Og gW gH n zs) (hm : m = 1 ∨ m = 2) (hl : l ≤ 5) (hs : sps gW gH zs m ≠ []) (ih : ∀ p, RbAt gW gH n l (pz gW gH zs m p) (3 - m)) : RbAt gW gH n (l + 1) zs m := by
  intro a c w h
  have hn64 := b.n64
  have hcm := h.max
  unfold maxLen at hcm
  have hcc := h.cap
  have HSPA := hide (fun m' (hm' : m' = 1 ∨ m' = 2) W1 (hR : Rd W1 a n c zs) => SignPlaces_any gW gH a n c zs m' W1 hR b hm')
  have HMM := hide hm
  obtain ⟨mo, hmo⟩ : ∃ mo, 3 - m = mo := ⟨_, rfl⟩
  have h3a : (3 : Int) - (m : Int) = (mo : Int) := by omega
  have HMO := hide hmo
  have HMM2 : Hid (mo = 1 ∨ mo = 2) := hide (by omega)
  have hmb : m ≤ 2 := by omega
  have hmob : mo ≤ 2 := by omega
  have hWH : gW * gH ≤ 64 := by rw [b.mul]; omega
  have HPSC0 := hide (fun p (hp : p < n) W1 (hR : Rd W1 a n c zs) => PutSign_any gW gH a n c zs m p W1 hR b hm hp)
  have HME := hide (fun p (hp : p ∈ sps gW gH zs m) => psY_mem b hp)
  have hln : (sps gW gH zs m).length ≤ 64 := Nat.le_trans (sps_len gW gH zs m) hWH
  have hlp : 0 < (sps gW gH zs m).length := List.length_pos_iff.2 hs
  have HCT := hide (fun p a' c' W1 (hR : Rd W1 a' n c' (pz gW gH zs m p)) => ih p a' c' W1 hR)
  have HVB := hide (fun p => ob_bd hWH l (pz gW gH zs m p) (3 - m))
  have HOB := hide (ob_own (l := l) hs)
  rw [hmo] at HCT HVB HOB
  obtain ⟨f, hf⟩ : ∃ f : Nat → Int, (fun p => - (ob gW gH l (pz gW gH zs m p) mo).1) = f := ⟨_, rfl⟩
  have HF : Hid (∀ p, - (ob gW gH l (pz gW gH zs m p) mo).1 = f p) := hide (fun p => by rw [← hf])
  rw [hf] at HOB
  obtain ⟨L1, hL1⟩ : ∃ L1 : Nat, l + 1 = L1 := ⟨_, rfl⟩
  have HL1 := hide hL1
  have hl6 : (L1 : Int) ≤ 6 := by omega
  have hl0 : ((L1 : Int) == 0) = false := by rw [beq_eq_false_iff_ne]; omega
  have hl1 : (L1 : Int) - 1 = (l : Int) := by omega
  rw [hL1]
  obtain ⟨w1, hw1⟩ : ∃ w1, w.alloc (.cells (gdA gW gH a n c) 24) = w1 := ⟨_, rfl⟩
  have HB1 : Hid (Below w.heap.size w w1) := hide (by rw [← hw1]; exact (Below.refl _ _).alloc (Nat.le_refl _) _)
  have HG1 : Hid (Gd w1 w.heap.size gW gH a n c) := hide (by rw [← hw1]; exact Gd.new _ _ _ _ _ _)
  have HR1 := hide (h.mono HB1.out)
  clear hf hL1 ih hs hmo hm hWH h b
  go_enter Tryd.func24, Tryd.ntmps24
  go_upto_region 1 with fail
  clear hw1
  have HGR1 : Hid (∀ W4, Below w1.heap.size w1 W4 → W4.rangeAt w.heap.size 0 [.int .i64 gW, .int .i64 gH, .slice a n c]) := hide (fun W4 hb => (HG1.out.below hb HG1.out.lt).range)
  refine wp_region_held (S := fun W4 => Below w1.heap.size w1 W4) (by kernel_rfl) ?_
  change wpAnyH _ _ _ _ _ _ _ _ (World.drew _)
  have SW : Below w1.heap.size w1 w1.drew := (Below.refl _ w1).drew
  refine wpAnyH_take (i := 0) (v := .agg (gdA gW gH a n c)) rfl (by kernel_rfl) (by kernel_rfl) (by kernel_rfl) (fun _ _ _ h => h) (yieldsIf_load_mid (by rfl) 24 _ rfl w.heap.size 0 (by rfl) [.int .i64 gW, .int .i64 gH, .slice a n c] _ (fun W hW => HGR1.out W hW) Tryd.underlying24 rfl size24) SW ?_
  go_simp
  refine wpAnyH_take (i := 1) (v := .int .i64 (m : Nat)) rfl (by kernel_rfl) (by kernel_rfl) (by kernel_rfl) (fun _ _ _ h => h) (Or.inl ⟨by rfl, ?_⟩) SW ?_
  · intro W4 hW4
    go_simp <;> first | done | rfl | (rw [IntKind.wrap_i64]; omega) | omega
  go_simp
  refine wpAnyH_take (i := 3) (v := .agg (gdA gW gH a n c)) rfl (by kernel_rfl) (by kernel_rfl) (by kernel_rfl) (fun _ _ _ h => h) (yieldsIf_load_mid (by rfl) 24 _ rfl w.heap.size 0 (by rfl) [.int .i64 gW, .int .i64 gH, .slice a n c] _ (fun W hW => HGR1.out W hW) Tryd.underlying24 rfl size24) SW ?_
  go_simp
  refine wpAnyH_take (i := 4) (v := .int .i64 (m : Nat)) rfl (by kernel_rfl) (by kernel_rfl) (by kernel_rfl) (fun _ _ _ h => h) (Or.inl ⟨by rfl, ?_⟩) SW ?_
  · intro W4 hW4
    go_simp <;> first | done | rfl | (rw [IntKind.wrap_i64]; omega) | omega
  go_simp
  refine wpAnyH_take (i := 5) (v := .int .i64 (mo : Nat)) rfl (by kernel_rfl) (by kernel_rfl) (by kernel_rfl) (fun _ _ _ h => h) (Or.inl ⟨by rfl, ?_⟩) SW ?_
  · intro W4 hW4
    have hx := h3a
    go_simp <;> first | done | rfl | (rw [IntKind.wrap_i64]; omega) | omega
  go_simp
  refine wpAnyH_ready (rs := [2]) (by kernel_rfl) (by simp) ?_
  refine AllReadyH.cons rfl (fun K1 hK1 => ?_) AllReadyH.nil
  go_simp
  refine (HSPA.out m HMM.out _ (HR1.out.mono SW)).mono ?_
  rintro r lw ⟨la, lc, rfl, hlR, hbl⟩
  have Bl := SW.trans (hbl.mono SW.size)
  refine hK1.out _ _ Bl (fun SW => ?_)
  clear hK1 K1
  go_simp
  refine wpAnyH_ready (rs := [6]) (by kernel_rfl) (by simp) ?_
  refine AllReadyH.cons rfl (fun K1 hK1 => ?_) AllReadyH.nil
  go_simp
  refine (HSPA.out mo HMM2.out _ (HR1.out.mono SW)).mono ?_
  rintro r kw ⟨ka, kc, rfl, hkR, hbk⟩
  have Bk := SW.trans (hbk.mono SW.size)
  refine hK1.out _ _ Bk (fun SW => ?_)
  clear hK1 K1
  go_simp
  refine wpAnyH_ready (rs := [7]) (by kernel_rfl) (by simp) ?_
  refine AllReadyH.cons rfl (fun K1 hK1 => ?_) AllReadyH.nil
  go_simp
  refine hK1.out _ _ SW (fun SW => ?_)
  clear hK1 K1
  go_simp
  refine wpAnyH_ready (rs := [8]) (by kernel_rfl) (by simp) ?_
  refine AllReadyH.cons rfl (fun K1 hK1 => ?_) AllReadyH.nil
  go_simp
  refine hK1.out _ _ SW (fun SW => ?_)
  clear hK1 K1
  go_simp
  refine wpAnyH_done (by kernel_rfl) ?_ _
  obtain ⟨w3, hw3⟩ : ∃ w3, kw = w3 := ⟨_, rfl⟩
  have HLO : Hid (Rd w3 la (sps gW gH zs m).length lc (toI (sps gW gH zs m))) := hide (by rw [← hw3]; exact hlR.mono hbk)
  have HLT : Hid (Rd w3 ka (sps gW gH zs mo).length kc (toI (sps gW gH zs mo))) := hide (by rw [← hw3]; exact hkR)
  have HB3 : Hid (Below w1.heap.size w1 w3) := hide (by rw [← hw3]; exact Bk)
  rw [hw3]
  clear hw3 hlR hkR hbl hbk Bl Bk SW
  have HG3 := hide (HG1.out.below HB3.out HG1.out.lt)
  have HRW := hide (HR1.out.mono HB3.out)
  have hlto := HLT.out.max
  unfold maxLen at hlto
  have hltc := HLT.out.cap
  obtain ⟨L, hLL⟩ : ∃ L, sps gW gH zs m = L := ⟨_, rfl⟩
  rw [hLL] at HOB hln HME hlp HLO ⊢
  have hlm := HLO.out.max
  unfold maxLen at hlm
  have hlcap := HLO.out.cap
  obtain ⟨lb, lo, rfl, -⟩ := HLO.out.cells hlp
  have hz : ((L.length : Int) == 0) = false := by rw [beq_eq_false_iff_ne]; omega
  obtain ⟨ln, hlne⟩ : ∃ ln, L.length = ln := ⟨_, rfl⟩
  rw [hlne] at hln hlp HLO hz hlcap ⊢
  have HLE := hide hlne
  generalize (sps gW gH zs mo).length = ln2 at *
  clear hLL HSPA HLT hlne
  go_wp2_with fail
  go_loopw [14, 15, 16] (fun u p v wr => ∃ (j : Nat) (s : Int × Option Nat), v = .int .i64 j ∧ u = .int .i64 s.1 ∧ p = .int .i64 (plI s.2) ∧ j ≤ ln ∧ (-1000 ≤ s.1 ∧ s.1 ≤ 64) ∧ (-1 ≤ plI s.2 ∧ plI s.2 ≤ 100) ∧ Hid (s = pickB f (L.take j)) ∧ Hid (Below w3.heap.size w3 wr)) (fun _ _ v _ => ln - (intOf v).toNat)
  case atStart => exact ⟨0, (-1000, none), rfl, rfl, rfl, by omega, by show -1000 ≤ (-1000 : Int) ∧ (-1000 : Int) ≤ 64; omega, by show -1 ≤ (-1 : Int) ∧ (-1 : Int) ≤ 100; omega, hide (by simp [pickB_nil]), hide (Below.refl _ _)⟩
  case round =>
    obtain ⟨j, s, rfl, rfl, rfl, hj, hsb, hsp, hS, hB⟩ := hrel
    by_cases hlt : j < ln
    · have hlt' : (j : Int) < (ln : Int) := by omega
      have hjL : j < L.length := by rw [HLE.out]; exact hlt
      have HTK : Hid (L.take (j + 1) = L.take j ++ [L.getD j 0]) := hide (by rw [List.take_succ_eq_append_getElem hjL]; simp [List.getD, hjL])
      have hcj := ((HLO.out.mono hB.out).cell hlt).2
      rw [toI_getD hjL] at hcj
      have hmem : L.getD j 0 ∈ L := by simp [List.getD, hjL]
      have HMP := hide (HME.out _ hmem)
      obtain ⟨P, hP⟩ : ∃ P, L.getD j 0 = P := ⟨_, rfl⟩
      rw [hP] at HTK hcj HMP
      have hPn := HMP.out.2.1
      have HPSC : Hid (∀ W1, Below wr.heap.size wr W1 → Calls Tryd.prog 20 #[.agg (gdA gW gH a n c), .int .i64 (m : Nat), .int .i64 (P : Nat)] W1 fun e w' => ∃ cb cc, e = .returned (.tuple #[.agg (gdA gW gH (some ⟨cb, 0, none⟩) n cc), .int .i64 (psN gW gH zs m P : Nat)]) ∧ w'.ownsRow W1.heap.size 3 1 (.slice (some ⟨cb, 0, none⟩) n cc) n ((pz gW gH zs m P).map (Value.int .i64)) ∧ Below W1.heap.size W1 w') := hide (fun W1 hb => by
        have := HPSC0.out P hPn W1 ((HRW.out.mono hB.out).mono hb)
        rw [HMP.out.1] at this
        exact this)
      have Gr := HG3.out.below hB.out HG3.out.lt
      have HGR : Hid (∀ W4, Below wr.heap.size wr W4 → W4.rangeAt w.heap.size 0 [.int .i64 gW, .int .i64 gH, .slice a n c]) := hide (fun W4 hb => (Gr.below hb Gr.lt).range)
      have HLC : Hid (∀ W4, Below wr.heap.size wr W4 → W4.cell? ⟨lb, lo + j, none⟩ = some (.int .i64 (P : Nat))) := hide (fun W4 hb => (hb.cell (p := ⟨lb, lo + j, none⟩) (World.block_lt_of_cell? wr _ hcj)).trans hcj)
      obtain ⟨PN, hPN⟩ : ∃ PN, psN gW gH zs m P = PN := ⟨_, rfl⟩
      rw [hPN] at HPSC
      clear hP hPN hmem hcj Gr
      go_upto_region 19 with fail
      refine wp_region_held (S := fun W4 => Below wr.heap.size wr W4) (by kernel_rfl) ?_
      change wpAnyH _ _ _ _ _ _ _ _ (World.drew _)
      have SW : Below wr.heap.size wr wr.drew := (Below.refl _ wr).drew
      refine wpAnyH_take (i := 0) (v := .agg (gdA gW gH a n c)) rfl (by kernel_rfl) (by kernel_rfl) (by kernel_rfl) (fun _ _ _ h => h) (yieldsIf_load_mid (by rfl) 24 _ rfl w.heap.size 0 (by rfl) [.int .i64 gW, .int .i64 gH, .slice a n c] _ (fun W hW => HGR.out W hW) Tryd.underlying24 rfl size24) SW ?_
      go_simp
      refine wpAnyH_take (i := 1) (v := .int .i64 (m : Nat)) rfl (by kernel_rfl) (by kernel_rfl) (by kernel_rfl) (fun _ _ _ h => h) (Or.inl ⟨by rfl, ?_⟩) SW ?_
      · intro W4 hW4
        go_simp <;> first | done | rfl | (rw [IntKind.wrap_i64]; omega) | omega
      go_simp
      refine wpAnyH_take (i := 2) (v := .slice (some ⟨lb, lo, none⟩) ln lc) rfl (by kernel_rfl) (by kernel_rfl) (by kernel_rfl) (fun _ _ _ h => h) (Or.inl ⟨by rfl, ?_⟩) SW ?_
      · intro W4 hW4
        go_simp <;> first | done | rfl | (rw [IntKind.wrap_i64]; omega) | omega
      go_simp
      refine wpAnyH_take (i := 3) (v := .int .i64 (j : Nat)) rfl (by kernel_rfl) (by kernel_rfl) (by kernel_rfl) (fun _ _ _ h => h) (Or.inl ⟨by rfl, ?_⟩) SW ?_
      · intro W4 hW4
        go_simp <;> first | done | rfl | (rw [IntKind.wrap_i64]; omega) | omega
      go_simp
      refine wpAnyH_take (i := 4) (v := .pointer (some ⟨lb, lo + j, none⟩)) rfl (by kernel_rfl) (by kernel_rfl) (by kernel_rfl) (fun _ _ _ h => h) (Or.inl ⟨by rfl, ?_⟩) SW ?_
      · intro W4 hW4
        go_simp <;> first | done | rfl | (rw [IntKind.wrap_i64]; omega) | omega
      go_simp
      refine wpAnyH_take (i := 5) (v := .int .i64 (P : Nat)) rfl (by kernel_rfl) (by kernel_rfl) (by kernel_rfl) (fun _ _ _ h => h) (Or.inl ⟨by rfl, ?_⟩) SW ?_
      · intro W4 hW4
        have x0 := HLC.out W4 hW4
        go_simp <;> first | done | rfl | (rw [IntKind.wrap_i64]; omega) | omega
      go_simp
      refine wpAnyH_ready (rs := [6, 10]) (by kernel_rfl) (by simp) ?_
      refine AllReadyH.cons rfl (fun K1 hK1 => ?_) (AllReadyH.cons rfl (fun K1 hK1 => ?_) AllReadyH.nil)
      · go_simp
        refine (HPSC.out _ SW).mono ?_
        rintro r w5 ⟨cb, cc, rfl, hO5, hb5⟩
        have B5 := SW.trans (hb5.mono (by have := SW.size; omega))
        refine hK1.out _ _ B5 (fun SW => ?_)
        clear hK1 K1
        go_simp
        refine wpAnyH_take (i := 7) (v := .tuple #[.agg (gdA gW gH (some ⟨cb, 0, none⟩) n cc), .int .i64 (PN : Nat)]) rfl (by kernel_rfl) (by kernel_rfl) (by kernel_rfl) (fun _ _ _ h => h) (Or.inl ⟨by rfl, ?_⟩) SW ?_
        · intro W4 hW4
          go_simp <;> first | done | rfl | (rw [IntKind.wrap_i64]; omega) | omega
        go_simp
        refine wpAnyH_take (i := 8) (v := .agg (gdA gW gH (some ⟨cb, 0, none⟩) n cc)) rfl (by kernel_rfl) (by kernel_rfl) (by kernel_rfl) (fun _ _ _ h => h) (Or.inl ⟨by rfl, ?_⟩) SW ?_
        · intro W4 hW4
          go_simp <;> first | done | rfl | (rw [IntKind.wrap_i64]; omega) | omega
        go_simp
        refine wpAnyH_take (i := 9) (v := .int .i64 (PN : Nat)) rfl (by kernel_rfl) (by kernel_rfl) (by kernel_rfl) (fun _ _ _ h => h) (Or.inl ⟨by rfl, ?_⟩) SW ?_
        · intro W4 hW4
          go_simp <;> first | done | rfl | (rw [IntKind.wrap_i64]; omega) | omega
        go_simp
        refine wpAnyH_ready (rs := [10]) (by kernel_rfl) (by simp) ?_
        refine AllReadyH.cons rfl (fun K1 hK1 => ?_) AllReadyH.nil
        go_simp
        have hnb1 : wr.heap.size ≤ w5.heap.size := B5.size
        have KZ : Gd (w5.alloc (Obj.cells #[Value.int IntKind.i64 0, Value.int IntKind.i64 0, Value.slice none 0 0] 24)) w5.heap.size 0 0 none 0 0 := Gd.new w5 0 0 none 0 0
        have hOa := hO5.alloc (Obj.cells #[Value.int IntKind.i64 0, Value.int IntKind.i64 0, Value.slice none 0 0] 24)
        have hcn : cb ≠ w5.heap.size := by have := (hO5.lt cb rfl).2; omega
        refine hK1.out _ _ (B5.alloc B5.size _) (fun SW => ?_)
        clear hK1 K1
        go_simp
        refine wpAnyH_ready (rs := [11]) (by kernel_rfl) (by simp) ?_
        refine AllReadyH.cons rfl (fun K1 hK1 => ?_) AllReadyH.nil
        refine wp_store_gd (.tmp 17) (.tmp 94) rfl (w5.heap.size) rfl rfl KZ ?_
        intro w7 K7 kk7
        refine hK1.out _ _ (SW.trans ((kk7.mono (Y := fun q => wr.heap.size ≤ q) (fun q _ e => by omega)).below (B := wr.heap.size) (by have := SW.size; omega) (fun q hq e => by omega))) (fun SW => ?_)
        clear hK1 K1
        go_simp
        refine wpAnyH_ready (rs := [12]) (by kernel_rfl) (by simp) ?_
        refine AllReadyH.cons rfl (fun K1 hK1 => ?_) AllReadyH.nil
        go_simp
        refine hK1.out _ _ SW (fun SW => ?_)
        clear hK1 K1
        go_simp
        refine wpAnyH_done (by kernel_rfl) ?_ _
        have B7 : Below wr.heap.size wr w7 := SW
        have R7 : Rd w7 (some ⟨cb, 0, none⟩) n cc (pz gW gH zs m P) := by
          have := own_blk hOa (w' := w7) (fun g hg => by
            simp only [Value.ownBlock, Option.some.injEq] at hg
            rw [← hg]
            exact kk7.block _ (hOa.lt cb rfl).2 (by show ¬ cb = w5.heap.size; exact hcn))
          exact Rd.of_own (own_base this (Nat.zero_le _))
        have HC7 := hide (HCT.out P _ _ w7 R7)
        have hvb := HVB.out P
        have HFP := hide (HF.out P)
        have HB7 := hide (hB.out.trans (B7.mono hB.out.size))
        have c7 := HLC.out w7 B7
        obtain ⟨OV, hOV⟩ : ∃ OV, ob gW gH l (pz gW gH zs m P) mo = OV := ⟨_, rfl⟩
        rw [hOV] at HC7 hvb HFP
        clear SW kk7 R7 hOa hO5 hb5 B5 KZ hcn hOV
        go_wp2_with (refine wpList_load_gd rfl (.tmp 17) rfl (w5.heap.size) rfl K7 ?_)
        refine HC7.out.mono ?_
        rintro r w8 ⟨rfl, hb8⟩
        have HB8 := hide (HB7.out.trans (hb8.mono HB7.out.size))
        have c8 := (hb8.cell (p := ⟨lb, lo + j, none⟩) (World.block_lt_of_cell? w7 _ c7)).trans c7
        clear hb8 HC7 HB7 K7 c7 B7
        obtain ⟨vv, hvv⟩ : ∃ vv, OV.1 = vv := ⟨_, rfl⟩
        rw [hvv] at hvb HFP ⊢
        clear hvv
        by_cases hgt : s.1 < -vv
        · have hgt' : -vv > s.1 := hgt
          have HST : Hid (pickB f (L.take (j + 1)) = (-vv, some P)) := hide (by rw [HTK.out, pickB_snoc, ← hS.out]; unfold updB; rw [← HFP.out, if_pos hgt])
          clear hgt
          go_wp2_with fail
          refine ⟨⟨j + 1, (-vv, some P), by go_num, rfl, rfl, by omega, by show -1000 ≤ -vv ∧ -vv ≤ 64; omega, by show -1 ≤ (P : Int) ∧ (P : Int) ≤ 100; omega, hide HST.out.symm, HB8⟩, by simp [intOf]; omega⟩
        · have hgt' : ¬ -vv > s.1 := by omega
          have HST : Hid (pickB f (L.take (j + 1)) = s) := hide (by rw [HTK.out, pickB_snoc, ← hS.out]; unfold updB; rw [← HFP.out, if_neg hgt])
          clear hgt
          go_wp2_with fail
          refine ⟨⟨j + 1, s, by go_num, rfl, rfl, by omega, hsb, hsp, hide HST.out.symm, HB8⟩, by simp [intOf]; omega⟩
      · go_simp
        have KZ0 : Gd (wr.alloc (Obj.cells #[Value.int IntKind.i64 0, Value.int IntKind.i64 0, Value.slice none 0 0] 24)).drew wr.heap.size 0 0 none 0 0 := Gd.new wr 0 0 none 0 0
        refine hK1.out _ _ (SW.alloc SW.size _) (fun SW => ?_)
        clear hK1 K1
        go_simp
        refine wpAnyH_ready (rs := [6]) (by kernel_rfl) (by simp) ?_
        refine AllReadyH.cons rfl (fun K1 hK1 => ?_) AllReadyH.nil
        go_simp
        refine (HPSC.out _ SW).mono ?_
        rintro r w5 ⟨cb, cc, rfl, hO5, hb5⟩
        have B5 := SW.trans (hb5.mono (by have := SW.size; omega))
        refine hK1.out _ _ B5 (fun SW => ?_)
        clear hK1 K1
        go_simp
        refine wpAnyH_take (i := 7) (v := .tuple #[.agg (gdA gW gH (some ⟨cb, 0, none⟩) n cc), .int .i64 (PN : Nat)]) rfl (by kernel_rfl) (by kernel_rfl) (by kernel_rfl) (fun _ _ _ h => h) (Or.inl ⟨by rfl, ?_⟩) SW ?_
        · intro W4 hW4
          go_simp <;> first | done | rfl | (rw [IntKind.wrap_i64]; omega) | omega
        go_simp
        refine wpAnyH_take (i := 8) (v := .agg (gdA gW gH (some ⟨cb, 0, none⟩) n cc)) rfl (by kernel_rfl) (by kernel_rfl) (by kernel_rfl) (fun _ _ _ h => h) (Or.inl ⟨by rfl, ?_⟩) SW ?_
        · intro W4 hW4
          go_simp <;> first | done | rfl | (rw [IntKind.wrap_i64]; omega) | omega
        go_simp
        refine wpAnyH_take (i := 9) (v := .int .i64 (PN : Nat)) rfl (by kernel_rfl) (by kernel_rfl) (by kernel_rfl) (fun _ _ _ h => h) (Or.inl ⟨by rfl, ?_⟩) SW ?_
        · intro W4 hW4
          go_simp <;> first | done | rfl | (rw [IntKind.wrap_i64]; omega) | omega
        go_simp
        have KZ := KZ0.below hb5 KZ0.lt
        have hOa := hO5
        have hcn : cb ≠ wr.heap.size := by have h1 := (hO5.lt cb rfl).1; have h2 := KZ0.lt; omega
        clear KZ0
        refine wpAnyH_ready (rs := [11]) (by kernel_rfl) (by simp) ?_
        refine AllReadyH.cons rfl (fun K1 hK1 => ?_) AllReadyH.nil
        refine wp_store_gd (.tmp 17) (.tmp 94) rfl (wr.heap.size) rfl rfl KZ ?_
        intro w7 K7 kk7
        refine hK1.out _ _ (SW.trans ((kk7.mono (Y := fun q => wr.heap.size ≤ q) (fun q _ e => by omega)).below (B := wr.heap.size) (by have := SW.size; omega) (fun q hq e => by omega))) (fun SW => ?_)
        clear hK1 K1
        go_simp
        refine wpAnyH_ready (rs := [12]) (by kernel_rfl) (by simp) ?_
        refine AllReadyH.cons rfl (fun K1 hK1 => ?_) AllReadyH.nil
        go_simp
        refine hK1.out _ _ SW (fun SW => ?_)
        clear hK1 K1
        go_simp
        refine wpAnyH_done (by kernel_rfl) ?_ _
        have B7 : Below wr.heap.size wr w7 := SW
        have R7 : Rd w7 (some ⟨cb, 0, none⟩) n cc (pz gW gH zs m P) := by
          have := own_blk hOa (w' := w7) (fun g hg => by
            simp only [Value.ownBlock, Option.some.injEq] at hg
            rw [← hg]
            exact kk7.block _ (hOa.lt cb rfl).2 (by show ¬ cb = wr.heap.size; exact hcn))
          exact Rd.of_own (own_base this (Nat.zero_le _))
        have HC7 := hide (HCT.out P _ _ w7 R7)
        have hvb := HVB.out P
        have HFP := hide (HF.out P)
        have HB7 := hide (hB.out.trans (B7.mono hB.out.size))
        have c7 := HLC.out w7 B7
        obtain ⟨OV, hOV⟩ : ∃ OV, ob gW gH l (pz gW gH zs m P) mo = OV := ⟨_, rfl⟩
        rw [hOV] at HC7 hvb HFP
        clear SW kk7 R7 hOa hO5 hb5 B5 KZ hcn hOV
        go_wp2_with (refine wpList_load_gd rfl (.tmp 17) rfl (wr.heap.size) rfl K7 ?_)
        refine HC7.out.mono ?_
        rintro r w8 ⟨rfl, hb8⟩
        have HB8 := hide (HB7.out.trans (hb8.mono HB7.out.size))
        have c8 := (hb8.cell (p := ⟨lb, lo + j, none⟩) (World.block_lt_of_cell? w7 _ c7)).trans c7
        clear hb8 HC7 HB7 K7 c7 B7
        obtain ⟨vv, hvv⟩ : ∃ vv, OV.1 = vv := ⟨_, rfl⟩
        rw [hvv] at hvb HFP ⊢
        clear hvv
        by_cases hgt : s.1 < -vv
        · have hgt' : -vv > s.1 := hgt
          have HST : Hid (pickB f (L.take (j + 1)) = (-vv, some P)) := hide (by rw [HTK.out, pickB_snoc, ← hS.out]; unfold updB; rw [← HFP.out, if_pos hgt])
          clear hgt
          go_wp2_with fail
          refine ⟨⟨j + 1, (-vv, some P), by go_num, rfl, rfl, by omega, by show -1000 ≤ -vv ∧ -vv ≤ 64; omega, by show -1 ≤ (P : Int) ∧ (P : Int) ≤ 100; omega, hide HST.out.symm, HB8⟩, by simp [intOf]; omega⟩
        · have hgt' : ¬ -vv > s.1 := by omega
          have HST : Hid (pickB f (L.take (j + 1)) = s) := hide (by rw [HTK.out, pickB_snoc, ← hS.out]; unfold updB; rw [← HFP.out, if_neg hgt])
          clear hgt
          go_wp2_with fail
          refine ⟨⟨j + 1, s, by go_num, rfl, rfl, by omega, hsb, hsp, hide HST.out.symm, HB8⟩, by simp [intOf]; omega⟩
    · have hlt' : ¬ (j : Int) < (ln : Int) := by omega
      have HE : Hid (ob gW gH (l + 1) zs m = s) := hide (by rw [HOB.out, hS.out, List.take_of_length_le (by rw [HLE.out]; omega)])
      go_wp2_with fail
      go_ret2
      refine ⟨?_, HB1.out.trans ((HB3.out.trans (hB.out.mono HB3.out.size)).mono HB1.out.size)⟩
      rw [← HL1.out, HE.out]
      rfl

end Go.Proofs.YtkmghlmniahgbaaDoor
