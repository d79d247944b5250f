/-
  How many rows of so many moves there are, as the document counts them. No conditions beyond those that each theorem bears.
-/
import Derived.Test.YtkmghlmniahgbaaDoorSp
import Derived.Test.YtkmghlmniahgbaaDoorCt
namespace Go.Proofs.YtkmghlmniahgbaaDoor
open Go.RowKit

theorem wp_store_gd {o : Oper} {a : Act} {w : World} {K : Act → World → Prop} {Q : Exit → Act → World → Prop} (x y : Operand) (ho : o.op = .store 24 x y)
    (b : Nat) {W H : Int} {ad : Option Addr} {n c : Nat} {W' H' : Int} {ad' : Option Addr} {n' c' : Nat} (hx : a.eval x = .pointer (some ⟨b, 0, none⟩)) (hy : a.eval y = .agg (gdA W H ad n c)) (hb : Gd w b W' H' ad' n' c')
    (h : ∀ w', Gd w' b W H ad n c → Keeps (fun k => k = b) w w' → K (a.put o.dst undef) w') : o.wp Tryd.prog a w K Q := by
  have hb' : w.heap[b]? = _ := hb
  refine wp_store_row 24 x y ho b (gdA W H ad n c) hx hy 24 _ hb' size24 rfl (by simp [Value.oneCell']) ?_
  refine h _ ?_ ?_
  · simp [Gd, World.setRow, Array.getElem?_modify, hb']
  · exact ⟨rfl, rfl, rfl, by simp [World.setRow], fun k _ hk => by simp [World.setRow, Array.getElem?_modify, show ¬ b = k from fun e => hk e.symm]⟩

theorem Gd.range {w : World} {b : Nat} {W H : Int} {a : Option Addr} {n c : Nat} (h : Gd w b W H a n c) : w.rangeAt b 0 [.int .i64 W, .int .i64 H, .slice a n c] := by
  intro j v hv
  obtain ⟨h0, h1, h2⟩ := h.cells
  rw [Nat.zero_add]
  match j, hv with
  | 0, hv => rw [h0]; exact hv
  | 1, hv => rw [h1]; exact hv
  | 2, hv => rw [h2]; exact hv
  | j + 3, hv => simp at hv

theorem take_sum {T : Nat → Nat} {L : List Nat} {j : Nat} (hj : j < L.length) : ((L.take (j + 1)).map T).sum = ((L.take j).map T).sum + T (L.getD j 0) := by
  rw [List.take_succ_eq_append_getElem hj, List.map_append, List.sum_append]
  simp [List.getD, hj]

theorem toI_getD {L : List Nat} {j : Nat} (hj : j < L.length) : (toI L).getD j 0 = ((L.getD j 0 : Nat) : Int) := by
  simp [toI, List.getD, hj]

theorem sps_mem {W H : Nat} {Z : List Int} {m p : Nat} (h : p ∈ sps W H Z m) : p < W * H ∧ lg (cl W H Z) (m : Int) ((p % W : Nat) : Int) ((p / W : Nat) : Int) = true := by
  unfold sps at h
  rw [List.mem_filter, List.mem_range] at h
  exact h

theorem psY_mem {gW gH n : Nat} {zs : List Int} {m p : Nat} (b : Og gW gH n zs) (h : p ∈ sps gW gH zs m) : psY gW gH zs m p = pz gW gH zs m p ∧ p < n ∧ 0 < psN gW gH zs m p := by
  obtain ⟨h1, h2⟩ := sps_mem h
  have h3 := (psN_lg (m := m) (Z := zs) (show 0 < gW by have := b.wd; omega) h1).2 h2
  unfold psY
  rw [if_pos h3]
  exact ⟨rfl, by rw [← b.mul]; exact h1, h3⟩

theorem Og.pz {gW gH n : Nat} {zs : List Int} {m p : Nat} (b : Og gW gH n zs) (hm : m = 1 ∨ m = 2) : Og gW gH n (pz gW gH zs m p) :=
  ⟨b.wd, b.ht, b.we, b.he, b.mul, by rw [pz_len, b.mul], pz_may hm b.z⟩

/-- The document's count, so many moves deep. -/
def RcOk (gW gH n l : Nat) : Prop := ∀ (zs : List Int) (a : Option Addr) (c m : Nat) (w : World), (m = 1 ∨ m = 2) → Rd w a n c zs → Og gW gH n zs →
  Calls Tryd.prog 22 #[.agg (gdA gW gH a n c), .int .i64 (m : Nat), .int .i64 (l : Nat)] w fun e w' => e = .returned (.int .i64 (oc gW gH l zs m : Nat)) ∧ Below w.heap.size w w'

set_option maxHeartbeats 1000000 in
theorem rc_zero (gW gH n : Nat) : RcOk gW gH n 0 := by
  intro zs a c m w hm h b
  rw [oc_zero]
  clear h b hm
  go_enter Tryd.func22, Tryd.ntmps22
  go_wp2_with fail
  go_ret
  exact ⟨rfl, (Below.refl _ w).alloc (Nat.le_refl _) _⟩

attribute [local irreducible] oc pz sps psN psY

set_option maxRecDepth 100000 in
set_option maxHeartbeats 8000000 in
theorem rc_succ (gW gH n l : Nat) (hl : l ≤ 5) (ih : RcOk gW gH n l) : RcOk gW gH n (l + 1) := by
  intro zs a c m w hm h b
  have hn64 := b.n64
  have hcm := h.max
  unfold maxLen at hcm
  have hcc := h.cap
  have hWH : gW * gH ≤ 64 := by rw [b.mul]; omega
  have HOB : Hid (∀ Z m, oc gW gH l Z m ≤ 1073741824) := hide (fun Z m => Nat.le_trans (oc_bd gW gH hWH l Z m) (Nat.pow_le_pow_right (by omega) hl))
  have HSPA := hide (fun m' (hm' : m' = 1 ∨ m' = 2) W1 (hR : Rd W1 a n c zs) => SignPlaces_any gW gH a n c zs m' W1 hR b hm')
  have HPSA := hide (fun m' (hm' : m' = 1 ∨ m' = 2) p (hp : p < n) W1 (hR : Rd W1 a n c zs) => PutSign_any gW gH a n c zs m' p W1 hR b hm' hp)
  have HMEM := hide (fun m' p (hp : p ∈ sps gW gH zs m') => psY_mem b hp)
  have HLN := hide (fun m' => Nat.le_trans (sps_len gW gH zs m') hWH)
  have HIH := hide (fun m' (hm' : m' = 1 ∨ m' = 2) p a' c' W1 (hR : Rd W1 a' n c' (pz gW gH zs m' p)) => ih (pz gW gH zs m' p) a' c' (3 - m') W1 (by omega) hR (b.pz hm'))
  have HR := hide h
  have HMM := hide hm
  obtain ⟨mo, hmo⟩ : ∃ mo, 3 - m = mo := ⟨_, rfl⟩
  have hmo2 : 3 - mo = m := by omega
  have h3a : (3 : Int) - (m : Int) = (mo : Int) := by omega
  have h3b : (3 : Int) - (mo : Int) = (m : Int) := by omega
  have HMO := hide hmo
  have HMO2 := hide hmo2
  have HMM2 : Hid (mo = 1 ∨ mo = 2) := hide (by omega)
  have hmb : m ≤ 2 := by omega
  have hmob : mo ≤ 2 := by omega
  obtain ⟨R, hR⟩ : ∃ R, oc gW gH (l + 1) zs m = R := ⟨_, rfl⟩
  have HRR := hide hR
  rw [hR]
  obtain ⟨L1, hL1⟩ : ∃ L1 : Nat, l + 1 = L1 := ⟨_, rfl⟩
  have HL1 := hide hL1
  have hl6 : (L1 : Int) ≤ 6 := by omega
  have hl0 : ((L1 : Int) == 0) = false := by simp; omega
  have hl1 : (L1 : Int) - 1 = (l : Int) := by omega
  rw [hL1]
  obtain ⟨w1, hw1⟩ : ∃ w1, w.alloc (.cells (gdA gW gH a n c) 24) = w1 := ⟨_, rfl⟩
  have HB1 : Hid (Below w.heap.size w w1) := hide (by rw [← hw1]; exact (Below.refl _ _).alloc (Nat.le_refl _) _)
  have G1 : Gd w1 w.heap.size gW gH a n c := by rw [← hw1]; exact Gd.new _ _ _ _ _ _
  have HC1 := hide (HSPA.out m hm w1 (h.mono HB1.out))
  clear hR hL1 ih hm hmo hmo2 hWH h b
  go_enter Tryd.func22, Tryd.ntmps22
  go_upto_region 1 with fail
  clear hw1
  go_wp2_with (refine wpList_load_gd rfl (.tmp 3) rfl w.heap.size rfl G1 ?_)
  refine HC1.out.mono ?_
  rintro e w2 ⟨la, lc, rfl, hL, hb2⟩
  have G2 := G1.below hb2 G1.lt
  have HB2 := hide (HB1.out.trans (hb2.mono HB1.out.size))
  clear G1 HC1 hb2 HB1
  by_cases hs1 : sps gW gH zs m = []
  rotate_left
  · have HSUM : Hid (oc gW gH (l + 1) zs m = ((sps gW gH zs m).map fun p => oc gW gH l (pz gW gH zs m p) mo).sum) := hide (by rw [oc_own hs1, HMO.out])
    have HPSC0 := hide (HPSA.out m HMM.out)
    have HCT := hide (HIH.out m HMM.out)
    rw [HMO.out] at HCT
    have HME := hide (HMEM.out m)
    have hln := HLN.out m
    have hlp : 0 < (sps gW gH zs m).length := List.length_pos_iff.2 hs1
    clear hs1
    obtain ⟨T, hT⟩ : ∃ T : Nat → Nat, (fun p => oc gW gH l (pz gW gH zs m p) mo) = T := ⟨_, rfl⟩
    have HTT : Hid (∀ p, oc gW gH l (pz gW gH zs m p) mo = T p) := hide (fun p => by rw [← hT])
    have HTB : Hid (∀ p, T p ≤ 1073741824) := hide (fun p => by rw [← hT]; exact HOB.out _ _)
    rw [hT] at HSUM
    obtain ⟨L, hLL⟩ : ∃ L, sps gW gH zs m = L := ⟨_, rfl⟩
    rw [hLL] at HSUM hL hln HME hlp ⊢
    clear hT hLL HSPA HPSA HMEM HLN HIH HOB
    have hlm := hL.max
    unfold maxLen at hlm
    have hlcap := hL.cap
    obtain ⟨lb, lo, rfl, -⟩ := hL.cells hlp
    have HL := hide hL
    have HG := hide G2
    have hz : ((L.length : Int) == 0) = false := by rw [beq_eq_false_iff_ne]; omega
    have HRW := hide (HR.out.mono HB2.out)
    obtain ⟨ln, hlne⟩ : ∃ ln, L.length = ln := ⟨_, rfl⟩
    rw [hlne] at hln hlp HL hz hlcap ⊢
    have HLE := hide hlne
    clear hL G2 hlne
    go_wp2_with fail
    go_loopw [8, 9] (fun u v wr => ∃ j s : Nat, v = .int .i64 j ∧ u = .int .i64 s ∧ j ≤ ln ∧ Hid (s = ((L.take j).map T).sum) ∧ Hid (Below w2.heap.size w2 wr)) (fun _ v _ => ln - (intOf v).toNat)
    case atStart => exact ⟨0, 0, rfl, rfl, by omega, hide (by simp), hide (Below.refl _ _)⟩
    case round =>
      obtain ⟨j, NV, rfl, rfl, hj, hN, hB⟩ := hrel
      by_cases hlt : j < ln
      · have hlt' : (j : Int) < (ln : Int) := by omega
        have hjL : j < L.length := by rw [HLE.out]; exact hlt
        have HTS := hide (take_sum (T := T) hjL)
        have hcj := ((HL.out.mono hB.out).cell hlt).2
        rw [toI_getD hjL] at hcj
        have hmem : L.getD j 0 ∈ L := by simp [List.getD, hjL]
        have HMP := hide (HME.out _ hmem)
        have hsb := sum_bd T 1073741824 HTB.out (L.take j)
        have hvb := HTB.out (L.getD j 0)
        rw [← hN.out] at hsb
        have hNV2 : NV ≤ 68719476736 := by
          have h1 : (L.take j).length * 1073741824 ≤ 64 * 1073741824 := Nat.mul_le_mul_right _ (by rw [List.length_take]; omega)
          omega
        obtain ⟨P, hP⟩ : ∃ P, L.getD j 0 = P := ⟨_, rfl⟩
        rw [hP] at HTS hcj HMP hvb
        have HTT := hide (HTT.out P)
        obtain ⟨V, hV⟩ : ∃ V, T P = V := ⟨_, rfl⟩
        rw [hV] at HTS hvb HTT
        have hPn := HMP.out.2.1
        have HPSC : Hid (∀ W1, Below wr.heap.size wr W1 → Calls Tryd.prog 20 #[.agg (gdA gW gH a n c), .int .i64 (m : Nat), .int .i64 (P : Nat)] W1 fun e w' => ∃ cb cc, e = .returned (.tuple #[.agg (gdA gW gH (some ⟨cb, 0, none⟩) n cc), .int .i64 (psN gW gH zs m P : Nat)]) ∧ w'.ownsRow W1.heap.size 3 1 (.slice (some ⟨cb, 0, none⟩) n cc) n ((pz gW gH zs m P).map (Value.int .i64)) ∧ Below W1.heap.size W1 w') := hide (fun W1 hb => by
          have := HPSC0.out P hPn W1 ((HRW.out.mono hB.out).mono hb)
          rw [HMP.out.1] at this
          exact this)
        have Gr := HG.out.below hB.out HG.out.lt
        have HGR : Hid (∀ W4, Below wr.heap.size wr W4 → W4.rangeAt w.heap.size 0 [.int .i64 gW, .int .i64 gH, .slice a n c]) := hide (fun W4 hb => (Gr.below hb Gr.lt).range)
        have HLC : Hid (∀ W4, Below wr.heap.size wr W4 → W4.cell? ⟨lb, lo + j, none⟩ = some (.int .i64 (P : Nat))) := hide (fun W4 hb => (hb.cell (p := ⟨lb, lo + j, none⟩) (World.block_lt_of_cell? wr _ hcj)).trans hcj)
        obtain ⟨PN, hPN⟩ : ∃ PN, psN gW gH zs m P = PN := ⟨_, rfl⟩
        rw [hPN] at HPSC
        have hfin : NV + V ≤ 70000000000 := by omega
        clear hP hV hPN hmem hsb hcj Gr
        go_upto_region 13 with fail
        refine wp_region_held (S := fun W4 => Below wr.heap.size wr W4) (by kernel_rfl) ?_
        change wpAnyH _ _ _ _ _ _ _ _ (World.drew _)
        have SW : Below wr.heap.size wr wr.drew := (Below.refl _ wr).drew
        refine wpAnyH_take (i := 0) (v := .agg (gdA gW gH a n c)) rfl (by kernel_rfl) (by kernel_rfl) (by kernel_rfl) (fun _ _ _ h => h) (yieldsIf_load_mid (by rfl) 24 _ rfl w.heap.size 0 (by rfl) [.int .i64 gW, .int .i64 gH, .slice a n c] _ (fun W hW => HGR.out W hW) Tryd.underlying24 rfl size24) SW ?_
        go_simp
        refine wpAnyH_take (i := 1) (v := .int .i64 (m : Nat)) rfl (by kernel_rfl) (by kernel_rfl) (by kernel_rfl) (fun _ _ _ h => h) (Or.inl ⟨by rfl, ?_⟩) SW ?_
        · intro W4 hW4
          go_simp <;> first | done | rfl | (rw [IntKind.wrap_i64]; omega) | omega
        go_simp
        refine wpAnyH_take (i := 2) (v := .slice (some ⟨lb, lo, none⟩) ln lc) rfl (by kernel_rfl) (by kernel_rfl) (by kernel_rfl) (fun _ _ _ h => h) (Or.inl ⟨by rfl, ?_⟩) SW ?_
        · intro W4 hW4
          go_simp <;> first | done | rfl | (rw [IntKind.wrap_i64]; omega) | omega
        go_simp
        refine wpAnyH_take (i := 3) (v := .int .i64 (j : Nat)) rfl (by kernel_rfl) (by kernel_rfl) (by kernel_rfl) (fun _ _ _ h => h) (Or.inl ⟨by rfl, ?_⟩) SW ?_
        · intro W4 hW4
          go_simp <;> first | done | rfl | (rw [IntKind.wrap_i64]; omega) | omega
        go_simp
        refine wpAnyH_take (i := 4) (v := .pointer (some ⟨lb, lo + j, none⟩)) rfl (by kernel_rfl) (by kernel_rfl) (by kernel_rfl) (fun _ _ _ h => h) (Or.inl ⟨by rfl, ?_⟩) SW ?_
        · intro W4 hW4
          go_simp <;> first | done | rfl | (rw [IntKind.wrap_i64]; omega) | omega
        go_simp
        refine wpAnyH_take (i := 5) (v := .int .i64 (P : Nat)) rfl (by kernel_rfl) (by kernel_rfl) (by kernel_rfl) (fun _ _ _ h => h) (Or.inl ⟨by rfl, ?_⟩) SW ?_
        · intro W4 hW4
          have x0 := HLC.out W4 hW4
          go_simp <;> first | done | rfl | (rw [IntKind.wrap_i64]; omega) | omega
        go_simp
        refine wpAnyH_ready (rs := [6, 10]) (by kernel_rfl) (by simp) ?_
        refine AllReadyH.cons rfl (fun K1 hK1 => ?_) (AllReadyH.cons rfl (fun K1 hK1 => ?_) AllReadyH.nil)
        · go_simp
          refine (HPSC.out _ SW).mono ?_
          rintro r w5 ⟨cb, cc, rfl, hO5, hb5⟩
          have B5 := SW.trans (hb5.mono (by have := SW.size; omega))
          refine hK1.out _ _ B5 (fun SW => ?_)
          clear hK1 K1
          go_simp
          refine wpAnyH_take (i := 7) (v := .tuple #[.agg (gdA gW gH (some ⟨cb, 0, none⟩) n cc), .int .i64 (PN : Nat)]) rfl (by kernel_rfl) (by kernel_rfl) (by kernel_rfl) (fun _ _ _ h => h) (Or.inl ⟨by rfl, ?_⟩) SW ?_
          · intro W4 hW4
            go_simp <;> first | done | rfl | (rw [IntKind.wrap_i64]; omega) | omega
          go_simp
          refine wpAnyH_take (i := 8) (v := .agg (gdA gW gH (some ⟨cb, 0, none⟩) n cc)) rfl (by kernel_rfl) (by kernel_rfl) (by kernel_rfl) (fun _ _ _ h => h) (Or.inl ⟨by rfl, ?_⟩) SW ?_
          · intro W4 hW4
            go_simp <;> first | done | rfl | (rw [IntKind.wrap_i64]; omega) | omega
          go_simp
          refine wpAnyH_take (i := 9) (v := .int .i64 (PN : Nat)) rfl (by kernel_rfl) (by kernel_rfl) (by kernel_rfl) (fun _ _ _ h => h) (Or.inl ⟨by rfl, ?_⟩) SW ?_
          · intro W4 hW4
            go_simp <;> first | done | rfl | (rw [IntKind.wrap_i64]; omega) | omega
          go_simp
          refine wpAnyH_ready (rs := [10]) (by kernel_rfl) (by simp) ?_
          refine AllReadyH.cons rfl (fun K1 hK1 => ?_) AllReadyH.nil
          go_simp
          have hnb1 : wr.heap.size ≤ w5.heap.size := B5.size
          have KZ : Gd (w5.alloc (Obj.cells #[Value.int IntKind.i64 0, Value.int IntKind.i64 0, Value.slice none 0 0] 24)) w5.heap.size 0 0 none 0 0 := Gd.new w5 0 0 none 0 0
          have hOa := hO5.alloc (Obj.cells #[Value.int IntKind.i64 0, Value.int IntKind.i64 0, Value.slice none 0 0] 24)
          have hcn : cb ≠ w5.heap.size := by have := (hO5.lt cb rfl).2; omega
          refine hK1.out _ _ (B5.alloc B5.size _) (fun SW => ?_)
          clear hK1 K1
          go_simp
          refine wpAnyH_ready (rs := [11]) (by kernel_rfl) (by simp) ?_
          refine AllReadyH.cons rfl (fun K1 hK1 => ?_) AllReadyH.nil
          refine wp_store_gd (.tmp 10) (.tmp 42) rfl (w5.heap.size) rfl rfl KZ ?_
          intro w7 K7 kk7
          refine hK1.out _ _ (SW.trans ((kk7.mono (Y := fun q => wr.heap.size ≤ q) (fun q _ e => by omega)).below (B := wr.heap.size) (by have := SW.size; omega) (fun q hq e => by omega))) (fun SW => ?_)
          clear hK1 K1
          go_simp
          refine wpAnyH_ready (rs := [12]) (by kernel_rfl) (by simp) ?_
          refine AllReadyH.cons rfl (fun K1 hK1 => ?_) AllReadyH.nil
          go_simp
          refine hK1.out _ _ SW (fun SW => ?_)
          clear hK1 K1
          go_simp
          refine wpAnyH_done (by kernel_rfl) ?_ _
          have B7 : Below wr.heap.size wr w7 := SW
          have R7 : Rd w7 (some ⟨cb, 0, none⟩) n cc (pz gW gH zs m P) := by
            have := own_blk hOa (w' := w7) (fun g hg => by
              simp only [Value.ownBlock, Option.some.injEq] at hg
              rw [← hg]
              exact kk7.block _ (hOa.lt cb rfl).2 (by show ¬ cb = w5.heap.size; exact hcn))
            exact Rd.of_own (own_base this (Nat.zero_le _))
          have HC7 := hide (HCT.out P _ _ w7 R7)
          rw [HTT.out] at HC7
          have HB7 := hide (hB.out.trans (B7.mono hB.out.size))
          clear SW kk7 R7 hOa hO5 hb5 B5 KZ hcn
          go_wp2_with (refine wpList_load_gd rfl (.tmp 10) rfl (w5.heap.size) rfl K7 ?_)
          refine HC7.out.mono ?_
          rintro r w8 ⟨rfl, hb8⟩
          have HB8 := hide (HB7.out.trans (hb8.mono HB7.out.size))
          clear hb8 HC7 HB7 K7
          go_wp2_with fail
          refine ⟨⟨j + 1, NV + V, by go_num, by go_num, by omega, hide (by rw [HTS.out, hN.out]), HB8⟩, by simp [intOf]; omega⟩
        · go_simp
          have KZ0 : Gd (wr.alloc (Obj.cells #[Value.int IntKind.i64 0, Value.int IntKind.i64 0, Value.slice none 0 0] 24)).drew wr.heap.size 0 0 none 0 0 := Gd.new wr 0 0 none 0 0
          refine hK1.out _ _ (SW.alloc SW.size _) (fun SW => ?_)
          clear hK1 K1
          go_simp
          refine wpAnyH_ready (rs := [6]) (by kernel_rfl) (by simp) ?_
          refine AllReadyH.cons rfl (fun K1 hK1 => ?_) AllReadyH.nil
          go_simp
          refine (HPSC.out _ SW).mono ?_
          rintro r w5 ⟨cb, cc, rfl, hO5, hb5⟩
          have B5 := SW.trans (hb5.mono (by have := SW.size; omega))
          refine hK1.out _ _ B5 (fun SW => ?_)
          clear hK1 K1
          go_simp
          refine wpAnyH_take (i := 7) (v := .tuple #[.agg (gdA gW gH (some ⟨cb, 0, none⟩) n cc), .int .i64 (PN : Nat)]) rfl (by kernel_rfl) (by kernel_rfl) (by kernel_rfl) (fun _ _ _ h => h) (Or.inl ⟨by rfl, ?_⟩) SW ?_
          · intro W4 hW4
            go_simp <;> first | done | rfl | (rw [IntKind.wrap_i64]; omega) | omega
          go_simp
          refine wpAnyH_take (i := 8) (v := .agg (gdA gW gH (some ⟨cb, 0, none⟩) n cc)) rfl (by kernel_rfl) (by kernel_rfl) (by kernel_rfl) (fun _ _ _ h => h) (Or.inl ⟨by rfl, ?_⟩) SW ?_
          · intro W4 hW4
            go_simp <;> first | done | rfl | (rw [IntKind.wrap_i64]; omega) | omega
          go_simp
          refine wpAnyH_take (i := 9) (v := .int .i64 (PN : Nat)) rfl (by kernel_rfl) (by kernel_rfl) (by kernel_rfl) (fun _ _ _ h => h) (Or.inl ⟨by rfl, ?_⟩) SW ?_
          · intro W4 hW4
            go_simp <;> first | done | rfl | (rw [IntKind.wrap_i64]; omega) | omega
          go_simp
          have KZ := KZ0.below hb5 KZ0.lt
          have hOa := hO5
          have hcn : cb ≠ wr.heap.size := by have h1 := (hO5.lt cb rfl).1; have h2 := KZ0.lt; omega
          clear KZ0
          refine wpAnyH_ready (rs := [11]) (by kernel_rfl) (by simp) ?_
          refine AllReadyH.cons rfl (fun K1 hK1 => ?_) AllReadyH.nil
          refine wp_store_gd (.tmp 10) (.tmp 42) rfl (wr.heap.size) rfl rfl KZ ?_
          intro w7 K7 kk7
          refine hK1.out _ _ (SW.trans ((kk7.mono (Y := fun q => wr.heap.size ≤ q) (fun q _ e => by omega)).below (B := wr.heap.size) (by have := SW.size; omega) (fun q hq e => by omega))) (fun SW => ?_)
          clear hK1 K1
          go_simp
          refine wpAnyH_ready (rs := [12]) (by kernel_rfl) (by simp) ?_
          refine AllReadyH.cons rfl (fun K1 hK1 => ?_) AllReadyH.nil
          go_simp
          refine hK1.out _ _ SW (fun SW => ?_)
          clear hK1 K1
          go_simp
          refine wpAnyH_done (by kernel_rfl) ?_ _
          have B7 : Below wr.heap.size wr w7 := SW
          have R7 : Rd w7 (some ⟨cb, 0, none⟩) n cc (pz gW gH zs m P) := by
            have := own_blk hOa (w' := w7) (fun g hg => by
              simp only [Value.ownBlock, Option.some.injEq] at hg
              rw [← hg]
              exact kk7.block _ (hOa.lt cb rfl).2 (by show ¬ cb = wr.heap.size; exact hcn))
            exact Rd.of_own (own_base this (Nat.zero_le _))
          have HC7 := hide (HCT.out P _ _ w7 R7)
          rw [HTT.out] at HC7
          have HB7 := hide (hB.out.trans (B7.mono hB.out.size))
          clear SW kk7 R7 hOa hO5 hb5 B5 KZ hcn
          go_wp2_with (refine wpList_load_gd rfl (.tmp 10) rfl (wr.heap.size) rfl K7 ?_)
          refine HC7.out.mono ?_
          rintro r w8 ⟨rfl, hb8⟩
          have HB8 := hide (HB7.out.trans (hb8.mono HB7.out.size))
          clear hb8 HC7 HB7 K7
          go_wp2_with fail
          refine ⟨⟨j + 1, NV + V, by go_num, by go_num, by omega, hide (by rw [HTS.out, hN.out]), HB8⟩, by simp [intOf]; omega⟩
      · have hlt' : ¬ (j : Int) < (ln : Int) := by omega
        have HE : Hid (R = NV) := hide (by rw [← HRR.out, HSUM.out, hN.out, List.take_of_length_le (by rw [HLE.out]; omega)])
        obtain rfl := HE.out
        go_wp2_with fail
        go_ret
        exact ⟨rfl, HB2.out.trans (hB.out.mono HB2.out.size)⟩
  · have hLE : (sps gW gH zs m).length = 0 := by rw [hs1]; rfl
    have HC2 := hide (HSPA.out mo HMM2.out w2 (HR.out.mono HB2.out))
    rw [hLE]
    clear hLE hL
    have hzz : (((0 : Nat) : Int) == 0) = true := by rfl
    go_wp2_with (refine wpList_load_gd rfl (.tmp 3) rfl w.heap.size rfl G2 ?_)
    refine HC2.out.mono ?_
    rintro e w3 ⟨la, lc, rfl, hL, hb3⟩
    have G3 := G2.below hb3 G2.lt
    have HB3 := hide (HB2.out.trans (hb3.mono HB2.out.size))
    clear G2 HC2 hb3 HB2 hzz
    by_cases hs2 : sps gW gH zs mo = []
    rotate_left
    · have HSUM : Hid (oc gW gH (l + 1) zs m = ((sps gW gH zs mo).map fun p => oc gW gH l (pz gW gH zs mo p) m).sum) := hide (by rw [oc_pass hs1 (by rw [HMO.out]; exact hs2), HMO.out])
      have HPSC0 := hide (HPSA.out mo HMM2.out)
      have HCT := hide (HIH.out mo HMM2.out)
      rw [HMO2.out] at HCT
      have HME := hide (HMEM.out mo)
      have hln := HLN.out mo
      have hlp : 0 < (sps gW gH zs mo).length := List.length_pos_iff.2 hs2
      clear hs1 hs2
      obtain ⟨T, hT⟩ : ∃ T : Nat → Nat, (fun p => oc gW gH l (pz gW gH zs mo p) m) = T := ⟨_, rfl⟩
      have HTT : Hid (∀ p, oc gW gH l (pz gW gH zs mo p) m = T p) := hide (fun p => by rw [← hT])
      have HTB : Hid (∀ p, T p ≤ 1073741824) := hide (fun p => by rw [← hT]; exact HOB.out _ _)
      rw [hT] at HSUM
      obtain ⟨L, hLL⟩ : ∃ L, sps gW gH zs mo = L := ⟨_, rfl⟩
      rw [hLL] at HSUM hL hln HME hlp ⊢
      clear hT hLL HSPA HPSA HMEM HLN HIH HOB
      have hlm := hL.max
      unfold maxLen at hlm
      have hlcap := hL.cap
      obtain ⟨lb, lo, rfl, -⟩ := hL.cells hlp
      have HL := hide hL
      have HG := hide G3
      have hz : ((L.length : Int) == 0) = false := by rw [beq_eq_false_iff_ne]; omega
      have HRW := hide (HR.out.mono HB3.out)
      obtain ⟨ln, hlne⟩ : ∃ ln, L.length = ln := ⟨_, rfl⟩
      rw [hlne] at hln hlp HL hz hlcap ⊢
      have HLE := hide hlne
      clear hL G3 hlne
      go_wp2_with fail
      go_loopw [8, 9] (fun u v wr => ∃ j s : Nat, v = .int .i64 j ∧ u = .int .i64 s ∧ j ≤ ln ∧ Hid (s = ((L.take j).map T).sum) ∧ Hid (Below w3.heap.size w3 wr)) (fun _ v _ => ln - (intOf v).toNat)
      case atStart => exact ⟨0, 0, rfl, rfl, by omega, hide (by simp), hide (Below.refl _ _)⟩
      case round =>
        obtain ⟨j, NV, rfl, rfl, hj, hN, hB⟩ := hrel
        by_cases hlt : j < ln
        · have hlt' : (j : Int) < (ln : Int) := by omega
          have hjL : j < L.length := by rw [HLE.out]; exact hlt
          have HTS := hide (take_sum (T := T) hjL)
          have hcj := ((HL.out.mono hB.out).cell hlt).2
          rw [toI_getD hjL] at hcj
          have hmem : L.getD j 0 ∈ L := by simp [List.getD, hjL]
          have HMP := hide (HME.out _ hmem)
          have hsb := sum_bd T 1073741824 HTB.out (L.take j)
          have hvb := HTB.out (L.getD j 0)
          rw [← hN.out] at hsb
          have hNV2 : NV ≤ 68719476736 := by
            have h1 : (L.take j).length * 1073741824 ≤ 64 * 1073741824 := Nat.mul_le_mul_right _ (by rw [List.length_take]; omega)
            omega
          obtain ⟨P, hP⟩ : ∃ P, L.getD j 0 = P := ⟨_, rfl⟩
          rw [hP] at HTS hcj HMP hvb
          have HTT := hide (HTT.out P)
          obtain ⟨V, hV⟩ : ∃ V, T P = V := ⟨_, rfl⟩
          rw [hV] at HTS hvb HTT
          have hPn := HMP.out.2.1
          have HPSC : Hid (∀ W1, Below wr.heap.size wr W1 → Calls Tryd.prog 20 #[.agg (gdA gW gH a n c), .int .i64 (mo : Nat), .int .i64 (P : Nat)] W1 fun e w' => ∃ cb cc, e = .returned (.tuple #[.agg (gdA gW gH (some ⟨cb, 0, none⟩) n cc), .int .i64 (psN gW gH zs mo P : Nat)]) ∧ w'.ownsRow W1.heap.size 3 1 (.slice (some ⟨cb, 0, none⟩) n cc) n ((pz gW gH zs mo P).map (Value.int .i64)) ∧ Below W1.heap.size W1 w') := hide (fun W1 hb => by
            have := HPSC0.out P hPn W1 ((HRW.out.mono hB.out).mono hb)
            rw [HMP.out.1] at this
            exact this)
          have Gr := HG.out.below hB.out HG.out.lt
          have HGR : Hid (∀ W4, Below wr.heap.size wr W4 → W4.rangeAt w.heap.size 0 [.int .i64 gW, .int .i64 gH, .slice a n c]) := hide (fun W4 hb => (Gr.below hb Gr.lt).range)
          have HLC : Hid (∀ W4, Below wr.heap.size wr W4 → W4.cell? ⟨lb, lo + j, none⟩ = some (.int .i64 (P : Nat))) := hide (fun W4 hb => (hb.cell (p := ⟨lb, lo + j, none⟩) (World.block_lt_of_cell? wr _ hcj)).trans hcj)
          obtain ⟨PN, hPN⟩ : ∃ PN, psN gW gH zs mo P = PN := ⟨_, rfl⟩
          rw [hPN] at HPSC
          have hfin : NV + V ≤ 70000000000 := by omega
          clear hP hV hPN hmem hsb hcj Gr
          go_upto_region 13 with fail
          refine wp_region_held (S := fun W4 => Below wr.heap.size wr W4) (by kernel_rfl) ?_
          change wpAnyH _ _ _ _ _ _ _ _ (World.drew _)
          have SW : Below wr.heap.size wr wr.drew := (Below.refl _ wr).drew
          refine wpAnyH_take (i := 0) (v := .agg (gdA gW gH a n c)) rfl (by kernel_rfl) (by kernel_rfl) (by kernel_rfl) (fun _ _ _ h => h) (yieldsIf_load_mid (by rfl) 24 _ rfl w.heap.size 0 (by rfl) [.int .i64 gW, .int .i64 gH, .slice a n c] _ (fun W hW => HGR.out W hW) Tryd.underlying24 rfl size24) SW ?_
          go_simp
          refine wpAnyH_take (i := 1) (v := .int .i64 (mo : Nat)) rfl (by kernel_rfl) (by kernel_rfl) (by kernel_rfl) (fun _ _ _ h => h) (Or.inl ⟨by rfl, ?_⟩) SW ?_
          · intro W4 hW4
            go_simp <;> first | done | rfl | (rw [IntKind.wrap_i64]; omega) | omega
          go_simp
          refine wpAnyH_take (i := 2) (v := .slice (some ⟨lb, lo, none⟩) ln lc) rfl (by kernel_rfl) (by kernel_rfl) (by kernel_rfl) (fun _ _ _ h => h) (Or.inl ⟨by rfl, ?_⟩) SW ?_
          · intro W4 hW4
            go_simp <;> first | done | rfl | (rw [IntKind.wrap_i64]; omega) | omega
          go_simp
          refine wpAnyH_take (i := 3) (v := .int .i64 (j : Nat)) rfl (by kernel_rfl) (by kernel_rfl) (by kernel_rfl) (fun _ _ _ h => h) (Or.inl ⟨by rfl, ?_⟩) SW ?_
          · intro W4 hW4
            go_simp <;> first | done | rfl | (rw [IntKind.wrap_i64]; omega) | omega
          go_simp
          refine wpAnyH_take (i := 4) (v := .pointer (some ⟨lb, lo + j, none⟩)) rfl (by kernel_rfl) (by kernel_rfl) (by kernel_rfl) (fun _ _ _ h => h) (Or.inl ⟨by rfl, ?_⟩) SW ?_
          · intro W4 hW4
            go_simp <;> first | done | rfl | (rw [IntKind.wrap_i64]; omega) | omega
          go_simp
          refine wpAnyH_take (i := 5) (v := .int .i64 (P : Nat)) rfl (by kernel_rfl) (by kernel_rfl) (by kernel_rfl) (fun _ _ _ h => h) (Or.inl ⟨by rfl, ?_⟩) SW ?_
          · intro W4 hW4
            have x0 := HLC.out W4 hW4
            go_simp <;> first | done | rfl | (rw [IntKind.wrap_i64]; omega) | omega
          go_simp
          refine wpAnyH_ready (rs := [6, 10]) (by kernel_rfl) (by simp) ?_
          refine AllReadyH.cons rfl (fun K1 hK1 => ?_) (AllReadyH.cons rfl (fun K1 hK1 => ?_) AllReadyH.nil)
          · go_simp
            refine (HPSC.out _ SW).mono ?_
            rintro r w5 ⟨cb, cc, rfl, hO5, hb5⟩
            have B5 := SW.trans (hb5.mono (by have := SW.size; omega))
            refine hK1.out _ _ B5 (fun SW => ?_)
            clear hK1 K1
            go_simp
            refine wpAnyH_take (i := 7) (v := .tuple #[.agg (gdA gW gH (some ⟨cb, 0, none⟩) n cc), .int .i64 (PN : Nat)]) rfl (by kernel_rfl) (by kernel_rfl) (by kernel_rfl) (fun _ _ _ h => h) (Or.inl ⟨by rfl, ?_⟩) SW ?_
            · intro W4 hW4
              go_simp <;> first | done | rfl | (rw [IntKind.wrap_i64]; omega) | omega
            go_simp
            refine wpAnyH_take (i := 8) (v := .agg (gdA gW gH (some ⟨cb, 0, none⟩) n cc)) rfl (by kernel_rfl) (by kernel_rfl) (by kernel_rfl) (fun _ _ _ h => h) (Or.inl ⟨by rfl, ?_⟩) SW ?_
            · intro W4 hW4
              go_simp <;> first | done | rfl | (rw [IntKind.wrap_i64]; omega) | omega
            go_simp
            refine wpAnyH_take (i := 9) (v := .int .i64 (PN : Nat)) rfl (by kernel_rfl) (by kernel_rfl) (by kernel_rfl) (fun _ _ _ h => h) (Or.inl ⟨by rfl, ?_⟩) SW ?_
            · intro W4 hW4
              go_simp <;> first | done | rfl | (rw [IntKind.wrap_i64]; omega) | omega
            go_simp
            refine wpAnyH_ready (rs := [10]) (by kernel_rfl) (by simp) ?_
            refine AllReadyH.cons rfl (fun K1 hK1 => ?_) AllReadyH.nil
            go_simp
            have hnb1 : wr.heap.size ≤ w5.heap.size := B5.size
            have KZ : Gd (w5.alloc (Obj.cells #[Value.int IntKind.i64 0, Value.int IntKind.i64 0, Value.slice none 0 0] 24)) w5.heap.size 0 0 none 0 0 := Gd.new w5 0 0 none 0 0
            have hOa := hO5.alloc (Obj.cells #[Value.int IntKind.i64 0, Value.int IntKind.i64 0, Value.slice none 0 0] 24)
            have hcn : cb ≠ w5.heap.size := by have := (hO5.lt cb rfl).2; omega
            refine hK1.out _ _ (B5.alloc B5.size _) (fun SW => ?_)
            clear hK1 K1
            go_simp
            refine wpAnyH_ready (rs := [11]) (by kernel_rfl) (by simp) ?_
            refine AllReadyH.cons rfl (fun K1 hK1 => ?_) AllReadyH.nil
            refine wp_store_gd (.tmp 10) (.tmp 42) rfl (w5.heap.size) rfl rfl KZ ?_
            intro w7 K7 kk7
            refine hK1.out _ _ (SW.trans ((kk7.mono (Y := fun q => wr.heap.size ≤ q) (fun q _ e => by omega)).below (B := wr.heap.size) (by have := SW.size; omega) (fun q hq e => by omega))) (fun SW => ?_)
            clear hK1 K1
            go_simp
            refine wpAnyH_ready (rs := [12]) (by kernel_rfl) (by simp) ?_
            refine AllReadyH.cons rfl (fun K1 hK1 => ?_) AllReadyH.nil
            go_simp
            refine hK1.out _ _ SW (fun SW => ?_)
            clear hK1 K1
            go_simp
            refine wpAnyH_done (by kernel_rfl) ?_ _
            have B7 : Below wr.heap.size wr w7 := SW
            have R7 : Rd w7 (some ⟨cb, 0, none⟩) n cc (pz gW gH zs mo P) := by
              have := own_blk hOa (w' := w7) (fun g hg => by
                simp only [Value.ownBlock, Option.some.injEq] at hg
                rw [← hg]
                exact kk7.block _ (hOa.lt cb rfl).2 (by show ¬ cb = w5.heap.size; exact hcn))
              exact Rd.of_own (own_base this (Nat.zero_le _))
            have HC7 := hide (HCT.out P _ _ w7 R7)
            rw [HTT.out] at HC7
            have HB7 := hide (hB.out.trans (B7.mono hB.out.size))
            clear SW kk7 R7 hOa hO5 hb5 B5 KZ hcn
            go_wp2_with (refine wpList_load_gd rfl (.tmp 10) rfl (w5.heap.size) rfl K7 ?_)
            refine HC7.out.mono ?_
            rintro r w8 ⟨rfl, hb8⟩
            have HB8 := hide (HB7.out.trans (hb8.mono HB7.out.size))
            clear hb8 HC7 HB7 K7
            go_wp2_with fail
            refine ⟨⟨j + 1, NV + V, by go_num, by go_num, by omega, hide (by rw [HTS.out, hN.out]), HB8⟩, by simp [intOf]; omega⟩
          · go_simp
            have KZ0 : Gd (wr.alloc (Obj.cells #[Value.int IntKind.i64 0, Value.int IntKind.i64 0, Value.slice none 0 0] 24)).drew wr.heap.size 0 0 none 0 0 := Gd.new wr 0 0 none 0 0
            refine hK1.out _ _ (SW.alloc SW.size _) (fun SW => ?_)
            clear hK1 K1
            go_simp
            refine wpAnyH_ready (rs := [6]) (by kernel_rfl) (by simp) ?_
            refine AllReadyH.cons rfl (fun K1 hK1 => ?_) AllReadyH.nil
            go_simp
            refine (HPSC.out _ SW).mono ?_
            rintro r w5 ⟨cb, cc, rfl, hO5, hb5⟩
            have B5 := SW.trans (hb5.mono (by have := SW.size; omega))
            refine hK1.out _ _ B5 (fun SW => ?_)
            clear hK1 K1
            go_simp
            refine wpAnyH_take (i := 7) (v := .tuple #[.agg (gdA gW gH (some ⟨cb, 0, none⟩) n cc), .int .i64 (PN : Nat)]) rfl (by kernel_rfl) (by kernel_rfl) (by kernel_rfl) (fun _ _ _ h => h) (Or.inl ⟨by rfl, ?_⟩) SW ?_
            · intro W4 hW4
              go_simp <;> first | done | rfl | (rw [IntKind.wrap_i64]; omega) | omega
            go_simp
            refine wpAnyH_take (i := 8) (v := .agg (gdA gW gH (some ⟨cb, 0, none⟩) n cc)) rfl (by kernel_rfl) (by kernel_rfl) (by kernel_rfl) (fun _ _ _ h => h) (Or.inl ⟨by rfl, ?_⟩) SW ?_
            · intro W4 hW4
              go_simp <;> first | done | rfl | (rw [IntKind.wrap_i64]; omega) | omega
            go_simp
            refine wpAnyH_take (i := 9) (v := .int .i64 (PN : Nat)) rfl (by kernel_rfl) (by kernel_rfl) (by kernel_rfl) (fun _ _ _ h => h) (Or.inl ⟨by rfl, ?_⟩) SW ?_
            · intro W4 hW4
              go_simp <;> first | done | rfl | (rw [IntKind.wrap_i64]; omega) | omega
            go_simp
            have KZ := KZ0.below hb5 KZ0.lt
            have hOa := hO5
            have hcn : cb ≠ wr.heap.size := by have h1 := (hO5.lt cb rfl).1; have h2 := KZ0.lt; omega
            clear KZ0
            refine wpAnyH_ready (rs := [11]) (by kernel_rfl) (by simp) ?_
            refine AllReadyH.cons rfl (fun K1 hK1 => ?_) AllReadyH.nil
            refine wp_store_gd (.tmp 10) (.tmp 42) rfl (wr.heap.size) rfl rfl KZ ?_
            intro w7 K7 kk7
            refine hK1.out _ _ (SW.trans ((kk7.mono (Y := fun q => wr.heap.size ≤ q) (fun q _ e => by omega)).below (B := wr.heap.size) (by have := SW.size; omega) (fun q hq e => by omega))) (fun SW => ?_)
            clear hK1 K1
            go_simp
            refine wpAnyH_ready (rs := [12]) (by kernel_rfl) (by simp) ?_
            refine AllReadyH.cons rfl (fun K1 hK1 => ?_) AllReadyH.nil
            go_simp
            refine hK1.out _ _ SW (fun SW => ?_)
            clear hK1 K1
            go_simp
            refine wpAnyH_done (by kernel_rfl) ?_ _
            have B7 : Below wr.heap.size wr w7 := SW
            have R7 : Rd w7 (some ⟨cb, 0, none⟩) n cc (pz gW gH zs mo P) := by
              have := own_blk hOa (w' := w7) (fun g hg => by
                simp only [Value.ownBlock, Option.some.injEq] at hg
                rw [← hg]
                exact kk7.block _ (hOa.lt cb rfl).2 (by show ¬ cb = wr.heap.size; exact hcn))
              exact Rd.of_own (own_base this (Nat.zero_le _))
            have HC7 := hide (HCT.out P _ _ w7 R7)
            rw [HTT.out] at HC7
            have HB7 := hide (hB.out.trans (B7.mono hB.out.size))
            clear SW kk7 R7 hOa hO5 hb5 B5 KZ hcn
            go_wp2_with (refine wpList_load_gd rfl (.tmp 10) rfl (wr.heap.size) rfl K7 ?_)
            refine HC7.out.mono ?_
            rintro r w8 ⟨rfl, hb8⟩
            have HB8 := hide (HB7.out.trans (hb8.mono HB7.out.size))
            clear hb8 HC7 HB7 K7
            go_wp2_with fail
            refine ⟨⟨j + 1, NV + V, by go_num, by go_num, by omega, hide (by rw [HTS.out, hN.out]), HB8⟩, by simp [intOf]; omega⟩
        · have hlt' : ¬ (j : Int) < (ln : Int) := by omega
          have HE : Hid (R = NV) := hide (by rw [← HRR.out, HSUM.out, hN.out, List.take_of_length_le (by rw [HLE.out]; omega)])
          obtain rfl := HE.out
          go_wp2_with fail
          go_ret
          exact ⟨rfl, HB3.out.trans (hB.out.mono HB3.out.size)⟩
    · have hLE : (sps gW gH zs mo).length = 0 := by rw [hs2]; rfl
      have HR1 : Hid (R = 1) := hide (by rw [← HRR.out, oc_none hs1 (by rw [HMO.out]; exact hs2)])
      rw [hLE]
      have hzz : (((0 : Nat) : Int) == 0) = true := by rfl
      obtain rfl := HR1.out
      go_wp2_with fail
      go_ret
      exact ⟨rfl, HB3.out⟩

theorem rc_all (gW gH n : Nat) : ∀ l, l ≤ 6 → RcOk gW gH n l
  | 0, _ => rc_zero gW gH n
  | l + 1, hl => rc_succ gW gH n l (by omega) (rc_all gW gH n l (by omega))

end Go.Proofs.YtkmghlmniahgbaaDoor
