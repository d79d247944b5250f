/-
  The document's own count of rows of drops. No conditions beyond those that each theorem bears.
-/
import Derived.Test.YtaglhmkjdajgpaaDoorFa
import Derived.Test.YtaglhmkjdajgpaaDoorCn
import Derived.Test.YtaglhmkjdajgpaaDoorGMv
import Derived.Test.YtaglhmkjdajgpaaDoorSgm
namespace Go.Proofs.YtaglhmkjdajgpaaDoor
open Go.RowKit

/-- Rows of so many drops, as the document counts them. -/
def rcd (W H k : Nat) : Nat → List Int → Nat
  | 0, _ => 1
  | l + 1, Z => if 0 < wnZ W H k Z then 0 else ((drK W H Z W).map fun x => rcd W H k l (Z.set x.2 (mvO Z : Nat))).sum

theorem rcd_zero (W H k : Nat) (Z : List Int) : rcd W H k 0 Z = 1 := by unfold rcd; rfl
theorem rcd_won {W H k l : Nat} {Z : List Int} (h : 0 < wnZ W H k Z) : rcd W H k (l + 1) Z = 0 := by unfold rcd; rw [if_pos h]
theorem rcd_succ {W H k l : Nat} {Z : List Int} (h : ¬ 0 < wnZ W H k Z) : rcd W H k (l + 1) Z = ((drK W H Z W).map fun x => rcd W H k l (Z.set x.2 (mvO Z : Nat))).sum := by
  conv => lhs; unfold rcd
  rw [if_neg h]

theorem rcd_bd (W H k : Nat) (hW : W ≤ 10) : ∀ (l : Nat) (Z : List Int), rcd W H k l Z ≤ 10 ^ l
  | 0, _ => by rw [rcd_zero]; simp
  | l + 1, Z => by
    by_cases h : 0 < wnZ W H k Z
    · rw [rcd_won h]; exact Nat.zero_le _
    · rw [rcd_succ h]
      refine Nat.le_trans (sum_bd _ (10 ^ l) (fun x => rcd_bd W H k hW l _) _) ?_
      rw [Nat.pow_succ, Nat.mul_comm (10 ^ l) 10]
      exact Nat.mul_le_mul_right _ (Nat.le_trans (drK_len W H Z W) hW)

theorem mvO_12 (Z : List Int) : mvO Z ≤ 2 := by unfold mvO; split; · omega
                                                split <;> omega

/-- A board's numbers. -/
def Zok (n : Nat) (Z : List Int) : Prop := Z.length = n ∧ ∀ i, i < n → 0 ≤ Z.getD i 0 ∧ Z.getD i 0 ≤ 2

theorem Zok.set {n : Nat} {Z : List Int} (h : Zok n Z) (p : Nat) {x : Int} (hx : 0 ≤ x ∧ x ≤ 2) : Zok n (Z.set p x) := by
  refine ⟨by rw [List.length_set]; exact h.1, fun i hi => ?_⟩
  by_cases e : p = i
  · subst e; rw [getD_set_same (by rw [h.1]; exact hi)]; exact hx
  · rw [getD_set_other e]; exact h.2 i hi

theorem won_wnZ {W H n : Nat} {zs : List Int} {k : Nat} (hW : 0 < W) (hk : 1 ≤ k) (hm : W * H = n) (hz : ∀ i, i < n → 0 ≤ zs.getD i 0 ∧ zs.getD i 0 ≤ 2) : wn (wY W H zs k H) = wnZ W H k zs := by
  rw [won_same hW hk hm hz, wnZ, hm]

def CdOk (gW gH k n l : Nat) : Prop := ∀ (a : Option Addr) (c : Nat) (zs : List Int) (w : World), Zok n zs → Rd w a n c zs →
  Calls Tryd.prog 21 #[.agg (gdA gW gH a n c), .int .i64 (k : Nat), .int .i64 (l : Nat)] w fun e w' => e = .returned (.int .i64 (rcd gW gH k l zs : Nat)) ∧ Below w.heap.size w w'

set_option maxHeartbeats 1000000 in
theorem cd_zero (gW gH k n : Nat) : CdOk gW gH k n 0 := by
  intro a c zs w _ _
  rw [rcd_zero]
  go_enter Tryd.func21, Tryd.ntmps21
  go_wp2_with fail
  go_ret
  exact ⟨rfl, (Below.refl _ w).alloc (Nat.le_refl _) _⟩

attribute [local irreducible] drK inR fallN rcd mvO wnZ wn wY mY mkL

set_option maxRecDepth 100000 in
set_option maxHeartbeats 4000000 in
theorem cd_succ (gW gH k n l : Nat) (hgW : 1 ≤ gW ∧ gW ≤ 10) (hgH : 1 ≤ gH ∧ gH ≤ 10) (hm : gW * gH = n) (hk : 1 ≤ k ∧ k ≤ 10) (hl : l ≤ 5) (ih : CdOk gW gH k n l) : CdOk gW gH k n (l + 1) := by
  intro a c zs w hz h
  have hn1 : 0 < n := by
    have : 1 * 1 ≤ gW * gH := Nat.mul_le_mul hgW.1 hgH.1
    omega
  have hnq : n ≤ 100 := by
    have : gW * gH ≤ 10 * 10 := Nat.mul_le_mul hgW.2 hgH.2
    omega
  have hcm := h.max
  unfold maxLen at hcm
  have hcc := h.cap
  have HWO := hide (fun W1 (hR : Rd W1 a n c zs) => WonOf_any gW gH a n c k zs hgW hgH hm hk hz.2 W1 hR)
  have HWN := hide (won_wnZ (k := k) (show 0 < gW by omega) hk.1 hm hz.2)
  have HFA := hide (fun col (hc : col < gW) W1 (hR : Rd W1 a n c zs) => fallTo_any gW gH a n c col zs hgW hgH hm hc W1 hR)
  have HGO := hide (fun W1 (hR : Rd W1 a n c zs) => GridOf_own gW gH a n c zs W1 hR (by omega))
  have HMV := hide (fun W1 (hR : Rd W1 a n c zs) => GridMover_any gW gH a n c zs hnq hz.2 W1 hR)
  have HIH := hide (fun p a' c' W1 hR => ih a' c' (zs.set p (mvO zs : Nat)) W1 (hz.set p (by have := mvO_12 zs; omega)) hR)
  have HBD : Hid (∀ p, rcd gW gH k l (zs.set p (mvO zs : Nat)) ≤ 100000) := hide (fun p => Nat.le_trans (rcd_bd gW gH k hgW.2 l _) (Nat.pow_le_pow_right (by omega) hl))
  have HPN : Hid (∀ {j p : Nat}, j < gW → fallN gW zs j gH = some p → p < n) := hide (fun hj hf => by have := fallN_lt hj _ _ hf; rw [hm] at this; exact this.1)
  have HDL := hide (drK_len gW gH zs)
  have HLN := hide hz.1
  obtain ⟨R, hR⟩ : ∃ R, rcd gW gH k (l + 1) zs = R := ⟨_, rfl⟩
  have HRW : Hid (0 < wnZ gW gH k zs → R = 0) := hide (fun h => by rw [← hR, rcd_won h])
  have HRS : Hid (¬ 0 < wnZ gW gH k zs → R = ((drK gW gH zs gW).map fun x => rcd gW gH k l (zs.set x.2 (mvO zs : Nat))).sum) := hide (fun h => by rw [← hR, rcd_succ h])
  rw [hR]
  obtain ⟨T, hT⟩ : ∃ T : Nat → Nat, (fun p => rcd gW gH k l (zs.set p (mvO zs : Nat))) = T := ⟨_, rfl⟩
  have HT : Hid (∀ p, rcd gW gH k l (zs.set p (mvO zs : Nat)) = T p) := hide (fun p => by rw [← hT])
  have HRS2 : Hid (¬ 0 < wnZ gW gH k zs → R = ((drK gW gH zs gW).map fun x => T x.2).sum) := hide (fun h => by rw [HRS.out h, ← hT])
  have HBD2 : Hid (∀ p, T p ≤ 100000) := hide (fun p => by rw [← HT.out]; exact HBD.out p)
  obtain ⟨WN, hWN⟩ : ∃ WN, wnZ gW gH k zs = WN := ⟨_, rfl⟩
  rw [hWN] at HWN HRW HRS2
  obtain ⟨w1, hw1⟩ : ∃ w1, w.alloc (.cells (gdA gW gH a n c) 24) = w1 := ⟨_, rfl⟩
  have HB1 : Hid (Below w.heap.size w w1) := hide (by rw [← hw1]; exact (Below.refl _ _).alloc (Nat.le_refl _) _)
  have HG1 : Hid (Gd w1 w.heap.size gW gH a n c) := hide (by rw [← hw1]; exact Gd.new _ _ _ _ _ _)
  have hs1 : w1.heap.size = w.heap.size + 1 := by rw [← hw1]; simp
  have HR1 := hide (h.mono HB1.out)
  have HR0 := hide h
  have hl6 : ((l + 1 : Nat) : Int) ≤ 6 := by omega
  have hl0 : (((l + 1 : Nat) : Int) == 0) = false := by simp; omega
  obtain ⟨L1, hL1⟩ : ∃ L1 : Nat, l + 1 = L1 := ⟨_, rfl⟩
  have hL : (L1 : Int) - 1 = (l : Int) := by omega
  rw [hL1] at hl6 hl0 ⊢
  clear hR hT hWN ih h hz hL1 HRS HBD hm
  have G1 := HG1.out
  go_enter Tryd.func21, Tryd.ntmps21
  go_wp2_with (refine wpList_load_gd rfl (.tmp 3) rfl w.heap.size rfl G1 ?_)
  clear hw1 G1
  refine (HWO.out w1 HR1.out).mono ?_
  rintro e w2 ⟨a2, c2, rfl, -, hb2⟩
  rw [HWN.out]
  have HB2 := hide hb2
  clear hb2 HWO HWN
  by_cases hwon : 0 < WN
  · have hw' : (0 : Int) < (WN : Int) := by omega
    have HR2 := hide (HRW.out hwon)
    go_wp2_with fail
    go_ret
    exact ⟨ret_int (by rw [HR2.out]; rfl), HB1.out.trans (HB2.out.mono HB1.out.size)⟩
  have hw' : ¬ (0 : Int) < (WN : Int) := by omega
  have HRF := hide (HRS2.out hwon)
  clear hwon HRS2 HRW
  go_wp2_with fail
  have hwB : decide (0 < WN) = false := decide_eq_false (by omega)
  rw [hwB]
  clear hw' hwB
  go_loopw [9, 10] (fun s v wr => ∃ j : Nat, v = .int .i64 j ∧ j ≤ gW ∧ s = .int .i64 ((((drK gW gH zs j).map fun x => T x.2).sum : Nat) : Int) ∧ Hid (Below w1.heap.size w1 wr)) (fun _ v _ => gW - (intOf v).toNat)
  case atStart => exact ⟨0, rfl, by omega, by rw [drK_zero]; rfl, HB2⟩
  case round =>
    obtain ⟨j, rfl, hj, rfl, hB⟩ := hrel
    have HSB : Hid (((drK gW gH zs j).map fun x => T x.2).sum ≤ 1000000) := hide (by
      have h1 := sum_bd (fun x : Nat × Nat => T x.2) 100000 (fun x => HBD2.out x.2) (drK gW gH zs j)
      have h2 := HDL.out j
      have h3 : (drK gW gH zs j).length * 100000 ≤ 10 * 100000 := Nat.mul_le_mul_right _ (by omega)
      omega)
    have Gr := hide (HG1.out.below hB.out (by omega))
    have Rr := hide (HR1.out.mono hB.out)
    have hsr := hB.out.size
    obtain ⟨g0, g1, g2⟩ := Gr.out.cells
    by_cases hlt : j < gW
    · have hlt' : (j : Int) < (gW : Int) := by omega
      have HC := hide (HFA.out j hlt wr Rr.out)
      cases hf : fallN gW zs j gH with
      | none =>
        rw [hf] at HC
        have HK := hide (drK_none hf)
        clear hf
        have Gr' := Gr.out
        obtain ⟨SV, hSV⟩ : ∃ SV, ((drK gW gH zs j).map fun x => T x.2).sum = SV := ⟨_, rfl⟩
        have HSV := hide hSV
        rw [hSV]
        clear hSV
        go_wp2_with (refine wpList_load_gd rfl (.tmp 3) rfl w.heap.size rfl Gr' ?_)
        refine HC.out.mono ?_
        rintro e w3 ⟨rfl, hb3⟩
        rw [show fallI none = -1 from rfl]
        have HB3 := hide (hB.out.trans (hb3.mono hsr))
        clear hb3 HC Gr' g0 g1 g2
        go_wp2_with fail
        exact ⟨⟨j + 1, by go_num, by omega, by rw [HK.out, HSV.out], HB3⟩, by simp [intOf]; omega⟩
      | some p =>
        rw [hf] at HC
        have HK := hide (drK_some hf)
        have hpn := HPN.out hlt hf
        clear hf
        have Gr' := Gr.out
        obtain ⟨SV, hSV⟩ : ∃ SV, ((drK gW gH zs j).map fun x => T x.2).sum = SV := ⟨_, rfl⟩
        have HSV := hide hSV
        have hSVb := HSB.out
        rw [hSV] at hSVb ⊢
        clear hSV HSB
        have hTp := HBD2.out p
        go_wp2_with (refine wpList_load_gd rfl (.tmp 3) rfl w.heap.size rfl Gr' ?_)
        refine HC.out.mono ?_
        rintro e w2 ⟨rfl, hb3⟩
        rw [show fallI (some p) = (p : Int) from rfl]
        have HB3 := hide (hB.out.trans (hb3.mono hsr))
        have G3 := Gr.out.below hb3 Gr.out.lt
        have R3 := Rr.out.mono hb3
        have HG3 := hide G3
        have HR3 := hide R3
        clear hb3 HC Gr' g0 g1 g2 Rr Gr hB
        go_wp2_with (refine wpList_load_gd rfl (.tmp 3) rfl w.heap.size rfl G3 ?_)
        refine (HGO.out w2 R3).mono ?_
        rintro e w3 ⟨a', c', rfl, hO, hb4⟩
        clear G3 R3
        have h2s := HB3.out.size
        have HB4 := hide (HB3.out.trans (hb4.mono h2s))
        have HG4 := hide (HG3.out.below hb4 HG3.out.lt)
        have HR4 := hide (HR3.out.mono hb4)
        have h3s := hb4.size
        obtain ⟨ab, rfl, hab, habl⟩ : ∃ ab, a' = some ⟨ab, 0, none⟩ ∧ w2.heap.size ≤ ab ∧ ab < w3.heap.size := by
          rcases hO.2 with ⟨e, e2⟩ | ⟨b, cap, cur, e, hb, h2, _⟩
          · omega
          · simp only [Value.slice.injEq] at e
            exact ⟨b, e.1, hb, (Array.getElem?_eq_some_iff.1 h2).1⟩
        have HO := hide hO
        have hcc' : n ≤ c' ∧ c' ≤ maxLen := by have := Rd.of_own hO; exact ⟨this.cap, this.max⟩
        unfold maxLen at hcc'
        clear hO hb4 HG3 HR3
        have K22 := Gd.new w3 0 0 none 0 0
        go_wp2_with (refine wpList_store_gd rfl (.tmp 12) (.tmp 35) rfl w3.heap.size rfl rfl K22 ?_)
        intro w5 k5 kk5
        have hgs : w.heap.size < w2.heap.size := by omega
        have X5 := hide k5
        have KA : Keeps (fun k => k = w3.heap.size) w3 w5 := ((Keeps.refl _ w3).alloc _).trans kk5
        have G5 := hide (HG4.out.keeps KA (by omega))
        have O5 := hide (own_blk HO.out (w' := w5) (fun b e => by simp only [Value.ownBlock, Option.some.injEq] at e; rw [← e]; exact KA.block _ habl (by omega)))
        have HB5 : Hid (Below w1.heap.size w1 w5) := hide (HB4.out.trans ((KA.mono (Y := fun k => w3.heap.size ≤ k) (fun k _ e => by omega)).below (B := w1.heap.size) (by omega) (fun k hk e => by omega)))
        have HR5 : Hid (Rd w5 a n c zs) := hide (HR1.out.mono HB5.out)
        have h5s := KA.size
        clear k5 kk5 KA K22 HG4 HO HR4 HB4
        go_upto_region 13 with fail
        have SFx : Hid (∀ W4, Below w5.heap.size w5 W4 → Gd W4 w3.heap.size gW gH (some ⟨ab, 0, none⟩) n c' ∧ Gd W4 w.heap.size gW gH a n c) := hide (fun W4 hb => ⟨X5.out.below hb X5.out.lt, G5.out.below hb G5.out.lt⟩)
        refine wp_region_held (S := fun W4 => Gd W4 w3.heap.size gW gH (some ⟨ab, 0, none⟩) n c' ∧ Gd W4 w.heap.size gW gH a n c) (by kernel_rfl) ?_
        change wpAnyH _ _ _ _ _ _ _ _ (World.drew _)
        have SW := SFx.out w5.drew (Below.refl _ w5).drew
        refine wpAnyH_take (i := 0) (v := .pointer (some ⟨w3.heap.size, 2, none⟩)) rfl (by kernel_rfl) (by kernel_rfl) (by kernel_rfl) (fun _ _ _ h => h) (Or.inl ⟨by rfl, ?_⟩) SW ?_
        · intro W4 hW4
          go_simp <;> first | done | rfl | (rw [IntKind.wrap_i64]; omega) | omega
        go_simp
        refine wpAnyH_take (i := 1) (v := .slice (some ⟨ab, 0, none⟩) n c') rfl (by kernel_rfl) (by kernel_rfl) (by kernel_rfl) (fun _ _ _ h => h) (Or.inl ⟨by rfl, ?_⟩) SW ?_
        · intro W4 hW4
          obtain ⟨-, -, x2⟩ := hW4.1.cells
          go_simp <;> first | done | rfl | (rw [IntKind.wrap_i64]; omega) | omega
        go_simp
        refine wpAnyH_take (i := 2) (v := .int .i64 p) rfl (by kernel_rfl) (by kernel_rfl) (by kernel_rfl) (fun _ _ _ h => h) (Or.inl ⟨by rfl, ?_⟩) SW ?_
        · intro W4 hW4
          go_simp <;> first | done | rfl | (rw [IntKind.wrap_i64]; omega) | omega
        go_simp
        refine wpAnyH_take (i := 3) (v := .agg (gdA gW gH a n c)) rfl (by kernel_rfl) (by kernel_rfl) (by kernel_rfl) (fun _ _ _ h => h) (yieldsIf_load_mid (by rfl) 24 _ rfl w.heap.size 0 (by rfl) [.int .i64 gW, .int .i64 gH, .slice a n c] _ (fun W hW => hW.2.range) Tryd.underlying24 rfl size24) SW ?_
        go_simp
        refine wpAnyH_ready (rs := [4]) (by kernel_rfl) (by simp) ?_
        refine AllReadyH.cons rfl (fun K1 hK1 => ?_) AllReadyH.nil
        go_simp
        refine (HMV.out _ (HR5.out.mono (Below.refl _ w5).drew)).mono ?_
        rintro e w6 ⟨rfl, hb6⟩
        have B6 : Below w5.heap.size w5 w6 := (Below.refl _ _).drew.trans hb6
        refine hK1.out _ _ (SFx.out w6 B6) (fun SW => ?_)
        clear hK1 K1 hb6
        go_simp
        refine wpAnyH_take (i := 5) (v := .pointer (some ⟨ab, p, none⟩)) rfl (by kernel_rfl) (by kernel_rfl) (by kernel_rfl) (fun _ _ _ h => h) (Or.inl ⟨by rfl, ?_⟩) SW ?_
        · intro W4 hW4
          go_simp <;> first | done | rfl | (rw [IntKind.wrap_i64]; omega) | omega
        go_simp
        have O6 := own_blk O5.out (w' := w6) (fun b e => by simp only [Value.ownBlock, Option.some.injEq] at e; rw [← e]; exact B6.block _ (by omega))
        have c6 : w6.cell? ⟨ab, p, none⟩ = some (.int .i64 (zs.getD p 0)) := by have := ((Rd.of_own O6).cell hpn).2; rwa [Nat.zero_add] at this
        have f6 := World.ownsRow.frozenAt O6 p
        have O7 := (World.ownsRow.stored O6 p (.int .i64 (mvO zs : Nat))).1
        have K7 := Keeps.set1 w6 ab p (.int .i64 (mvO zs : Nat))
        refine wpAnyH_ready (rs := [6]) (by kernel_rfl) (by simp) ?_
        refine AllReadyH.cons rfl (fun K1 hK1 => ?_) AllReadyH.nil
        go_simp
        refine hK1.out _ _ ⟨SW.1.keeps K7 (by omega), SW.2.keeps K7 (by omega)⟩ (fun SW => ?_)
        clear hK1 K1
        go_simp
        refine wpAnyH_done (by kernel_rfl) ?_ _
        have HX7 := SW.1
        have HG7 := hide SW.2
        have HB6 := hide (HB5.out.trans (B6.mono (by omega)))
        have HB7 : Hid (Below w1.heap.size w1 (w6.setCell ⟨ab, p, none⟩ (.int .i64 (mvO zs : Nat)))) := hide (HB6.out.trans ((K7.mono (Y := fun q => w2.heap.size ≤ q) (fun q _ e => by omega)).below (B := w1.heap.size) (by have := HB6.out.size; omega) (fun q hq e => by omega)))
        have R7 : Rd (w6.setCell ⟨ab, p, none⟩ (.int .i64 (mvO zs : Nat))) (some ⟨ab, 0, none⟩) n c' (zs.set p (mvO zs : Nat)) := Rd.of_own (by rw [List.map_set]; exact own_base O7 (Nat.zero_le _))
        have HC7 := hide (HIH.out p _ _ _ R7)
        rw [HT.out p] at HC7
        obtain ⟨w7, hw7⟩ : ∃ w7, w6.setCell ⟨ab, p, none⟩ (.int .i64 (mvO zs : Nat)) = w7 := ⟨_, rfl⟩
        rw [hw7] at HX7 HG7 HB7 HC7 ⊢
        clear hw7 O7 K7 R7 SW O6 c6 f6 B6
        go_wp2_with (refine wpList_load_gd rfl (.tmp 12) rfl w3.heap.size rfl HX7 ?_)
        refine HC7.out.mono ?_
        rintro e w8 ⟨rfl, hb8⟩
        have HB8 := hide (HB7.out.trans (hb8.mono HB7.out.size))
        have HSM : Hid (((drK gW gH zs (j + 1)).map fun x => T x.2).sum = SV + T p) := hide (by rw [HK.out, List.map_append, List.sum_append, HSV.out]; simp)
        obtain ⟨TP, hTP⟩ : ∃ TP, T p = TP := ⟨_, rfl⟩
        rw [hTP] at hTp HSM ⊢
        clear hb8 HX7 HC7 hTP
        go_wp2_with fail
        exact ⟨⟨j + 1, by go_num, by omega, by rw [HSM.out]; rfl, HB8⟩, by simp [intOf]; omega⟩
    · have hlt' : ¬ (j : Int) < (gW : Int) := by omega
      have hje : j = gW := by omega
      subst hje
      obtain ⟨SV, hSV⟩ : ∃ SV, ((drK j gH zs j).map fun x => T x.2).sum = SV := ⟨_, rfl⟩
      rw [hSV] at HRF ⊢
      clear hSV
      go_wp2_with fail
      go_ret
      exact ⟨ret_int (by rw [HRF.out]), HB1.out.trans (hB.out.mono HB1.out.size)⟩

theorem cd_all (gW gH k n : Nat) (hgW : 1 ≤ gW ∧ gW ≤ 10) (hgH : 1 ≤ gH ∧ gH ≤ 10) (hm : gW * gH = n) (hk : 1 ≤ k ∧ k ≤ 10) : ∀ l, l ≤ 6 → CdOk gW gH k n l
  | 0, _ => cd_zero gW gH k n
  | l + 1, h => cd_succ gW gH k n l hgW hgH hm hk (by omega) (cd_all gW gH k n hgW hgH hm hk l (by omega))

end Go.Proofs.YtaglhmkjdajgpaaDoor
