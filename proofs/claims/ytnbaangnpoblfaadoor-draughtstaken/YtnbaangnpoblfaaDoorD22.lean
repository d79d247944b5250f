/-
  DraughtsDo: a way on a board's numbers, as the document says it, walked. No conditions beyond those that each theorem bears.
-/
import Derived.Test.YtnbaangnpoblfaaDoorDd
import Derived.Test.YtnbaangnpoblfaaDoorRf
namespace Go.Proofs.YtnbaangnpoblfaaDoor
open Go.RowKit Go.Shelf

def doS (W : List Nat) (Y : List Int) (i : Nat) : List Int :=
  if (dkX (W.getD (i - 1) 0) + dkX (W.getD i 0)) % 2 = 0 ∧ (dkY (W.getD (i - 1) 0) + dkY (W.getD i 0)) % 2 = 0 then
    Y.set (dkAt (((dkX (W.getD (i - 1) 0) + dkX (W.getD i 0)) / 2 : Nat) : Int) (((dkY (W.getD (i - 1) 0) + dkY (W.getD i 0)) / 2 : Nat) : Int)) 0 else Y
/-- The board behind the first k legs. -/
def doT (Z : List Int) (W : List Nat) : Nat → List Int
  | 0 => Z.set (W.getD 0 0) 0
  | k + 1 => doS W (doT Z W k) (k + 1)
def cwn (x : Int) (l : Nat) : Int := if x = 1 ∧ l ≤ 4 then 2 else if x = -1 ∧ 29 ≤ l then -2 else x
def doR (Z : List Int) (W : List Nat) : List Int := (doT Z W (W.length - 1)).set (W.getD (W.length - 1) 0) (cwn (Z.getD (W.getD 0 0) 0) (W.getD (W.length - 1) 0))
theorem dkAt_lt (x y : Nat) : dkAt (x : Int) (y : Int) ≤ 32 := by
  unfold dkAt
  split
  · omega
  · omega

attribute [local irreducible] doS doT dkX dkY dkAt cwn toI

set_option maxRecDepth 100000 in
set_option maxHeartbeats 8000000 in
theorem DraughtsDo_any (t : Nat) (a : Option Addr) (c : Nat) (Z : List Int) (xa : Option Addr) (xc : Nat) (W : List Nat) (w : World) (h : Rd w a 33 c Z) (hX : Rd w xa W.length xc (toI W)) (h2 : 2 ≤ W.length) (h13 : W.length ≤ 13) (hW : ∀ p ∈ W, 1 ≤ p ∧ p ≤ 32) (ht : t = 1 ∨ t = 2) :
    Calls Tryd.prog 22 #[.agg (dgA a 33 c (t : Nat)), .slice xa W.length xc] w fun e w' => ∃ a' c', e = .returned (.agg (dgA a' 33 c' ((3 - t : Nat)))) ∧ Rd w' a' 33 c' (doR Z W) ∧ Below w.heap.size w w' := by
  have HRG : Hid (∀ i, i < W.length → 1 ≤ W.getD i 0 ∧ W.getD i 0 ≤ 32) := hide (fun i hi => hW _ (by simp [List.getD, hi]))
  have HTI : Hid (∀ i, i < W.length → (toI W).getD i 0 = ((W.getD i 0 : Nat) : Int)) := hide (fun i hi => by unfold toI; simp [List.getD, hi])
  have HT0 : Hid (Z.set (W.getD 0 0) 0 = doT Z W 0) := hide (by unfold doT; rfl)
  have HTS : Hid (∀ k, doT Z W (k + 1) = doS W (doT Z W k) (k + 1)) := hide (fun k => by rw [doT])
  have HDR : Hid (doR Z W = (doT Z W (W.length - 1)).set (W.getD (W.length - 1) 0) (cwn (Z.getD (W.getD 0 0) 0) (W.getD (W.length - 1) 0))) := hide rfl
  obtain ⟨w1, hw1⟩ : ∃ w1, (w.alloc (.cells (dgA a 33 c (t : Nat)) 24)).alloc (.cells #[.slice none 0 0, .int .i64 0] 24) = w1 := ⟨_, rfl⟩
  have HB1 : Hid (Below w.heap.size w w1) := hide (by rw [← hw1]; exact ((Below.refl _ _).alloc (Nat.le_refl _) _).alloc (by simp) _)
  have G1 : Dg w1 w.heap.size a 33 c (t : Nat) := by rw [← hw1]; exact (Dg.new _ _ _ _ _).old _
  have Z1 : Dg w1 (w.heap.size + 1) none 0 0 0 := by
    rw [← hw1]
    have := Dg.new (w.alloc (.cells (dgA a 33 c (t : Nat)) 24)) none 0 0 0
    rw [World.size_alloc] at this
    exact this
  have HOF := hide (DraughtsOf_own (t : Nat) a 33 c Z w1 (h.mono HB1.out) (by omega))
  have HR1 := hide (h.mono HB1.out)
  obtain ⟨bx, ox, rfl, hcx⟩ := hX.cells (by omega)
  obtain ⟨bz, oz, rfl, hcz⟩ := h.cells (by omega)
  have HCX : Hid (∀ i, i < W.length → w.cell? ⟨bx, ox + i, none⟩ = some (.int .i64 ((W.getD i 0 : Nat) : Int))) := hide (fun i hi => by rw [hcx i hi, HTI.out i hi])
  have HCZ := hide hcz
  have HG1 := hide G1
  have HZ1 := hide Z1
  have hcm := hX.max
  have hcc := hX.cap
  unfold maxLen at hcm
  have hzm := h.max
  have hzc := h.cap
  unfold maxLen at hzm
  have HXM : Hid (bx < w.heap.size ∧ bz < w.heap.size) := hide ⟨World.block_lt_of_cell? w _ (hcx 0 (by omega)), World.block_lt_of_cell? w _ (hcz 0 (by omega))⟩
  clear h hX hcx hcz hW Z1
  obtain ⟨m, hm⟩ : ∃ m, W.length = m := ⟨_, rfl⟩
  rw [hm] at HRG HCX HDR h2 h13 hcc ⊢
  clear hm HTI
  go_enter Tryd.func22, Tryd.ntmps22
  go_upto_region 1 with fail
  clear hw1
  go_wp2_with (refine wpList_load_dg rfl (.tmp 2) rfl w.heap.size rfl G1 ?_)
  refine HOF.out.mono ?_
  rintro e w2 ⟨a2, c2, rfl, hO2, hb2⟩
  obtain ⟨cb, ea2⟩ : ∃ cb, a2 = some ⟨cb, 0, none⟩ := by
    rcases hO2.2 with ⟨hv, hv2⟩ | ⟨g, cap, cur, hv, _⟩
    · simp only [Value.slice.injEq] at hv; exact absurd hv.2.1 (by decide)
    · simp only [Value.slice.injEq] at hv; exact ⟨g, hv.1⟩
  subst ea2
  have hcb := hO2.lt cb rfl
  obtain ⟨w2a, hw2a⟩ : ∃ w2a, w2.alloc (.cells #[.slice none 0 0, .int .i64 0] 24) = w2a := ⟨_, rfl⟩
  have B2a : Below w2.heap.size w2 w2a := by rw [← hw2a]; exact (Below.refl _ _).alloc (Nat.le_refl _) _
  have K2a : Dg w2a w2.heap.size none 0 0 0 := by rw [← hw2a]; exact Dg.new _ _ _ _ _
  have HB2a := hide B2a
  have HO2 := hide hO2
  have HB2 := hide hb2
  clear hO2 hb2 B2a G1 HOF
  go_upto_region 2 with (refine wpList_store_dg rfl (.tmp 5) (.tmp 12) rfl w2.heap.size rfl rfl K2a ?_; intro w3 G3 kk3)
  clear hw2a K2a
  have B23 : Below w2.heap.size w2 w3 := HB2a.out.trans (kk3.below HB2a.out.size (fun k hk e => by omega))
  have HO3 : Hid (w3.ownsRow cb 3 1 (.slice (some ⟨cb, 0, none⟩) 33 c2) 33 (Z.map (Value.int .i64))) := hide (by
    have := HO2.out.kept (row := none) ⟨B23.os, B23.tape, B23.output, B23.size, fun i hi _ => B23.block i hi⟩ (Or.inr (by simp [Value.ownBlock]))
    refine ⟨this.1, ?_⟩
    rcases this.2 with h2 | ⟨g, cap, cur, h1, h2, h3⟩
    · exact Or.inl h2
    · refine Or.inr ⟨g, cap, cur, h1, ?_, h3⟩
      simp only [Value.slice.injEq, Option.some.injEq, Addr.mk.injEq, and_true] at h1
      omega)
  have HP0 : Hid (PW w3 cb cb 33 c2 w3 Z) := hide ⟨Keeps.refl _ _, HO3.out⟩
  have hc33 : 33 ≤ c2 ∧ c2 ≤ 9223372036854775807 := by
    have hR := Rd.of_own HO3.out
    have k1 := hR.cap
    have k2 := hR.max
    unfold maxLen at k2
    omega
  obtain ⟨ob, hob⟩ : ∃ ob, w2.heap.size = ob := ⟨_, rfl⟩
  have HB13 : Hid (Below w1.heap.size w1 w3) := hide (HB2.out.trans (B23.mono HB2.out.size))
  have HB3 : Hid (Below w.heap.size w w3) := hide (HB1.out.trans (HB13.out.mono HB1.out.size))
  have HGB := hide (HG1.out.below HB13.out HG1.out.lt)
  have HZ3 := hide (HZ1.out.below HB13.out HZ1.out.lt)
  have HLT : Hid (w.heap.size + 1 < w1.heap.size ∧ w1.heap.size ≤ cb ∧ cb < w2.heap.size) := hide ⟨HZ1.out.lt, hcb.1, hcb.2⟩
  have HG3 := hide G3
  rw [hob] at HG3 HLT ⊢
  have HFX : Hid (∀ W4, Keeps (fun q => q = cb) w3 W4 → (∀ i, i < m → W4.cell? ⟨bx, ox + i, none⟩ = some (.int .i64 ((W.getD i 0 : Nat) : Int))) ∧ W4.cell? ⟨w.heap.size, 0, none⟩ = some (.slice (some ⟨bz, oz, none⟩) 33 c) ∧ W4.cell? ⟨ob, 0, none⟩ = some (.slice (some ⟨cb, 0, none⟩) 33 c2) ∧ ∀ i, i < 33 → W4.cell? ⟨bz, oz + i, none⟩ = some (.int .i64 (Z.getD i 0))) := hide (fun W4 h4 => by
    have z1 := HLT.out
    have z2 := HXM.out
    exact ⟨fun i hi => h4.cell ((HB3.out.cell (p := ⟨bx, ox + i, none⟩) z2.1).trans (HCX.out i hi)) (by show ¬ bx = cb; omega), (HGB.out.keeps h4 (by show ¬ w.heap.size = cb; omega)).cells.1, (HG3.out.keeps h4 (by show ¬ ob = cb; omega)).cells.1, fun i hi => h4.cell ((HB3.out.cell (p := ⟨bz, oz + i, none⟩) z2.2).trans (HCZ.out i hi)) (by show ¬ bz = cb; omega)⟩)
  clear HB1 HB2a HO2 HB2 B23 kk3 G3 hcb hob HO3 HCX HCZ HG1 HZ1
  obtain ⟨W0, hW0⟩ : ∃ W0, W.getD 0 0 = W0 := ⟨_, rfl⟩
  have HW0 := hide hW0
  have hr0 := HRG.out 0 (by omega)
  rw [hW0] at HT0 HDR hr0
  obtain ⟨pc, hpc⟩ : ∃ pc, Z.getD W0 0 = pc := ⟨_, rfl⟩
  have HPC := hide hpc
  rw [hpc] at HDR
  have HF0 : Hid (∀ W4, Keeps (fun q => q = cb) w3 W4 → W4.cell? ⟨bx, ox, none⟩ = some (.int .i64 (W0 : Nat)) ∧ W4.cell? ⟨bz, oz + W0, none⟩ = some (.int .i64 pc)) := hide (fun W4 h4 => by
    have k1 := (HFX.out W4 h4).1 0 (by omega)
    rw [HW0.out, Nat.add_zero] at k1
    have k2 := (HFX.out W4 h4).2.2.2 W0 (by omega)
    rw [HPC.out] at k2
    exact ⟨k1, k2⟩)
  have hm0 : (0 : Int) < (m : Int) := by omega
  have hw33 : (W0 : Int) < 33 := by omega
  clear hW0 hpc
  have HP := HP0
  refine wp_region_held (S := fun W4 => Keeps (fun q => q = cb) w3 W4) (by kernel_rfl) ?_
  change wpAnyH _ _ _ _ _ _ _ _ (World.drew _)
  have SW : Keeps (fun q => q = cb) w3 w3.drew := HP.out.k.drew
  have HPD := hide HP.out.drew
  generalize w3.drew = wd at *
  refine wpAnyH_take (i := 0) (v := .pointer (some ⟨w.heap.size, 0, none⟩)) rfl (by kernel_rfl) (by kernel_rfl) (by kernel_rfl) (fun _ _ _ h => h) (Or.inl ⟨by rfl, ?_⟩) SW ?_
  · intro W4 hW4
    go_simp <;> first | done | rfl | (rw [IntKind.wrap_i64]; omega) | omega
  go_simp
  refine wpAnyH_take (i := 1) (v := .slice (some ⟨bz, oz, none⟩) 33 c) rfl (by kernel_rfl) (by kernel_rfl) (by kernel_rfl) (fun _ _ _ h => h) (Or.inl ⟨by rfl, ?_⟩) SW ?_
  · intro W4 hW4
    have x0 := (HFX.out W4 hW4).2.1
    go_simp <;> first | done | rfl | (rw [IntKind.wrap_i64]; omega) | omega
  go_simp
  refine wpAnyH_take (i := 2) (v := .slice (some ⟨bx, ox, none⟩) m xc) rfl (by kernel_rfl) (by kernel_rfl) (by kernel_rfl) (fun _ _ _ h => h) (Or.inl ⟨by rfl, ?_⟩) SW ?_
  · intro W4 hW4
    go_simp <;> first | done | rfl | (rw [IntKind.wrap_i64]; omega) | omega
  go_simp
  refine wpAnyH_take (i := 3) (v := .pointer (some ⟨bx, ox, none⟩)) rfl (by kernel_rfl) (by kernel_rfl) (by kernel_rfl) (fun _ _ _ h => h) (Or.inl ⟨by rfl, ?_⟩) SW ?_
  · intro W4 hW4
    go_simp <;> first | done | rfl | (rw [IntKind.wrap_i64]; omega) | omega
  go_simp
  refine wpAnyH_take (i := 4) (v := .int .i64 (W0 : Nat)) rfl (by kernel_rfl) (by kernel_rfl) (by kernel_rfl) (fun _ _ _ h => h) (Or.inl ⟨by rfl, ?_⟩) SW ?_
  · intro W4 hW4
    have x0 := (HF0.out W4 hW4).1
    go_simp <;> first | done | rfl | (rw [IntKind.wrap_i64]; omega) | omega
  go_simp
  refine wpAnyH_take (i := 5) (v := .pointer (some ⟨bz, oz + W0, none⟩)) rfl (by kernel_rfl) (by kernel_rfl) (by kernel_rfl) (fun _ _ _ h => h) (Or.inl ⟨by rfl, ?_⟩) SW ?_
  · intro W4 hW4
    go_simp <;> first | done | rfl | (rw [IntKind.wrap_i64]; omega) | omega
  go_simp
  refine wpAnyH_take (i := 6) (v := .int .i64 pc) rfl (by kernel_rfl) (by kernel_rfl) (by kernel_rfl) (fun _ _ _ h => h) (Or.inl ⟨by rfl, ?_⟩) SW ?_
  · intro W4 hW4
    have x0 := (HF0.out W4 hW4).2
    go_simp <;> first | done | rfl | (rw [IntKind.wrap_i64]; omega) | omega
  go_simp
  refine wpAnyH_ready (rs := [7]) (by kernel_rfl) (by simp) ?_
  refine AllReadyH.cons rfl (fun K1 hK1 => ?_) AllReadyH.nil
  go_simp
  refine hK1.out _ _ SW (fun SW => ?_)
  clear hK1 K1
  go_simp
  refine wpAnyH_done (by kernel_rfl) ?_ _
  have HP1 := HPD
  clear SW HP HPD HP0
  go_wp2_with fail
  refine wp_region_held (S := fun W4 => Keeps (fun q => q = cb) w3 W4) (by kernel_rfl) ?_
  change wpAnyH _ _ _ _ _ _ _ _ (World.drew _)
  have SW : Keeps (fun q => q = cb) w3 wd.drew := HP1.out.k.drew
  have HP2 := hide HP1.out.drew
  generalize wd.drew = wd2 at *
  refine wpAnyH_take (i := 0) (v := .pointer (some ⟨ob, 0, none⟩)) rfl (by kernel_rfl) (by kernel_rfl) (by kernel_rfl) (fun _ _ _ h => h) (Or.inl ⟨by rfl, ?_⟩) SW ?_
  · intro W4 hW4
    go_simp <;> first | done | rfl | (rw [IntKind.wrap_i64]; omega) | omega
  go_simp
  refine wpAnyH_take (i := 1) (v := .slice (some ⟨cb, 0, none⟩) 33 c2) rfl (by kernel_rfl) (by kernel_rfl) (by kernel_rfl) (fun _ _ _ h => h) (Or.inl ⟨by rfl, ?_⟩) SW ?_
  · intro W4 hW4
    have x0 := (HFX.out W4 hW4).2.2.1
    go_simp <;> first | done | rfl | (rw [IntKind.wrap_i64]; omega) | omega
  go_simp
  refine wpAnyH_take (i := 2) (v := .slice (some ⟨bx, ox, none⟩) m xc) rfl (by kernel_rfl) (by kernel_rfl) (by kernel_rfl) (fun _ _ _ h => h) (Or.inl ⟨by rfl, ?_⟩) SW ?_
  · intro W4 hW4
    go_simp <;> first | done | rfl | (rw [IntKind.wrap_i64]; omega) | omega
  go_simp
  refine wpAnyH_take (i := 3) (v := .pointer (some ⟨bx, ox, none⟩)) rfl (by kernel_rfl) (by kernel_rfl) (by kernel_rfl) (fun _ _ _ h => h) (Or.inl ⟨by rfl, ?_⟩) SW ?_
  · intro W4 hW4
    go_simp <;> first | done | rfl | (rw [IntKind.wrap_i64]; omega) | omega
  go_simp
  refine wpAnyH_take (i := 4) (v := .int .i64 (W0 : Nat)) rfl (by kernel_rfl) (by kernel_rfl) (by kernel_rfl) (fun _ _ _ h => h) (Or.inl ⟨by rfl, ?_⟩) SW ?_
  · intro W4 hW4
    have x0 := (HF0.out W4 hW4).1
    go_simp <;> first | done | rfl | (rw [IntKind.wrap_i64]; omega) | omega
  go_simp
  refine wpAnyH_take (i := 5) (v := .pointer (some ⟨cb, W0, none⟩)) rfl (by kernel_rfl) (by kernel_rfl) (by kernel_rfl) (fun _ _ _ h => h) (Or.inl ⟨by rfl, ?_⟩) SW ?_
  · intro W4 hW4
    go_simp <;> first | done | rfl | (rw [IntKind.wrap_i64]; omega) | omega
  go_simp
  obtain ⟨⟨v1, c1⟩, f1⟩ := HP2.out.cell (show W0 < 33 by omega)
  have HS := hide (HP2.out.set W0 (0))
  refine wpAnyH_ready (rs := [6]) (by kernel_rfl) (by simp) ?_
  refine AllReadyH.cons rfl (fun K1 hK1 => ?_) AllReadyH.nil
  go_simp
  refine hK1.out _ _ HS.out.k (fun SW => ?_)
  clear hK1 K1 c1 f1
  generalize wd2.setCell ⟨cb, W0, none⟩ (.int .i64 (0)) = we at *
  go_simp
  refine wpAnyH_done (by kernel_rfl) ?_ _
  rw [HT0.out] at HS
  clear SW HP1 HP2
  go_wp2_with fail
  go_loopw [7] (fun v wr => ∃ k : Nat, v = .int .i64 ((k : Int) + 1) ∧ k + 1 ≤ m ∧ Hid (PW w3 cb cb 33 c2 wr (doT Z W k))) (fun v _ => m - (intOf v).toNat)
  case atStart => exact ⟨0, rfl, by omega, HS⟩
  case round =>
    obtain ⟨k, rfl, hk, HP⟩ := hrel
    by_cases hk2 : k + 1 < m
    · have HDS := hide (HTS.out k)
      obtain ⟨K1', hK⟩ : ∃ K1', k + 1 = K1' := ⟨_, rfl⟩
      have hk1 : (k : Int) + 1 = ((K1' : Nat) : Int) := by omega
      have ek : ((K1' : Nat) : Int) - 1 = ((k : Nat) : Int) := by omega
      have hKm : (K1' : Int) < (m : Int) := by omega
      have hkm : (k : Int) < (m : Int) := by omega
      obtain ⟨p, hp⟩ : ∃ p, W.getD k 0 = p := ⟨_, rfl⟩
      obtain ⟨q, hq⟩ : ∃ q, W.getD K1' 0 = q := ⟨_, rfl⟩
      have rp := HRG.out k (by omega)
      have rq := HRG.out K1' (by omega)
      rw [hp] at rp
      rw [hq] at rq
      have HFC : Hid (∀ W4, Keeps (fun q => q = cb) w3 W4 → W4.cell? ⟨bx, ox + k, none⟩ = some (.int .i64 (p : Nat)) ∧ W4.cell? ⟨bx, ox + K1', none⟩ = some (.int .i64 (q : Nat))) := hide (fun W4 h4 => by
        have k1 := (HFX.out W4 h4).1 k (by omega)
        have k2 := (HFX.out W4 h4).1 K1' (by omega)
        rw [hp] at k1
        rw [hq] at k2
        exact ⟨k1, k2⟩)
      have HSE : Hid (doS W (doT Z W k) (k + 1) = if (dkX p + dkX q) % 2 = 0 ∧ (dkY p + dkY q) % 2 = 0 then (doT Z W k).set (dkAt (((dkX p + dkX q) / 2 : Nat) : Int) (((dkY p + dkY q) / 2 : Nat) : Int)) 0 else doT Z W k) := hide (by
        unfold doS
        rw [hK, show K1' - 1 = k by omega, hp, hq])
      rw [HSE.out] at HDS
      have HXP := hide (fun W' => darkX_any p rp.1 rp.2 W')
      have HXQ := hide (fun W' => darkX_any q rq.1 rq.2 W')
      have HYP := hide (fun W' => darkY_any p rp.1 rp.2 W')
      have HYQ := hide (fun W' => darkY_any q rq.1 rq.2 W')
      have r1 := dk_rng p (by omega)
      have r2 := dk_rng q (by omega)
      obtain ⟨xx, hxx⟩ : ∃ xx, dkX p + dkX q = xx := ⟨_, rfl⟩
      obtain ⟨yy, hyy⟩ : ∃ yy, dkY p + dkY q = yy := ⟨_, rfl⟩
      have ex : ((dkX p : Nat) : Int) + ((dkX q : Nat) : Int) = ((xx : Nat) : Int) := by omega
      have ey : ((dkY p : Nat) : Int) + ((dkY q : Nat) : Int) = ((yy : Nat) : Int) := by omega
      have hx14 : xx ≤ 14 := by omega
      have hy14 : yy ≤ 14 := by omega
      rw [hxx, hyy] at HDS
      generalize dkX p = x1 at *
      generalize dkX q = x2 at *
      generalize dkY p = y1 at *
      generalize dkY q = y2 at *
      have HKK := hide hK
      clear hK hp hq HSE hxx hyy rp rq
      rw [hk1]
      clear hk1
      go_upto_region 7 with fail
      refine wp_region_held (S := fun W4 => Keeps (fun q => q = cb) w3 W4) (by kernel_rfl) ?_
      change wpAnyH _ _ _ _ _ _ _ _ (World.drew _)
      have SW : Keeps (fun q => q = cb) w3 wr.drew := HP.out.k.drew
      have HP3 := hide HP.out.drew
      generalize wr.drew = wd3 at *
      refine wpAnyH_take (i := 0) (v := .slice (some ⟨bx, ox, none⟩) m xc) rfl (by kernel_rfl) (by kernel_rfl) (by kernel_rfl) (fun _ _ _ h => h) (Or.inl ⟨by rfl, ?_⟩) SW ?_
      · intro W4 hW4
        go_simp <;> first | done | rfl | (rw [IntKind.wrap_i64]; omega) | omega
      go_simp
      refine wpAnyH_take (i := 1) (v := .int .i64 (K1' : Nat)) rfl (by kernel_rfl) (by kernel_rfl) (by kernel_rfl) (fun _ _ _ h => h) (Or.inl ⟨by rfl, ?_⟩) SW ?_
      · intro W4 hW4
        go_simp <;> first | done | rfl | (rw [IntKind.wrap_i64]; omega) | omega
      go_simp
      refine wpAnyH_take (i := 2) (v := .int .i64 (k : Nat)) rfl (by kernel_rfl) (by kernel_rfl) (by kernel_rfl) (fun _ _ _ h => h) (Or.inl ⟨by rfl, ?_⟩) SW ?_
      · intro W4 hW4
        go_simp <;> first | done | rfl | (rw [IntKind.wrap_i64]; omega) | omega
      go_simp
      refine wpAnyH_take (i := 3) (v := .pointer (some ⟨bx, ox + k, none⟩)) rfl (by kernel_rfl) (by kernel_rfl) (by kernel_rfl) (fun _ _ _ h => h) (Or.inl ⟨by rfl, ?_⟩) SW ?_
      · intro W4 hW4
        go_simp <;> first | done | rfl | (rw [IntKind.wrap_i64]; omega) | omega
      go_simp
      refine wpAnyH_take (i := 4) (v := .int .i64 (p : Nat)) rfl (by kernel_rfl) (by kernel_rfl) (by kernel_rfl) (fun _ _ _ h => h) (Or.inl ⟨by rfl, ?_⟩) SW ?_
      · intro W4 hW4
        have x0 := (HFC.out W4 hW4).1
        go_simp <;> first | done | rfl | (rw [IntKind.wrap_i64]; omega) | omega
      go_simp
      refine wpAnyH_take (i := 6) (v := .slice (some ⟨bx, ox, none⟩) m xc) rfl (by kernel_rfl) (by kernel_rfl) (by kernel_rfl) (fun _ _ _ h => h) (Or.inl ⟨by rfl, ?_⟩) SW ?_
      · intro W4 hW4
        go_simp <;> first | done | rfl | (rw [IntKind.wrap_i64]; omega) | omega
      go_simp
      refine wpAnyH_take (i := 7) (v := .int .i64 (K1' : Nat)) rfl (by kernel_rfl) (by kernel_rfl) (by kernel_rfl) (fun _ _ _ h => h) (Or.inl ⟨by rfl, ?_⟩) SW ?_
      · intro W4 hW4
        go_simp <;> first | done | rfl | (rw [IntKind.wrap_i64]; omega) | omega
      go_simp
      refine wpAnyH_take (i := 8) (v := .pointer (some ⟨bx, ox + K1', none⟩)) rfl (by kernel_rfl) (by kernel_rfl) (by kernel_rfl) (fun _ _ _ h => h) (Or.inl ⟨by rfl, ?_⟩) SW ?_
      · intro W4 hW4
        go_simp <;> first | done | rfl | (rw [IntKind.wrap_i64]; omega) | omega
      go_simp
      refine wpAnyH_take (i := 9) (v := .int .i64 (q : Nat)) rfl (by kernel_rfl) (by kernel_rfl) (by kernel_rfl) (fun _ _ _ h => h) (Or.inl ⟨by rfl, ?_⟩) SW ?_
      · intro W4 hW4
        have x0 := (HFC.out W4 hW4).2
        go_simp <;> first | done | rfl | (rw [IntKind.wrap_i64]; omega) | omega
      go_simp
      refine wpAnyH_take (i := 12) (v := .slice (some ⟨bx, ox, none⟩) m xc) rfl (by kernel_rfl) (by kernel_rfl) (by kernel_rfl) (fun _ _ _ h => h) (Or.inl ⟨by rfl, ?_⟩) SW ?_
      · intro W4 hW4
        go_simp <;> first | done | rfl | (rw [IntKind.wrap_i64]; omega) | omega
      go_simp
      refine wpAnyH_take (i := 13) (v := .int .i64 (K1' : Nat)) rfl (by kernel_rfl) (by kernel_rfl) (by kernel_rfl) (fun _ _ _ h => h) (Or.inl ⟨by rfl, ?_⟩) SW ?_
      · intro W4 hW4
        go_simp <;> first | done | rfl | (rw [IntKind.wrap_i64]; omega) | omega
      go_simp
      refine wpAnyH_take (i := 14) (v := .int .i64 (k : Nat)) rfl (by kernel_rfl) (by kernel_rfl) (by kernel_rfl) (fun _ _ _ h => h) (Or.inl ⟨by rfl, ?_⟩) SW ?_
      · intro W4 hW4
        go_simp <;> first | done | rfl | (rw [IntKind.wrap_i64]; omega) | omega
      go_simp
      refine wpAnyH_take (i := 15) (v := .pointer (some ⟨bx, ox + k, none⟩)) rfl (by kernel_rfl) (by kernel_rfl) (by kernel_rfl) (fun _ _ _ h => h) (Or.inl ⟨by rfl, ?_⟩) SW ?_
      · intro W4 hW4
        go_simp <;> first | done | rfl | (rw [IntKind.wrap_i64]; omega) | omega
      go_simp
      refine wpAnyH_take (i := 16) (v := .int .i64 (p : Nat)) rfl (by kernel_rfl) (by kernel_rfl) (by kernel_rfl) (fun _ _ _ h => h) (Or.inl ⟨by rfl, ?_⟩) SW ?_
      · intro W4 hW4
        have x0 := (HFC.out W4 hW4).1
        go_simp <;> first | done | rfl | (rw [IntKind.wrap_i64]; omega) | omega
      go_simp
      refine wpAnyH_take (i := 18) (v := .slice (some ⟨bx, ox, none⟩) m xc) rfl (by kernel_rfl) (by kernel_rfl) (by kernel_rfl) (fun _ _ _ h => h) (Or.inl ⟨by rfl, ?_⟩) SW ?_
      · intro W4 hW4
        go_simp <;> first | done | rfl | (rw [IntKind.wrap_i64]; omega) | omega
      go_simp
      refine wpAnyH_take (i := 19) (v := .int .i64 (K1' : Nat)) rfl (by kernel_rfl) (by kernel_rfl) (by kernel_rfl) (fun _ _ _ h => h) (Or.inl ⟨by rfl, ?_⟩) SW ?_
      · intro W4 hW4
        go_simp <;> first | done | rfl | (rw [IntKind.wrap_i64]; omega) | omega
      go_simp
      refine wpAnyH_take (i := 20) (v := .pointer (some ⟨bx, ox + K1', none⟩)) rfl (by kernel_rfl) (by kernel_rfl) (by kernel_rfl) (fun _ _ _ h => h) (Or.inl ⟨by rfl, ?_⟩) SW ?_
      · intro W4 hW4
        go_simp <;> first | done | rfl | (rw [IntKind.wrap_i64]; omega) | omega
      go_simp
      refine wpAnyH_take (i := 21) (v := .int .i64 (q : Nat)) rfl (by kernel_rfl) (by kernel_rfl) (by kernel_rfl) (fun _ _ _ h => h) (Or.inl ⟨by rfl, ?_⟩) SW ?_
      · intro W4 hW4
        have x0 := (HFC.out W4 hW4).2
        go_simp <;> first | done | rfl | (rw [IntKind.wrap_i64]; omega) | omega
      go_simp
      refine wpAnyH_ready (rs := [5]) (by kernel_rfl) (by simp) ?_
      refine AllReadyH.cons rfl (fun K1 hK1 => ?_) AllReadyH.nil
      go_simp
      refine (HXP.out _).mono ?_
      rintro r w5 ⟨rfl, hw5⟩
      subst w5
      refine hK1.out _ _ SW (fun SW => ?_)
      clear hK1 K1
      go_simp
      refine wpAnyH_ready (rs := [10]) (by kernel_rfl) (by simp) ?_
      refine AllReadyH.cons rfl (fun K1 hK1 => ?_) AllReadyH.nil
      go_simp
      refine (HXQ.out _).mono ?_
      rintro r w5 ⟨rfl, hw5⟩
      subst w5
      refine hK1.out _ _ SW (fun SW => ?_)
      clear hK1 K1
      go_simp
      refine wpAnyH_take (i := 11) (v := .int .i64 (xx : Nat)) rfl (by kernel_rfl) (by kernel_rfl) (by kernel_rfl) (fun _ _ _ h => h) (Or.inl ⟨by rfl, ?_⟩) SW ?_
      · intro W4 hW4
        go_simp <;> first | done | rfl | (rw [IntKind.wrap_i64]; omega) | omega
      go_simp
      refine wpAnyH_ready (rs := [17]) (by kernel_rfl) (by simp) ?_
      refine AllReadyH.cons rfl (fun K1 hK1 => ?_) AllReadyH.nil
      go_simp
      refine (HYP.out _).mono ?_
      rintro r w5 ⟨rfl, hw5⟩
      subst w5
      refine hK1.out _ _ SW (fun SW => ?_)
      clear hK1 K1
      go_simp
      refine wpAnyH_ready (rs := [22]) (by kernel_rfl) (by simp) ?_
      refine AllReadyH.cons rfl (fun K1 hK1 => ?_) AllReadyH.nil
      go_simp
      refine (HYQ.out _).mono ?_
      rintro r w5 ⟨rfl, hw5⟩
      subst w5
      refine hK1.out _ _ SW (fun SW => ?_)
      clear hK1 K1
      go_simp
      refine wpAnyH_take (i := 23) (v := .int .i64 (yy : Nat)) rfl (by kernel_rfl) (by kernel_rfl) (by kernel_rfl) (fun _ _ _ h => h) (Or.inl ⟨by rfl, ?_⟩) SW ?_
      · intro W4 hW4
        go_simp <;> first | done | rfl | (rw [IntKind.wrap_i64]; omega) | omega
      go_simp
      refine wpAnyH_ready (rs := [24]) (by kernel_rfl) (by simp) ?_
      refine AllReadyH.cons rfl (fun K1 hK1 => ?_) AllReadyH.nil
      go_simp
      refine hK1.out _ _ SW (fun SW => ?_)
      clear hK1 K1
      go_simp
      refine wpAnyH_ready (rs := [25]) (by kernel_rfl) (by simp) ?_
      refine AllReadyH.cons rfl (fun K1 hK1 => ?_) AllReadyH.nil
      go_simp
      refine hK1.out _ _ SW (fun SW => ?_)
      clear hK1 K1
      go_simp
      refine wpAnyH_done (by kernel_rfl) ?_ _
      clear SW HP
      by_cases hxe : xx % 2 = 0
      · have tx : Int.tmod ((xx : Nat) : Int) 2 = 0 := by rw [Int.tmod_eq_emod_of_nonneg (by omega)]; omega
        have tx' : ((xx : Nat) : Int) % 2 = 0 := by omega
        by_cases hye : yy % 2 = 0
        · have ty : Int.tmod ((yy : Nat) : Int) 2 = 0 := by rw [Int.tmod_eq_emod_of_nonneg (by omega)]; omega
          have ty' : ((yy : Nat) : Int) % 2 = 0 := by omega
          rw [if_pos ⟨hxe, hye⟩] at HDS
          obtain ⟨u, hu⟩ : ∃ u, xx / 2 = u := ⟨_, rfl⟩
          obtain ⟨v, hv⟩ : ∃ v, yy / 2 = v := ⟨_, rfl⟩
          rw [hu, hv] at HDS
          have du : Int.tdiv ((xx : Nat) : Int) 2 = (u : Int) := by rw [Int.tdiv_eq_ediv_of_nonneg (by omega)]; omega
          have du' : ((xx : Nat) : Int) / 2 = (u : Int) := by omega
          have dv : Int.tdiv ((yy : Nat) : Int) 2 = (v : Int) := by rw [Int.tdiv_eq_ediv_of_nonneg (by omega)]; omega
          have dv' : ((yy : Nat) : Int) / 2 = (v : Int) := by omega
          have HAT := hide (fun W' => darkAt_any (u : Int) (v : Int) (by omega) (by omega) W')
          have hd32 := dkAt_lt u v
          obtain ⟨d, hd⟩ : ∃ d, dkAt (u : Int) (v : Int) = d := ⟨_, rfl⟩
          rw [hd] at HAT HDS hd32
          have hd33 : (d : Int) < 33 := by omega
          clear hxe hye hu hv hd
          go_upto_region 9 with fail
          refine wp_region_held (S := fun W4 => Keeps (fun q => q = cb) w3 W4) (by kernel_rfl) ?_
          change wpAnyH _ _ _ _ _ _ _ _ (World.drew _)
          have SW : Keeps (fun q => q = cb) w3 wd3.drew := HP3.out.k.drew
          have HP4 := hide HP3.out.drew
          generalize wd3.drew = wd4 at *
          refine wpAnyH_take (i := 0) (v := .pointer (some ⟨ob, 0, none⟩)) rfl (by kernel_rfl) (by kernel_rfl) (by kernel_rfl) (fun _ _ _ h => h) (Or.inl ⟨by rfl, ?_⟩) SW ?_
          · intro W4 hW4
            go_simp <;> first | done | rfl | (rw [IntKind.wrap_i64]; omega) | omega
          go_simp
          refine wpAnyH_take (i := 1) (v := .slice (some ⟨cb, 0, none⟩) 33 c2) rfl (by kernel_rfl) (by kernel_rfl) (by kernel_rfl) (fun _ _ _ h => h) (Or.inl ⟨by rfl, ?_⟩) SW ?_
          · intro W4 hW4
            have x0 := (HFX.out W4 hW4).2.2.1
            go_simp <;> first | done | rfl | (rw [IntKind.wrap_i64]; omega) | omega
          go_simp
          refine wpAnyH_take (i := 2) (v := .int .i64 (xx : Nat)) rfl (by kernel_rfl) (by kernel_rfl) (by kernel_rfl) (fun _ _ _ h => h) (Or.inl ⟨by rfl, ?_⟩) SW ?_
          · intro W4 hW4
            go_simp <;> first | done | rfl | (rw [IntKind.wrap_i64]; omega) | omega
          go_simp
          refine wpAnyH_take (i := 3) (v := .int .i64 (u : Nat)) rfl (by kernel_rfl) (by kernel_rfl) (by kernel_rfl) (fun _ _ _ h => h) (Or.inl ⟨by rfl, ?_⟩) SW ?_
          · intro W4 hW4
            go_simp <;> first | done | rfl | (rw [IntKind.wrap_i64]; omega) | omega
          go_simp
          refine wpAnyH_take (i := 4) (v := .int .i64 (yy : Nat)) rfl (by kernel_rfl) (by kernel_rfl) (by kernel_rfl) (fun _ _ _ h => h) (Or.inl ⟨by rfl, ?_⟩) SW ?_
          · intro W4 hW4
            go_simp <;> first | done | rfl | (rw [IntKind.wrap_i64]; omega) | omega
          go_simp
          refine wpAnyH_take (i := 5) (v := .int .i64 (v : Nat)) rfl (by kernel_rfl) (by kernel_rfl) (by kernel_rfl) (fun _ _ _ h => h) (Or.inl ⟨by rfl, ?_⟩) SW ?_
          · intro W4 hW4
            go_simp <;> first | done | rfl | (rw [IntKind.wrap_i64]; omega) | omega
          go_simp
          refine wpAnyH_ready (rs := [6]) (by kernel_rfl) (by simp) ?_
          refine AllReadyH.cons rfl (fun K1 hK1 => ?_) AllReadyH.nil
          go_simp
          refine (HAT.out _).mono ?_
          rintro r w5 ⟨rfl, hw5⟩
          subst w5
          refine hK1.out _ _ SW (fun SW => ?_)
          clear hK1 K1
          go_simp
          refine wpAnyH_take (i := 7) (v := .pointer (some ⟨cb, d, none⟩)) rfl (by kernel_rfl) (by kernel_rfl) (by kernel_rfl) (fun _ _ _ h => h) (Or.inl ⟨by rfl, ?_⟩) SW ?_
          · intro W4 hW4
            go_simp <;> first | done | rfl | (rw [IntKind.wrap_i64]; omega) | omega
          go_simp
          obtain ⟨⟨v1, c1⟩, f1⟩ := HP4.out.cell (show d < 33 by omega)
          have HS4 := hide (HP4.out.set d (0))
          refine wpAnyH_ready (rs := [8]) (by kernel_rfl) (by simp) ?_
          refine AllReadyH.cons rfl (fun K1 hK1 => ?_) AllReadyH.nil
          go_simp
          refine hK1.out _ _ HS4.out.k (fun SW => ?_)
          clear hK1 K1 c1 f1
          generalize wd4.setCell ⟨cb, d, none⟩ (.int .i64 (0)) = we4 at *
          go_simp
          refine wpAnyH_done (by kernel_rfl) ?_ _
          rw [← HDS.out] at HS4
          clear SW HP3 HP4
          go_wp2_with fail
          refine ⟨⟨k + 1, ?_, by omega, HS4⟩, by simp [intOf]; omega⟩
          simp; omega
        · have ty : Int.tmod ((yy : Nat) : Int) 2 = 1 := by rw [Int.tmod_eq_emod_of_nonneg (by omega)]; omega
          have ty' : ((yy : Nat) : Int) % 2 = 1 := by omega
          rw [if_neg (fun h => hye h.2)] at HDS
          have HS4 := HP3
          rw [← HDS.out] at HS4
          clear hxe hye HP3
          go_wp2_with fail
          refine ⟨⟨k + 1, ?_, by omega, HS4⟩, by simp [intOf]; omega⟩
          simp; omega
      · have tx : Int.tmod ((xx : Nat) : Int) 2 = 1 := by rw [Int.tmod_eq_emod_of_nonneg (by omega)]; omega
        have tx' : ((xx : Nat) : Int) % 2 = 1 := by omega
        rw [if_neg (fun h => hxe h.1)] at HDS
        have HS4 := HP3
        rw [← HDS.out] at HS4
        clear hxe HP3
        go_wp2_with fail
        refine ⟨⟨k + 1, ?_, by omega, HS4⟩, by simp [intOf]; omega⟩
        simp; omega
    · have hkm : ¬ (k : Int) + 1 < (m : Int) := by omega
      have hkm' : (k : Int) < (m : Int) := by omega
      have ek : (m : Int) - 1 = (k : Int) := by omega
      obtain ⟨la, hla⟩ : ∃ la, W.getD k 0 = la := ⟨_, rfl⟩
      have rl := HRG.out k (by omega)
      rw [show m - 1 = k by omega, hla] at HDR
      have cl := (HFX.out wr HP.out.k).1 k (by omega)
      rw [hla] at rl cl
      have co := (HFX.out wr HP.out.k).2.2.1
      obtain ⟨⟨v1, c1⟩, f1⟩ := HP.out.cell (show la < 33 by omega)
      have hl33 : (la : Int) < 33 := by omega
      have hcase : (pc = 1 ∧ la ≤ 4) ∨ (pc = 1 ∧ ¬ la ≤ 4) ∨ (pc = -1 ∧ 29 ≤ la) ∨ (pc = -1 ∧ ¬ 29 ≤ la) ∨ (¬ pc = 1 ∧ ¬ pc = -1) := by omega
      clear hla
      rcases hcase with ⟨hp1, hl4⟩ | ⟨hp1, hl4⟩ | ⟨hp1, hl4⟩ | ⟨hp1, hl4⟩ | ⟨hp1, hp2⟩
      · have HCW : Hid (cwn pc la = 2) := hide (by unfold cwn; rw [if_pos ⟨hp1, hl4⟩])
        subst hp1
        have l4 : (la : Int) ≤ 4 := by omega
        clear hl4
        rw [HCW.out] at HDR
        have HS5 := hide (HP.out.set la (2))
        rw [← HDR.out] at HS5
        go_upto_region 16 with fail
        generalize wr.setCell ⟨cb, la, none⟩ (.int .i64 (2)) = w6 at *
        clear c1 f1 cl co
        have z := HLT.out
        have gt := (HGB.out.keeps HS5.out.k (by show ¬ w.heap.size = cb; omega)).cells.2
        have G6 := HG3.out.keeps HS5.out.k (by show ¬ ob = cb; omega)
        have go1 := G6.cells.2
        have gf := G6.frozen 1
        have et : 3 - ((t : Nat) : Int) = (((3 - t : Nat)) : Int) := by omega
        have HG6 := hide G6
        clear G6
        go_upto_region 17 with fail
        have G7 : Dg (w6.setCell ⟨ob, 1, none⟩ (.int .i64 ((3 - t : Nat)))) ob (some ⟨cb, 0, none⟩) 33 c2 ((3 - t : Nat)) := HG6.out.setT _
        have K7 : Keeps (fun k => k = ob) w6 (w6.setCell ⟨ob, 1, none⟩ (.int .i64 ((3 - t : Nat)))) := Keeps.set1 w6 ob 1 _
        generalize w6.setCell ⟨ob, 1, none⟩ (.int .i64 ((3 - t : Nat))) = w7 at *
        have Z7 := (HZ3.out.keeps HS5.out.k (by show ¬ w.heap.size + 1 = cb; omega)).keeps K7 (by show ¬ w.heap.size + 1 = ob; omega)
        have HKA : Hid (Keeps (fun k => k = cb ∨ k = ob) w3 w7) := hide ((HS5.out.k.mono (fun k _ e => Or.inl e)).trans (K7.mono (fun k _ e => Or.inr e)))
        have HO7 : Hid (w7.ownsRow cb 3 1 (.slice (some ⟨cb, 0, none⟩) 33 c2) 33 ((doR Z W).map (Value.int .i64))) := hide (own_blk HS5.out.o (fun g hg => by
          have : cb = g := by simpa [Value.ownBlock] using hg
          subst this
          exact K7.block _ (HS5.out.o.lt cb rfl).2 (by show ¬ cb = ob; omega)))
        clear gt go1 gf et K7 HG6
        go_wp2_with (first
          | refine wpList_load_dg rfl (.tmp 5) rfl ob rfl G7 ?_
          | (refine wpList_store_dg rfl (.tmp 4) (.tmp 99) rfl (w.heap.size + 1) rfl rfl Z7 ?_; intro w8 k8 kk8))
        refine bodyPost_ret (results_dg rfl _ _ (w.heap.size + 1) rfl k8) rfl ⟨_, _, rfl, ?_, ?_⟩
        · exact Rd.of_own (own_keeps HO7.out kk8 (by omega))
        · exact HB3.out.trans (((HKA.out.mono (Y := fun q => w.heap.size ≤ q) (fun q _ e => by omega)).trans (kk8.mono (fun q _ e => by omega))).below (B := w.heap.size) HB3.out.size (fun q hq e => by omega))
      · have HCW : Hid (cwn pc la = 1) := hide (by unfold cwn; rw [if_neg (fun h => hl4 h.2), if_neg (fun h => by omega), hp1])
        subst hp1
        have l4 : ¬ (la : Int) ≤ 4 := by omega
        clear hl4
        rw [HCW.out] at HDR
        have HS5 := hide (HP.out.set la (1))
        rw [← HDR.out] at HS5
        go_upto_region 16 with fail
        generalize wr.setCell ⟨cb, la, none⟩ (.int .i64 (1)) = w6 at *
        clear c1 f1 cl co
        have z := HLT.out
        have gt := (HGB.out.keeps HS5.out.k (by show ¬ w.heap.size = cb; omega)).cells.2
        have G6 := HG3.out.keeps HS5.out.k (by show ¬ ob = cb; omega)
        have go1 := G6.cells.2
        have gf := G6.frozen 1
        have et : 3 - ((t : Nat) : Int) = (((3 - t : Nat)) : Int) := by omega
        have HG6 := hide G6
        clear G6
        go_upto_region 17 with fail
        have G7 : Dg (w6.setCell ⟨ob, 1, none⟩ (.int .i64 ((3 - t : Nat)))) ob (some ⟨cb, 0, none⟩) 33 c2 ((3 - t : Nat)) := HG6.out.setT _
        have K7 : Keeps (fun k => k = ob) w6 (w6.setCell ⟨ob, 1, none⟩ (.int .i64 ((3 - t : Nat)))) := Keeps.set1 w6 ob 1 _
        generalize w6.setCell ⟨ob, 1, none⟩ (.int .i64 ((3 - t : Nat))) = w7 at *
        have Z7 := (HZ3.out.keeps HS5.out.k (by show ¬ w.heap.size + 1 = cb; omega)).keeps K7 (by show ¬ w.heap.size + 1 = ob; omega)
        have HKA : Hid (Keeps (fun k => k = cb ∨ k = ob) w3 w7) := hide ((HS5.out.k.mono (fun k _ e => Or.inl e)).trans (K7.mono (fun k _ e => Or.inr e)))
        have HO7 : Hid (w7.ownsRow cb 3 1 (.slice (some ⟨cb, 0, none⟩) 33 c2) 33 ((doR Z W).map (Value.int .i64))) := hide (own_blk HS5.out.o (fun g hg => by
          have : cb = g := by simpa [Value.ownBlock] using hg
          subst this
          exact K7.block _ (HS5.out.o.lt cb rfl).2 (by show ¬ cb = ob; omega)))
        clear gt go1 gf et K7 HG6
        go_wp2_with (first
          | refine wpList_load_dg rfl (.tmp 5) rfl ob rfl G7 ?_
          | (refine wpList_store_dg rfl (.tmp 4) (.tmp 99) rfl (w.heap.size + 1) rfl rfl Z7 ?_; intro w8 k8 kk8))
        refine bodyPost_ret (results_dg rfl _ _ (w.heap.size + 1) rfl k8) rfl ⟨_, _, rfl, ?_, ?_⟩
        · exact Rd.of_own (own_keeps HO7.out kk8 (by omega))
        · exact HB3.out.trans (((HKA.out.mono (Y := fun q => w.heap.size ≤ q) (fun q _ e => by omega)).trans (kk8.mono (fun q _ e => by omega))).below (B := w.heap.size) HB3.out.size (fun q hq e => by omega))
      · have HCW : Hid (cwn pc la = -2) := hide (by unfold cwn; rw [if_neg (fun h => by omega), if_pos ⟨hp1, hl4⟩])
        subst hp1
        have l4 : (la : Int) ≥ 29 := by omega
        clear hl4
        rw [HCW.out] at HDR
        have HS5 := hide (HP.out.set la (-2))
        rw [← HDR.out] at HS5
        go_upto_region 16 with fail
        generalize wr.setCell ⟨cb, la, none⟩ (.int .i64 (-2)) = w6 at *
        clear c1 f1 cl co
        have z := HLT.out
        have gt := (HGB.out.keeps HS5.out.k (by show ¬ w.heap.size = cb; omega)).cells.2
        have G6 := HG3.out.keeps HS5.out.k (by show ¬ ob = cb; omega)
        have go1 := G6.cells.2
        have gf := G6.frozen 1
        have et : 3 - ((t : Nat) : Int) = (((3 - t : Nat)) : Int) := by omega
        have HG6 := hide G6
        clear G6
        go_upto_region 17 with fail
        have G7 : Dg (w6.setCell ⟨ob, 1, none⟩ (.int .i64 ((3 - t : Nat)))) ob (some ⟨cb, 0, none⟩) 33 c2 ((3 - t : Nat)) := HG6.out.setT _
        have K7 : Keeps (fun k => k = ob) w6 (w6.setCell ⟨ob, 1, none⟩ (.int .i64 ((3 - t : Nat)))) := Keeps.set1 w6 ob 1 _
        generalize w6.setCell ⟨ob, 1, none⟩ (.int .i64 ((3 - t : Nat))) = w7 at *
        have Z7 := (HZ3.out.keeps HS5.out.k (by show ¬ w.heap.size + 1 = cb; omega)).keeps K7 (by show ¬ w.heap.size + 1 = ob; omega)
        have HKA : Hid (Keeps (fun k => k = cb ∨ k = ob) w3 w7) := hide ((HS5.out.k.mono (fun k _ e => Or.inl e)).trans (K7.mono (fun k _ e => Or.inr e)))
        have HO7 : Hid (w7.ownsRow cb 3 1 (.slice (some ⟨cb, 0, none⟩) 33 c2) 33 ((doR Z W).map (Value.int .i64))) := hide (own_blk HS5.out.o (fun g hg => by
          have : cb = g := by simpa [Value.ownBlock] using hg
          subst this
          exact K7.block _ (HS5.out.o.lt cb rfl).2 (by show ¬ cb = ob; omega)))
        clear gt go1 gf et K7 HG6
        go_wp2_with (first
          | refine wpList_load_dg rfl (.tmp 5) rfl ob rfl G7 ?_
          | (refine wpList_store_dg rfl (.tmp 4) (.tmp 99) rfl (w.heap.size + 1) rfl rfl Z7 ?_; intro w8 k8 kk8))
        refine bodyPost_ret (results_dg rfl _ _ (w.heap.size + 1) rfl k8) rfl ⟨_, _, rfl, ?_, ?_⟩
        · exact Rd.of_own (own_keeps HO7.out kk8 (by omega))
        · exact HB3.out.trans (((HKA.out.mono (Y := fun q => w.heap.size ≤ q) (fun q _ e => by omega)).trans (kk8.mono (fun q _ e => by omega))).below (B := w.heap.size) HB3.out.size (fun q hq e => by omega))
      · have HCW : Hid (cwn pc la = -1) := hide (by unfold cwn; rw [if_neg (fun h => by omega), if_neg (fun h => hl4 h.2), hp1])
        subst hp1
        have l4 : ¬ (la : Int) ≥ 29 := by omega
        clear hl4
        rw [HCW.out] at HDR
        have HS5 := hide (HP.out.set la (-1))
        rw [← HDR.out] at HS5
        go_upto_region 16 with fail
        generalize wr.setCell ⟨cb, la, none⟩ (.int .i64 (-1)) = w6 at *
        clear c1 f1 cl co
        have z := HLT.out
        have gt := (HGB.out.keeps HS5.out.k (by show ¬ w.heap.size = cb; omega)).cells.2
        have G6 := HG3.out.keeps HS5.out.k (by show ¬ ob = cb; omega)
        have go1 := G6.cells.2
        have gf := G6.frozen 1
        have et : 3 - ((t : Nat) : Int) = (((3 - t : Nat)) : Int) := by omega
        have HG6 := hide G6
        clear G6
        go_upto_region 17 with fail
        have G7 : Dg (w6.setCell ⟨ob, 1, none⟩ (.int .i64 ((3 - t : Nat)))) ob (some ⟨cb, 0, none⟩) 33 c2 ((3 - t : Nat)) := HG6.out.setT _
        have K7 : Keeps (fun k => k = ob) w6 (w6.setCell ⟨ob, 1, none⟩ (.int .i64 ((3 - t : Nat)))) := Keeps.set1 w6 ob 1 _
        generalize w6.setCell ⟨ob, 1, none⟩ (.int .i64 ((3 - t : Nat))) = w7 at *
        have Z7 := (HZ3.out.keeps HS5.out.k (by show ¬ w.heap.size + 1 = cb; omega)).keeps K7 (by show ¬ w.heap.size + 1 = ob; omega)
        have HKA : Hid (Keeps (fun k => k = cb ∨ k = ob) w3 w7) := hide ((HS5.out.k.mono (fun k _ e => Or.inl e)).trans (K7.mono (fun k _ e => Or.inr e)))
        have HO7 : Hid (w7.ownsRow cb 3 1 (.slice (some ⟨cb, 0, none⟩) 33 c2) 33 ((doR Z W).map (Value.int .i64))) := hide (own_blk HS5.out.o (fun g hg => by
          have : cb = g := by simpa [Value.ownBlock] using hg
          subst this
          exact K7.block _ (HS5.out.o.lt cb rfl).2 (by show ¬ cb = ob; omega)))
        clear gt go1 gf et K7 HG6
        go_wp2_with (first
          | refine wpList_load_dg rfl (.tmp 5) rfl ob rfl G7 ?_
          | (refine wpList_store_dg rfl (.tmp 4) (.tmp 99) rfl (w.heap.size + 1) rfl rfl Z7 ?_; intro w8 k8 kk8))
        refine bodyPost_ret (results_dg rfl _ _ (w.heap.size + 1) rfl k8) rfl ⟨_, _, rfl, ?_, ?_⟩
        · exact Rd.of_own (own_keeps HO7.out kk8 (by omega))
        · exact HB3.out.trans (((HKA.out.mono (Y := fun q => w.heap.size ≤ q) (fun q _ e => by omega)).trans (kk8.mono (fun q _ e => by omega))).below (B := w.heap.size) HB3.out.size (fun q hq e => by omega))
      · have HCW : Hid (cwn pc la = pc) := hide (by unfold cwn; rw [if_neg (fun h => hp1 h.1), if_neg (fun h => hp2 h.1)])
        have b1 : (pc == 1) = false := by simpa using hp1
        have b2 : (pc == -1) = false := by simpa using hp2
        clear hp1 hp2
        rw [HCW.out] at HDR
        have HS5 := hide (HP.out.set la (pc))
        rw [← HDR.out] at HS5
        go_upto_region 16 with fail
        generalize wr.setCell ⟨cb, la, none⟩ (.int .i64 (pc)) = w6 at *
        clear c1 f1 cl co
        have z := HLT.out
        have gt := (HGB.out.keeps HS5.out.k (by show ¬ w.heap.size = cb; omega)).cells.2
        have G6 := HG3.out.keeps HS5.out.k (by show ¬ ob = cb; omega)
        have go1 := G6.cells.2
        have gf := G6.frozen 1
        have et : 3 - ((t : Nat) : Int) = (((3 - t : Nat)) : Int) := by omega
        have HG6 := hide G6
        clear G6
        go_upto_region 17 with fail
        have G7 : Dg (w6.setCell ⟨ob, 1, none⟩ (.int .i64 ((3 - t : Nat)))) ob (some ⟨cb, 0, none⟩) 33 c2 ((3 - t : Nat)) := HG6.out.setT _
        have K7 : Keeps (fun k => k = ob) w6 (w6.setCell ⟨ob, 1, none⟩ (.int .i64 ((3 - t : Nat)))) := Keeps.set1 w6 ob 1 _
        generalize w6.setCell ⟨ob, 1, none⟩ (.int .i64 ((3 - t : Nat))) = w7 at *
        have Z7 := (HZ3.out.keeps HS5.out.k (by show ¬ w.heap.size + 1 = cb; omega)).keeps K7 (by show ¬ w.heap.size + 1 = ob; omega)
        have HKA : Hid (Keeps (fun k => k = cb ∨ k = ob) w3 w7) := hide ((HS5.out.k.mono (fun k _ e => Or.inl e)).trans (K7.mono (fun k _ e => Or.inr e)))
        have HO7 : Hid (w7.ownsRow cb 3 1 (.slice (some ⟨cb, 0, none⟩) 33 c2) 33 ((doR Z W).map (Value.int .i64))) := hide (own_blk HS5.out.o (fun g hg => by
          have : cb = g := by simpa [Value.ownBlock] using hg
          subst this
          exact K7.block _ (HS5.out.o.lt cb rfl).2 (by show ¬ cb = ob; omega)))
        clear gt go1 gf et K7 HG6
        go_wp2_with (first
          | refine wpList_load_dg rfl (.tmp 5) rfl ob rfl G7 ?_
          | (refine wpList_store_dg rfl (.tmp 4) (.tmp 99) rfl (w.heap.size + 1) rfl rfl Z7 ?_; intro w8 k8 kk8))
        refine bodyPost_ret (results_dg rfl _ _ (w.heap.size + 1) rfl k8) rfl ⟨_, _, rfl, ?_, ?_⟩
        · exact Rd.of_own (own_keeps HO7.out kk8 (by omega))
        · exact HB3.out.trans (((HKA.out.mono (Y := fun q => w.heap.size ≤ q) (fun q _ e => by omega)).trans (kk8.mono (fun q _ e => by omega))).below (B := w.heap.size) HB3.out.size (fun q hq e => by omega))

end Go.Proofs.YtnbaangnpoblfaaDoor
