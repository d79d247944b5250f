/-
  The law on signs, where there are moves. No conditions beyond those that each theorem bears.
-/
import Derived.Test.YtkmghlmniahgbaaDoorSgD
namespace Go.Proofs.YtkmghlmniahgbaaDoor
open Go.RowKit

attribute [local irreducible] sps pz st0 mirL mir tc

set_option maxRecDepth 100000 in
set_option maxHeartbeats 16000000 in
theorem signs_moves (gW gH : Nat) (a : Option Addr) (n c : Nat) (zs : List Int) (m : Nat) (pick : Int) (w : World) (hTT : DTab w ∧ TzT w) (h : Rd w a n c zs) (hp : -9223372036854775808 ≤ pick ∧ pick ≤ 9223372036854775807) (b : Og gW gH n zs) (hm : m = 1 ∨ m = 2) (hs : sps gW gH zs m ≠ []) :
    Calls Tryd.prog 6 #[.agg (gdA gW gH a n c), .int .i64 (m : Nat), .int .i64 pick] w fun e w' => e = .returned (.bool true) ∧ Below w.heap.size w w' := by
  have hn64 := b.n64
  have hcm := h.max
  unfold maxLen at hcm
  have hcc := h.cap
  have hWd := b.wd
  have HPL := hide (fun W1 h1 h2 (h3 : Rd W1 a n c zs) => Places_yes gW gH a n c zs m W1 h1 h2 h3 b hm)
  have HMI := hide (fun W1 (h3 : Rd W1 a n c zs) => mirrored_any gW gH a n c zs W1 h3 (by omega) (by have := b.ht; omega) b.mul)
  have HPM := hide (fun a' c' W1 h1 h2 (h3 : Rd W1 a' n c' (mirL gW zs)) => Places_yes gW gH a' n c' (mirL gW zs) m W1 h1 h2 h3 (mirL_og b) hm)
  have hle := sps_mlen (W := gW) (H := gH) (Z := zs) (m := m) (by omega) (by rw [b.len, b.mul])
  rw [hle] at HPM
  obtain ⟨w1, hw1⟩ : ∃ w1, w.alloc (.cells (gdA gW gH a n c) 24) = w1 := ⟨_, rfl⟩
  have HB1 : Hid (Below w.heap.size w w1) := hide (by rw [← hw1]; exact (Below.refl _ _).alloc (Nat.le_refl _) _)
  have HG1 : Hid (Gd w1 w.heap.size gW gH a n c) := hide (by rw [← hw1]; exact Gd.new _ _ _ _ _ _)
  have HR1 := hide (h.mono HB1.out)
  have HD1 := hide (hTT.1.mono HB1.out)
  have HTZ1 := hide (hTT.2.mono HB1.out)
  have hWH : gW * gH ≤ 64 := by rw [b.mul]; omega
  have hln : (sps gW gH zs m).length ≤ 64 := Nat.le_trans (sps_len gW gH zs m) hWH
  have hlp : 0 < (sps gW gH zs m).length := List.length_pos_iff.2 hs
  have HME := hide (fun p (hp : p ∈ sps gW gH zs m) => (show p < n ∧ mir gW p ∈ sps gW gH (mirL gW zs) m from ⟨by rw [← b.mul]; exact (sps_iff.1 hp).1, sps_mir (by omega) (by rw [b.len, b.mul]) hp⟩))
  obtain ⟨mo, hmo⟩ : ∃ mo, 3 - m = mo := ⟨_, rfl⟩
  have h3a : (3 : Int) - (m : Int) = (mo : Int) := by omega
  have hmb : m ≤ 2 := by omega
  have hmob : mo ≤ 2 := by omega
  obtain ⟨I0, hI0e⟩ : ∃ I0, pk pick (sps gW gH zs m).length = I0 := ⟨_, rfl⟩
  have hI0 : I0 < (sps gW gH zs m).length := by rw [← hI0e]; exact pk_lt _ _ hlp
  have HPI := hide (fun W1 => picked_any pick (sps gW gH zs m).length W1 hp.1 hp.2 (by omega) (by omega))
  rw [hI0e] at HPI
  obtain ⟨P0, hP0⟩ : ∃ P0, (sps gW gH zs m).getD I0 0 = P0 := ⟨_, rfl⟩
  have hmem0 : P0 ∈ sps gW gH zs m := by rw [← hP0]; simp [List.getD, hI0]
  have hP0n : P0 < n := by rw [← b.mul]; exact (sps_iff.1 hmem0).1
  have HPZ := hide (pz_facts b hm hmem0)
  have HTP : Hid (1 ≤ tc zs (pz gW gH zs m P0) P0 n) := hide (by
    obtain ⟨k, hk, h1, h2⟩ := HPZ.out.2.2.2
    exact tc_pos hk ⟨h1, h2⟩)
  have HPU := hide (fun W1 h1 h2 (h3 : Rd W1 a n c zs) => Put_yes gW gH a n c zs m P0 W1 h1 h2 h3 b hm hP0n hmem0)
  obtain ⟨L, hLL⟩ : ∃ L, sps gW gH zs m = L := ⟨_, rfl⟩
  obtain ⟨LM, hLM⟩ : ∃ LM, sps gW gH (mirL gW zs) m = LM := ⟨_, rfl⟩
  rw [hLM] at HME HPM hle
  rw [hLL] at HPL HPM HME hln hlp hI0 hP0 HPI hle
  obtain ⟨ln, hlne⟩ : ∃ ln, L.length = ln := ⟨_, rfl⟩
  rw [hlne] at HPL HPM hln hlp hI0 HPI hle
  have HLE := hide hlne
  have HME2 := hide hle
  have HP0 := hide hP0
  have hzl : ((ln : Int) == 0) = false := by rw [beq_eq_false_iff_ne]; omega
  have hnl : ((ln : Int) != (ln : Int)) = false := by simp
  clear h hTT hp b hm hs hle hWH hI0e hmem0 hLL hLM hlne hmo hP0
  go_enter Tryd.func6, Tryd.ntmps6
  go_upto_region 1 with fail
  clear hw1
  go_wp2_with fail
  refine (New_four _).mono ?_
  rintro r w2 ⟨cb0, cc0, rfl, hO, hb⟩
  have HN2 : Hid (Rd w2 (some ⟨cb0, 0, none⟩) 16 cc0 (st0 2 2)) := hide (Rd.of_own (own_base hO (Nat.zero_le _)))
  clear hO
  have HB2 := hide (HB1.out.trans (hb.mono HB1.out.size))
  have HG2 := hide (HG1.out.below hb HG1.out.lt)
  have HR2 := hide (HR1.out.mono hb)
  have HD2 := hide (HD1.out.mono hb)
  have HTZ2 := hide (HTZ1.out.mono hb)
  clear hb HB1 HG1 HR1 HD1 HTZ1
  have KZ := Gd.new w2 0 0 none 0 0
  go_upto_region 2 with (refine wpList_store_gd rfl (.tmp 7) (.tmp 23) rfl w2.heap.size rfl rfl KZ ?_; intro w3 S3 kk3)
  have hb : Below w2.heap.size w2 w3 := (((Keeps.refl (fun k => k = w2.heap.size) w2).alloc _).trans kk3).below (Nat.le_refl _) (fun k hk e => by omega)
  have HS3 := hide S3
  clear S3 KZ kk3
  have HB3 := hide (HB2.out.trans (hb.mono HB2.out.size))
  have HG3 := hide (HG2.out.below hb HG2.out.lt)
  have HR3 := hide (HR2.out.mono hb)
  have HD3 := hide (HD2.out.mono hb)
  have HTZ3 := hide (HTZ2.out.mono hb)
  have HN3 := hide (HN2.out.mono hb)
  clear hb HB2 HG2 HR2 HD2 HTZ2 HN2
  have HC3 := hide (Places_four cb0 cc0 w3 HD3.out HTZ3.out HN3.out)
  go_wp2_with (refine wpList_load_gd rfl (.tmp 7) rfl w2.heap.size rfl HS3.out ?_)
  refine HC3.out.mono ?_
  rintro r w4 ⟨a4, c4, rfl, hR4, hb⟩
  clear HC3 HS3 HN3
  have HB4 := hide (HB3.out.trans (hb.mono HB3.out.size))
  have HG4 := hide (HG3.out.below hb HG3.out.lt)
  have HR4 := hide (HR3.out.mono hb)
  have HD4 := hide (HD3.out.mono hb)
  have HTZ4 := hide (HTZ3.out.mono hb)
  clear hb HB3 HG3 HR3 HD3 HTZ3
  have hm4 := hR4.max
  unfold maxLen at hm4
  have hc4 := hR4.cap
  have B45 : Below w4.heap.size w4 (w4.alloc (.cells #[.int .i64 1, .int .i64 4, .int .i64 11, .int .i64 14] 3)) := (Below.refl _ w4).alloc (Nat.le_refl _) _
  have HSM := hide (keepSame_any a4 (some ⟨w4.heap.size, 0, none⟩) 4 c4 4 4 [1, 4, 11, 14] [1, 4, 11, 14] (w4.alloc (.cells #[.int .i64 1, .int .i64 4, .int .i64 11, .int .i64 14] 3)) (hR4.mono B45) (Rd.of_blk (Blk.new w4 3 [1, 4, 11, 14] _ rfl) rfl (by decide)))
  rw [decide_eq_true rfl] at HSM
  have HB45 := hide B45
  clear hR4 B45
  go_wp2_with fail
  refine HSM.out.mono ?_
  rintro r w5' ⟨rfl, q, rfl⟩
  obtain ⟨w5, hw5⟩ : ∃ w5, (World.alloc w4 (.cells #[.int .i64 1, .int .i64 4, .int .i64 11, .int .i64 14] 3)).drewN q = w5 := ⟨_, rfl⟩
  have hb : Below w4.heap.size w4 w5 := by rw [← hw5]; exact HB45.out.trans (drewN_below _ _ _)
  rw [hw5]
  clear hw5 HSM HB45
  have HB5 := hide (HB4.out.trans (hb.mono HB4.out.size))
  have HG5 := hide (HG4.out.below hb HG4.out.lt)
  have HR5 := hide (HR4.out.mono hb)
  have HD5 := hide (HD4.out.mono hb)
  have HTZ5 := hide (HTZ4.out.mono hb)
  clear hb HB4 HG4 HR4 HD4 HTZ4
  go_wp2_with (refine wpList_load_gd rfl (.tmp 3) rfl w.heap.size rfl HG5.out ?_)
  refine (HPL.out w5 HD5.out HTZ5.out HR5.out).mono ?_
  rintro r w6 ⟨la, lc, rfl, hO, hb⟩
  have HL6 := hide (Rd.of_own hO)
  clear hO HPL
  have HB6 := hide (HB5.out.trans (hb.mono HB5.out.size))
  have HG6 := hide (HG5.out.below hb HG5.out.lt)
  have HR6 := hide (HR5.out.mono hb)
  have HD6 := hide (HD5.out.mono hb)
  have HTZ6 := hide (HTZ5.out.mono hb)
  clear hb HB5 HG5 HR5 HD5 HTZ5
  have hlm := HL6.out.max
  unfold maxLen at hlm
  have hlc := HL6.out.cap
  have HC6 := hide (HMI.out w6 HR6.out)
  go_wp2_with (refine wpList_load_gd rfl (.tmp 3) rfl w.heap.size rfl HG6.out ?_)
  refine HC6.out.mono ?_
  rintro r w7 ⟨ma, mc, rfl, hR7, hb⟩
  have HM7 := hide hR7
  clear hR7 HC6 HMI
  have HB7 := hide (HB6.out.trans (hb.mono HB6.out.size))
  have HG7 := hide (HG6.out.below hb HG6.out.lt)
  have HR7 := hide (HR6.out.mono hb)
  have HD7 := hide (HD6.out.mono hb)
  have HTZ7 := hide (HTZ6.out.mono hb)
  have HL7 := hide (HL6.out.mono hb)
  clear hb HB6 HG6 HR6 HD6 HTZ6 HL6
  have HC7 := hide (HPM.out ma mc w7 HD7.out HTZ7.out HM7.out)
  go_wp2_with fail
  refine HC7.out.mono ?_
  rintro r w8 ⟨ka, kc, rfl, hO, hb⟩
  have HK8 := hide (Rd.of_own hO)
  clear hO HC7 HM7 HPM
  have HB8 := hide (HB7.out.trans (hb.mono HB7.out.size))
  have HG8 := hide (HG7.out.below hb HG7.out.lt)
  have HR8 := hide (HR7.out.mono hb)
  have HD8 := hide (HD7.out.mono hb)
  have HTZ8 := hide (HTZ7.out.mono hb)
  have HL8 := hide (HL7.out.mono hb)
  clear hb HB7 HG7 HR7 HD7 HTZ7 HL7
  have hkm := HK8.out.max
  unfold maxLen at hkm
  have hkc := HK8.out.cap
  obtain ⟨lb, lo, rfl, -⟩ := HL8.out.cells hlp
  obtain ⟨kb, ko, rfl, -⟩ := HK8.out.cells hlp
  go_wp2_with fail
  go_loopw [13] (fun v wr => ∃ i : Nat, v = .int .i64 i ∧ i ≤ ln ∧ Hid (Below w8.heap.size w8 wr)) (fun v _ => ln - (intOf v).toNat)
  case atStart => exact ⟨0, rfl, by omega, hide (Below.refl _ _)⟩
  case round =>
    obtain ⟨i, rfl, hi, hB⟩ := hrel
    by_cases hlt : i < ln
    · have hlt' : (i : Int) < (ln : Int) := by omega
      have hjL : i < L.length := by rw [HLE.out]; exact hlt
      have hcj := ((HL8.out.mono hB.out).cell hlt).2
      rw [toI_getD hjL] at hcj
      have hmem : L.getD i 0 ∈ L := by simp [List.getD, hjL]
      have HME1 := hide (HME.out _ hmem)
      obtain ⟨P, hP⟩ : ∃ P, L.getD i 0 = P := ⟨_, rfl⟩
      rw [hP] at hcj HME1
      have hPn := HME1.out.1
      obtain ⟨D, hD⟩ : ∃ D, P / gW = D := ⟨_, rfl⟩
      obtain ⟨Rm, hRm⟩ : ∃ Rm, P % gW = Rm := ⟨_, rfl⟩
      obtain ⟨A, hA⟩ : ∃ A, D * gW = A := ⟨_, rfl⟩
      obtain ⟨Q, hQ⟩ : ∃ Q, mir gW P = Q := ⟨_, rfl⟩
      have HQ1 : Hid (Int.tdiv (P : Int) (gW : Int) = (D : Int) ∧ (P : Int) / (gW : Int) = (D : Int)) := hide (by rw [Int.tdiv_eq_ediv_of_nonneg (by omega), ← hD]; simp)
      have HRm : Hid (Int.tmod (P : Int) (gW : Int) = (Rm : Int) ∧ (P : Int) % (gW : Int) = (Rm : Int)) := hide (by rw [Int.tmod_eq_emod_of_nonneg (by omega), ← hRm]; simp)
      have HA : Hid ((D : Int) * (gW : Int) = (A : Int)) := hide (by rw [← hA]; simp)
      have hRl : Rm < gW := by rw [← hRm]; exact Nat.mod_lt _ (by omega)
      have hDl : D ≤ P := by rw [← hD]; exact Nat.div_le_self _ _
      have hAl : A ≤ P := by rw [← hA, ← hD]; exact Nat.div_mul_le_self _ _
      have HQ : Hid ((((A + gW : Nat) : Int) - 1) - (Rm : Int) = (Q : Int)) := hide (by
        have e0 : mir gW P = A + (gW - 1 - Rm) := by unfold mir; rw [hD, hRm, hA]
        rw [← hQ, e0]; omega)
      have hQb : Q ≤ 200 := by have := HQ.out; omega
      have HQM : Hid (Q ∈ LM) := hide (by rw [← hQ]; exact HME1.out.2)
      clear hP hmem HME1 hD hRm hA hQ
      go_upto_region 14 with fail
      have HFC : Hid (∀ W4, Below wr.heap.size wr W4 → W4.cell? ⟨w.heap.size, 0, none⟩ = some (.int .i64 gW) ∧ W4.cell? ⟨lb, lo + i, none⟩ = some (.int .i64 (P : Nat))) := hide (fun W4 hb => ⟨((HG8.out.below hB.out HG8.out.lt).below hb (HG8.out.below hB.out HG8.out.lt).lt).cells.1, (hb.cell (p := ⟨lb, lo + i, none⟩) (World.block_lt_of_cell? wr _ hcj)).trans hcj⟩)
      clear hcj
      refine wp_calm ?_
      refine wp_region_held (S := fun W4 => Below wr.heap.size wr W4) (by kernel_rfl) ?_
      change wpAnyH _ _ _ _ _ _ _ _ (World.drew _)
      have SW : Below wr.heap.size wr wr.drew := (Below.refl _ wr).drew
      refine wpAnyH_take (i := 0) (v := .slice (some ⟨lb, lo, none⟩) ln lc) rfl (by kernel_rfl) (by kernel_rfl) (by kernel_rfl) (fun _ _ _ h => h) (Or.inl ⟨by rfl, ?_⟩) SW ?_
      · intro W4 hW4
        go_simp <;> first | done | rfl | (rw [IntKind.wrap_i64]; omega) | omega
      go_simp
      refine wpAnyH_take (i := 1) (v := .int .i64 (i : Nat)) rfl (by kernel_rfl) (by kernel_rfl) (by kernel_rfl) (fun _ _ _ h => h) (Or.inl ⟨by rfl, ?_⟩) SW ?_
      · intro W4 hW4
        go_simp <;> first | done | rfl | (rw [IntKind.wrap_i64]; omega) | omega
      go_simp
      refine wpAnyH_take (i := 2) (v := .pointer (some ⟨lb, lo + i, none⟩)) rfl (by kernel_rfl) (by kernel_rfl) (by kernel_rfl) (fun _ _ _ h => h) (Or.inl ⟨by rfl, ?_⟩) SW ?_
      · intro W4 hW4
        go_simp <;> first | done | rfl | (rw [IntKind.wrap_i64]; omega) | omega
      go_simp
      refine wpAnyH_take (i := 3) (v := .int .i64 (P : Nat)) rfl (by kernel_rfl) (by kernel_rfl) (by kernel_rfl) (fun _ _ _ h => h) (Or.inl ⟨by rfl, ?_⟩) SW ?_
      · intro W4 hW4
        obtain ⟨x0, x1⟩ := HFC.out W4 hW4
        go_simp <;> first | done | rfl | (rw [IntKind.wrap_i64]; omega) | omega
      go_simp
      refine wpAnyH_take (i := 4) (v := .pointer (some ⟨w.heap.size, 0, none⟩)) rfl (by kernel_rfl) (by kernel_rfl) (by kernel_rfl) (fun _ _ _ h => h) (Or.inl ⟨by rfl, ?_⟩) SW ?_
      · intro W4 hW4
        go_simp <;> first | done | rfl | (rw [IntKind.wrap_i64]; omega) | omega
      go_simp
      refine wpAnyH_take (i := 5) (v := .int .i64 (gW : Nat)) rfl (by kernel_rfl) (by kernel_rfl) (by kernel_rfl) (fun _ _ _ h => h) (Or.inl ⟨by rfl, ?_⟩) SW ?_
      · intro W4 hW4
        obtain ⟨x0, x1⟩ := HFC.out W4 hW4
        go_simp <;> first | done | rfl | (rw [IntKind.wrap_i64]; omega) | omega
      go_simp
      refine wpAnyH_take (i := 6) (v := .int .i64 (D : Nat)) rfl (by kernel_rfl) (by kernel_rfl) (by kernel_rfl) (fun _ _ _ h => h) (Or.inl ⟨by rfl, ?_⟩) SW ?_
      · intro W4 hW4
        have e1 := HQ1.out; have e2 : ¬ gW = 0 := by omega
        go_simp <;> first | done | rfl | (rw [IntKind.wrap_i64]; omega) | omega
      go_simp
      refine wpAnyH_take (i := 7) (v := .pointer (some ⟨w.heap.size, 0, none⟩)) rfl (by kernel_rfl) (by kernel_rfl) (by kernel_rfl) (fun _ _ _ h => h) (Or.inl ⟨by rfl, ?_⟩) SW ?_
      · intro W4 hW4
        go_simp <;> first | done | rfl | (rw [IntKind.wrap_i64]; omega) | omega
      go_simp
      refine wpAnyH_take (i := 8) (v := .int .i64 (gW : Nat)) rfl (by kernel_rfl) (by kernel_rfl) (by kernel_rfl) (fun _ _ _ h => h) (Or.inl ⟨by rfl, ?_⟩) SW ?_
      · intro W4 hW4
        obtain ⟨x0, x1⟩ := HFC.out W4 hW4
        go_simp <;> first | done | rfl | (rw [IntKind.wrap_i64]; omega) | omega
      go_simp
      refine wpAnyH_take (i := 9) (v := .int .i64 (A : Nat)) rfl (by kernel_rfl) (by kernel_rfl) (by kernel_rfl) (fun _ _ _ h => h) (Or.inl ⟨by rfl, ?_⟩) SW ?_
      · intro W4 hW4
        have e1 := HA.out
        go_simp <;> first | done | rfl | (rw [IntKind.wrap_i64]; omega) | omega
      go_simp
      refine wpAnyH_take (i := 10) (v := .pointer (some ⟨w.heap.size, 0, none⟩)) rfl (by kernel_rfl) (by kernel_rfl) (by kernel_rfl) (fun _ _ _ h => h) (Or.inl ⟨by rfl, ?_⟩) SW ?_
      · intro W4 hW4
        go_simp <;> first | done | rfl | (rw [IntKind.wrap_i64]; omega) | omega
      go_simp
      refine wpAnyH_take (i := 11) (v := .int .i64 (gW : Nat)) rfl (by kernel_rfl) (by kernel_rfl) (by kernel_rfl) (fun _ _ _ h => h) (Or.inl ⟨by rfl, ?_⟩) SW ?_
      · intro W4 hW4
        obtain ⟨x0, x1⟩ := HFC.out W4 hW4
        go_simp <;> first | done | rfl | (rw [IntKind.wrap_i64]; omega) | omega
      go_simp
      refine wpAnyH_take (i := 12) (v := .int .i64 ((A + gW : Nat) : Int)) rfl (by kernel_rfl) (by kernel_rfl) (by kernel_rfl) (fun _ _ _ h => h) (Or.inl ⟨by rfl, ?_⟩) SW ?_
      · intro W4 hW4
        go_simp <;> first | done | rfl | (rw [IntKind.wrap_i64]; omega) | omega
      go_simp
      refine wpAnyH_take (i := 13) (v := .int .i64 ((A + gW : Nat) - 1 : Int)) rfl (by kernel_rfl) (by kernel_rfl) (by kernel_rfl) (fun _ _ _ h => h) (Or.inl ⟨by rfl, ?_⟩) SW ?_
      · intro W4 hW4
        go_simp <;> first | done | rfl | (rw [IntKind.wrap_i64]; omega) | omega
      go_simp
      refine wpAnyH_take (i := 14) (v := .slice (some ⟨lb, lo, none⟩) ln lc) rfl (by kernel_rfl) (by kernel_rfl) (by kernel_rfl) (fun _ _ _ h => h) (Or.inl ⟨by rfl, ?_⟩) SW ?_
      · intro W4 hW4
        go_simp <;> first | done | rfl | (rw [IntKind.wrap_i64]; omega) | omega
      go_simp
      refine wpAnyH_take (i := 15) (v := .int .i64 (i : Nat)) rfl (by kernel_rfl) (by kernel_rfl) (by kernel_rfl) (fun _ _ _ h => h) (Or.inl ⟨by rfl, ?_⟩) SW ?_
      · intro W4 hW4
        go_simp <;> first | done | rfl | (rw [IntKind.wrap_i64]; omega) | omega
      go_simp
      refine wpAnyH_take (i := 16) (v := .pointer (some ⟨lb, lo + i, none⟩)) rfl (by kernel_rfl) (by kernel_rfl) (by kernel_rfl) (fun _ _ _ h => h) (Or.inl ⟨by rfl, ?_⟩) SW ?_
      · intro W4 hW4
        go_simp <;> first | done | rfl | (rw [IntKind.wrap_i64]; omega) | omega
      go_simp
      refine wpAnyH_take (i := 17) (v := .int .i64 (P : Nat)) rfl (by kernel_rfl) (by kernel_rfl) (by kernel_rfl) (fun _ _ _ h => h) (Or.inl ⟨by rfl, ?_⟩) SW ?_
      · intro W4 hW4
        obtain ⟨x0, x1⟩ := HFC.out W4 hW4
        go_simp <;> first | done | rfl | (rw [IntKind.wrap_i64]; omega) | omega
      go_simp
      refine wpAnyH_take (i := 18) (v := .pointer (some ⟨w.heap.size, 0, none⟩)) rfl (by kernel_rfl) (by kernel_rfl) (by kernel_rfl) (fun _ _ _ h => h) (Or.inl ⟨by rfl, ?_⟩) SW ?_
      · intro W4 hW4
        go_simp <;> first | done | rfl | (rw [IntKind.wrap_i64]; omega) | omega
      go_simp
      refine wpAnyH_take (i := 19) (v := .int .i64 (gW : Nat)) rfl (by kernel_rfl) (by kernel_rfl) (by kernel_rfl) (fun _ _ _ h => h) (Or.inl ⟨by rfl, ?_⟩) SW ?_
      · intro W4 hW4
        obtain ⟨x0, x1⟩ := HFC.out W4 hW4
        go_simp <;> first | done | rfl | (rw [IntKind.wrap_i64]; omega) | omega
      go_simp
      refine wpAnyH_take (i := 20) (v := .int .i64 (Rm : Nat)) rfl (by kernel_rfl) (by kernel_rfl) (by kernel_rfl) (fun _ _ _ h => h) (Or.inl ⟨by rfl, ?_⟩) SW ?_
      · intro W4 hW4
        have e1 := HRm.out; have e2 : ¬ gW = 0 := by omega
        go_simp <;> first | done | rfl | (rw [IntKind.wrap_i64]; omega) | omega
      go_simp
      refine wpAnyH_take (i := 21) (v := .int .i64 (Q : Nat)) rfl (by kernel_rfl) (by kernel_rfl) (by kernel_rfl) (fun _ _ _ h => h) (Or.inl ⟨by rfl, ?_⟩) SW ?_
      · intro W4 hW4
        have e1 := HQ.out
        go_simp <;> first | done | rfl | (rw [IntKind.wrap_i64]; omega) | omega
      go_simp
      refine wpAnyH_ready (rs := [22]) (by kernel_rfl) (by simp) ?_
      refine AllReadyH.cons rfl (fun K1 hK1 => ?_) AllReadyH.nil
      go_simp
      refine hK1.out _ _ SW (fun SW => ?_)
      clear hK1 K1
      go_simp
      refine wpAnyH_done (by kernel_rfl) ?_ _
      obtain ⟨wd, hwd⟩ : ∃ wd, wr.drew = wd := ⟨_, rfl⟩
      rw [hwd] at SW ⊢
      have HBd := hide (hB.out.trans (SW.mono hB.out.size))
      clear hwd SW HFC
      go_wp2_with fail
      go_loopw [15, 16] (fun u v wr2 => ∃ (j : Nat) (f : Bool), v = .int .i64 j ∧ u = .bool f ∧ j ≤ ln ∧ Hid (f = decide (Q ∈ LM.take j)) ∧ wd = wr2) (fun _ v _ => ln - (intOf v).toNat)
      case atStart => exact ⟨0, false, rfl, rfl, by omega, hide (by simp), rfl⟩
      case round =>
        obtain ⟨j, f, rfl, rfl, hj, hf, rfl⟩ := hrel
        by_cases hltj : j < ln
        · have hltj' : (j : Int) < (ln : Int) := by omega
          have hjM : j < LM.length := by rw [HME2.out]; exact hltj
          have ck := ((HK8.out.mono HBd.out).cell hltj).2
          rw [toI_getD hjM] at ck
          have HTK : Hid (LM.take (j + 1) = LM.take j ++ [LM.getD j 0]) := hide (by rw [List.take_succ_eq_append_getElem hjM]; simp [List.getD, hjM])
          obtain ⟨X, hX⟩ : ∃ X, LM.getD j 0 = X := ⟨_, rfl⟩
          rw [hX] at HTK ck
          clear hX
          cases f with
          | true =>
            have HF2 : Hid (true = decide (Q ∈ LM.take (j + 1))) := hide (by
              symm
              rw [decide_eq_true_iff, HTK.out, List.mem_append]
              exact Or.inl (decide_eq_true_iff.1 hf.out.symm))
            go_wp2_with fail
            exact ⟨⟨j + 1, true, by go_num, rfl, by omega, HF2, (by first | rfl | trivial)⟩, by simp [intOf]; omega⟩
          | false =>
            have hn0 : ¬ Q ∈ LM.take j := decide_eq_false_iff_not.1 hf.out.symm
            have HN0 := hide hn0
            clear hn0
            by_cases e : X = Q
            · have be : ((X : Int) == (Q : Int)) = true := by rw [beq_iff_eq]; omega
              have HF2 : Hid (true = decide (Q ∈ LM.take (j + 1))) := hide (by
                symm
                rw [decide_eq_true_iff, HTK.out, List.mem_append, e]
                exact Or.inr (by simp))
              clear e
              go_wp2_with fail
              exact ⟨⟨j + 1, true, by go_num, rfl, by omega, HF2, (by first | rfl | trivial)⟩, by simp [intOf]; omega⟩
            · have be : ((X : Int) == (Q : Int)) = false := by rw [beq_eq_false_iff_ne]; omega
              have HF2 : Hid (false = decide (Q ∈ LM.take (j + 1))) := hide (by
                symm
                rw [decide_eq_false_iff_not, HTK.out, List.mem_append]
                rintro (h | h)
                · exact HN0.out h
                · exact e (List.mem_singleton.1 h).symm)
              clear e
              go_wp2_with fail
              exact ⟨⟨j + 1, false, by go_num, rfl, by omega, HF2, (by first | rfl | trivial)⟩, by simp [intOf]; omega⟩
        · have hltj' : ¬ (j : Int) < (ln : Int) := by omega
          have hft : f = true := by
            rw [hf.out, List.take_of_length_le (by rw [HME2.out]; omega)]
            exact decide_eq_true HQM.out
          subst hft
          go_wp2_with fail
          exact ⟨⟨i + 1, by go_num, by omega, HBd⟩, by simp [intOf]; omega⟩
    · have hlt' : ¬ (i : Int) < (ln : Int) := by omega
      have hbx := hB.out
      obtain ⟨w9, hw9⟩ : ∃ w9, wr = w9 := ⟨_, rfl⟩
      rw [hw9] at hbx ⊢
      clear hw9 hB
      have HB9 := hide (HB8.out.trans (hbx.mono HB8.out.size))
      have HG9 := hide (HG8.out.below hbx HG8.out.lt)
      have HR9 := hide (HR8.out.mono hbx)
      have HD9 := hide (HD8.out.mono hbx)
      have HTZ9 := hide (HTZ8.out.mono hbx)
      have HL9 := hide (HL8.out.mono hbx)
      clear hbx HB8 HG8 HR8 HD8 HTZ8 HL8
      have c9 : w9.cell? ⟨lb, lo + I0, none⟩ = some (.int .i64 (P0 : Nat)) := by
        have := (HL9.out.cell hI0).2
        rw [toI_getD (by rw [HLE.out]; exact hI0), HP0.out] at this
        exact this
      go_wp2_with fail
      refine (HPI.out _).mono ?_
      rintro r w10 ⟨rfl, hw10⟩
      rw [hw10]
      clear hw10
      have HC9 := hide (HPU.out w9 HD9.out HTZ9.out HR9.out)
      go_wp2_with (refine wpList_load_gd rfl (.tmp 3) rfl w.heap.size rfl HG9.out ?_)
      refine HC9.out.mono ?_
      rintro r w10 ⟨cb, cc, rfl, hO, hb⟩
      have HX10 := hide (Rd.of_own hO)
      have hxm := HX10.out.max
      unfold maxLen at hxm
      have hxc := HX10.out.cap
      clear hO HC9 c9
      have HB10 := hide (HB9.out.trans (hb.mono HB9.out.size))
      have HG10 := hide (HG9.out.below hb HG9.out.lt)
      have HR10 := hide (HR9.out.mono hb)
      clear hb HB9 HG9 HR9
      have KZ := Gd.new w10 0 0 none 0 0
      go_upto_region 26 with (refine wpList_store_gd rfl (.tmp 18) (.tmp 129) rfl w10.heap.size rfl rfl KZ ?_; intro w11 S3 kk3)
      have hb : Below w10.heap.size w10 w11 := (((Keeps.refl (fun k => k = w10.heap.size) w10).alloc _).trans kk3).below (Nat.le_refl _) (fun k hk e => by omega)
      have HS11 := hide S3
      clear S3 KZ kk3
      have HB11 := hide (HB10.out.trans (hb.mono HB10.out.size))
      have HG11 := hide (HG10.out.below hb HG10.out.lt)
      have HR11 := hide (HR10.out.mono hb)
      have HX11 := hide (HX10.out.mono hb)
      clear hb HB10 HG10 HR10 HX10
      obtain ⟨ba, oa, rfl, -⟩ := HR11.out.cells (by omega)
      have HCZ : Hid (∀ k, k < n → w11.cell? ⟨ba, oa + k, none⟩ = some (.int .i64 (zs.getD k 0))) := hide (fun k hk => (HR11.out.cell hk).2)
      have HCX : Hid (∀ k, k < n → w11.cell? ⟨cb, k, none⟩ = some (.int .i64 ((pz gW gH zs m P0).getD k 0))) := hide (fun k hk => by have := (HX11.out.cell hk).2; rwa [Nat.zero_add] at this)
      obtain ⟨g0, g1, g2⟩ := HG11.out.cells
      obtain ⟨s0, s1, s2⟩ := HS11.out.cells
      have cx := HCX.out P0 hP0n
      rw [HPZ.out.1] at cx
      have hnn : ((n : Int) != (n : Int)) = false := by simp
      have hmm : ((m : Int) != (m : Int)) = false := by simp
      go_wp2_with fail
      clear cx
      go_loopw [19, 20] (fun u v wr => ∃ (k t q : Nat), v = .int .i64 k ∧ u = .int .i64 t ∧ k ≤ n ∧ t ≤ k ∧ Hid (t = tc zs (pz gW gH zs m P0) P0 k) ∧ wr = w11.drewN q) (fun _ v _ => n - (intOf v).toNat)
      case atStart => exact ⟨0, 0, 0, rfl, rfl, by omega, by omega, hide (by rw [tc_zero]), rfl⟩
      case round =>
        obtain ⟨k, t, q, rfl, rfl, hk, ht, hT, rfl⟩ := hrel
        by_cases hltk : k < n
        · have hltk' : (k : Int) < (n : Int) := by omega
          have cz := HCZ.out k hltk
          have cx := HCX.out k hltk
          have HPK := hide (fun h1 h2 => HPZ.out.2.2.1 k hltk h1 h2)
          have HTS := hide (tc_succ zs (pz gW gH zs m P0) P0 k)
          obtain ⟨z, hz⟩ : ∃ z, zs.getD k 0 = z := ⟨_, rfl⟩
          obtain ⟨x, hx⟩ : ∃ x, (pz gW gH zs m P0).getD k 0 = x := ⟨_, rfl⟩
          rw [hz] at cz HPK HTS
          rw [hx] at cx HPK HTS
          clear hz hx
          by_cases hkp : k = P0
          · have bk : ((k : Int) == (P0 : Int)) = true := by rw [beq_iff_eq]; omega
            have HT2 : Hid (t = tc zs (pz gW gH zs m P0) P0 (k + 1)) := hide (by rw [HTS.out, if_neg (fun h => h.1 hkp), ← hT.out]; rfl)
            clear hkp
            go_wp2
            go_quiet (fail)
            go_wp2
            go_roundw
            case rel => exact ⟨k + 1, t, _, by go_num, rfl, by omega, by omega, HT2, rfl⟩
            case measure => simp [intOf]; omega
          · have bk : ((k : Int) == (P0 : Int)) = false := by rw [beq_eq_false_iff_ne]; omega
            by_cases hxz : x = z
            · have be : (x == z) = true := by simpa using hxz
              have HT2 : Hid (t = tc zs (pz gW gH zs m P0) P0 (k + 1)) := hide (by rw [HTS.out, if_neg (fun h => h.2 hxz), ← hT.out]; rfl)
              clear hxz hkp
              go_wp2
              go_quiet (fail)
              go_wp2
              go_roundw
              case rel => exact ⟨k + 1, t, _, by go_num, rfl, by omega, by omega, HT2, rfl⟩
              case measure => simp [intOf]; omega
            · have be : (x == z) = false := by simpa using hxz
              have HT2 : Hid (t + 1 = tc zs (pz gW gH zs m P0) P0 (k + 1)) := hide (by rw [HTS.out, if_pos ⟨hkp, hxz⟩, ← hT.out])
              obtain ⟨q1, q2⟩ := HPK.out hkp hxz
              have q3 : z = (mo : Int) := by omega
              have q4 : ((mo : Int) != (mo : Int)) = false := by simp
              subst q2 q3
              clear hxz hkp q1
              go_wp2
              go_quiet (fail)
              go_wp2
              go_roundw
              case rel => exact ⟨k + 1, t + 1, _, by go_num, by go_num, by omega, by omega, HT2, rfl⟩
              case measure => simp [intOf]; omega
        · have hltk' : ¬ (k : Int) < (n : Int) := by omega
          have ht1 : 1 ≤ t := by
            rw [hT.out, show k = n by omega]
            exact HTP.out
          have ht2 : (t : Int) ≥ 1 := by omega
          have cz := HCZ.out P0 hP0n
          rw [HPZ.out.2.1] at cz
          go_wp2
          go_ret
          exact ⟨rfl, HB11.out.trans (drewN_below _ _ _)⟩

end Go.Proofs.YtkmghlmniahgbaaDoor
