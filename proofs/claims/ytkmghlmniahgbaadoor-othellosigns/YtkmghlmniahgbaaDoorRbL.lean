/-
  What the document says is best, so many moves deep: where nothing is looked ahead. No conditions beyond those that each theorem bears.
-/
import Derived.Test.YtkmghlmniahgbaaDoorRbD
namespace Go.Proofs.YtkmghlmniahgbaaDoor
open Go.RowKit

attribute [local irreducible] ob pz sps psN psY ldj

set_option maxRecDepth 100000 in
set_option maxHeartbeats 16000000 in
theorem rb_lead (gW gH n l : Nat) (zs : List Int) (m : Nat) (b : Og gW gH n zs) (hm : m = 1 ∨ m = 2) (hl : l ≤ 6) (hv : ob gW gH l zs m = (ldd gW gH zs m, none)) (hc : l = 0 ∨ (l ≠ 0 ∧ sps gW gH zs m = [] ∧ sps gW gH zs (3 - m) = [])) : RbAt gW gH n l zs m := by
  intro a c w h
  rw [hv]
  have hn64 := b.n64
  have hcm := h.max
  unfold maxLen at hcm
  have hcc := h.cap
  have HSPA := hide (fun m' (hm' : m' = 1 ∨ m' = 2) W1 (hR : Rd W1 a n c zs) => SignPlaces_any gW gH a n c zs m' W1 hR b hm')
  have HMM := hide hm
  obtain ⟨mo, hmo⟩ : ∃ mo, 3 - m = mo := ⟨_, rfl⟩
  have h3a : (3 : Int) - (m : Int) = (mo : Int) := by omega
  have HMO := hide hmo
  have HMM2 : Hid (mo = 1 ∨ mo = 2) := hide (by omega)
  have hmb : m ≤ 2 := by omega
  have hmob : mo ≤ 2 := by omega
  have HMUL := hide b.mul
  have HLB : Hid (∀ j, j ≤ n → -64 ≤ ldj zs m mo j ∧ ldj zs m mo j ≤ 64) := hide (fun j hj => ldj_bd zs m mo j (by omega))
  have HNE : Hid (m ≠ mo) := hide (by omega)
  obtain ⟨R, hR⟩ : ∃ R, ldd gW gH zs m = R := ⟨_, rfl⟩
  have HRR : Hid (ldj zs m mo n = R) := hide (by rw [← hmo, ← b.mul, ldj_all, hR])
  rw [hR]
  have HGO : Hid (((l : Int) == 0) = true ∨ (((l : Int) == 0) = false ∧ (((sps gW gH zs m).length : Int) == 0) = true ∧ (((sps gW gH zs mo).length : Int) == 0) = true)) := hide (by
    rcases hc with e | ⟨e1, e2, e3⟩
    · exact Or.inl (by rw [beq_iff_eq]; omega)
    · refine Or.inr ⟨by rw [beq_eq_false_iff_ne]; omega, by rw [e2]; rfl, ?_⟩
      rw [hmo] at e3
      rw [e3]; rfl)
  obtain ⟨w1, hw1⟩ : ∃ w1, w.alloc (.cells (gdA gW gH a n c) 24) = w1 := ⟨_, rfl⟩
  have HB1 : Hid (Below w.heap.size w w1) := hide (by rw [← hw1]; exact (Below.refl _ _).alloc (Nat.le_refl _) _)
  have HG1 : Hid (Gd w1 w.heap.size gW gH a n c) := hide (by rw [← hw1]; exact Gd.new _ _ _ _ _ _)
  have HR1 := hide (h.mono HB1.out)
  clear hv hc hR hmo hm h b
  go_enter Tryd.func24, Tryd.ntmps24
  go_upto_region 1 with fail
  clear hw1
  have HGR1 : Hid (∀ W4, Below w1.heap.size w1 W4 → W4.rangeAt w.heap.size 0 [.int .i64 gW, .int .i64 gH, .slice a n c]) := hide (fun W4 hb => (HG1.out.below hb HG1.out.lt).range)
  refine wp_region_held (S := fun W4 => Below w1.heap.size w1 W4) (by kernel_rfl) ?_
  change wpAnyH _ _ _ _ _ _ _ _ (World.drew _)
  have SW : Below w1.heap.size w1 w1.drew := (Below.refl _ w1).drew
  refine wpAnyH_take (i := 0) (v := .agg (gdA gW gH a n c)) rfl (by kernel_rfl) (by kernel_rfl) (by kernel_rfl) (fun _ _ _ h => h) (yieldsIf_load_mid (by rfl) 24 _ rfl w.heap.size 0 (by rfl) [.int .i64 gW, .int .i64 gH, .slice a n c] _ (fun W hW => HGR1.out W hW) Tryd.underlying24 rfl size24) SW ?_
  go_simp
  refine wpAnyH_take (i := 1) (v := .int .i64 (m : Nat)) rfl (by kernel_rfl) (by kernel_rfl) (by kernel_rfl) (fun _ _ _ h => h) (Or.inl ⟨by rfl, ?_⟩) SW ?_
  · intro W4 hW4
    go_simp <;> first | done | rfl | (rw [IntKind.wrap_i64]; omega) | omega
  go_simp
  refine wpAnyH_take (i := 3) (v := .agg (gdA gW gH a n c)) rfl (by kernel_rfl) (by kernel_rfl) (by kernel_rfl) (fun _ _ _ h => h) (yieldsIf_load_mid (by rfl) 24 _ rfl w.heap.size 0 (by rfl) [.int .i64 gW, .int .i64 gH, .slice a n c] _ (fun W hW => HGR1.out W hW) Tryd.underlying24 rfl size24) SW ?_
  go_simp
  refine wpAnyH_take (i := 4) (v := .int .i64 (m : Nat)) rfl (by kernel_rfl) (by kernel_rfl) (by kernel_rfl) (fun _ _ _ h => h) (Or.inl ⟨by rfl, ?_⟩) SW ?_
  · intro W4 hW4
    go_simp <;> first | done | rfl | (rw [IntKind.wrap_i64]; omega) | omega
  go_simp
  refine wpAnyH_take (i := 5) (v := .int .i64 (mo : Nat)) rfl (by kernel_rfl) (by kernel_rfl) (by kernel_rfl) (fun _ _ _ h => h) (Or.inl ⟨by rfl, ?_⟩) SW ?_
  · intro W4 hW4
    have hx := h3a
    go_simp <;> first | done | rfl | (rw [IntKind.wrap_i64]; omega) | omega
  go_simp
  refine wpAnyH_ready (rs := [2]) (by kernel_rfl) (by simp) ?_
  refine AllReadyH.cons rfl (fun K1 hK1 => ?_) AllReadyH.nil
  go_simp
  refine (HSPA.out m HMM.out _ (HR1.out.mono SW)).mono ?_
  rintro r lw ⟨la, lc, rfl, hlR, hbl⟩
  have Bl := SW.trans (hbl.mono SW.size)
  refine hK1.out _ _ Bl (fun SW => ?_)
  clear hK1 K1
  go_simp
  refine wpAnyH_ready (rs := [6]) (by kernel_rfl) (by simp) ?_
  refine AllReadyH.cons rfl (fun K1 hK1 => ?_) AllReadyH.nil
  go_simp
  refine (HSPA.out mo HMM2.out _ (HR1.out.mono SW)).mono ?_
  rintro r kw ⟨ka, kc, rfl, hkR, hbk⟩
  have Bk := SW.trans (hbk.mono SW.size)
  refine hK1.out _ _ Bk (fun SW => ?_)
  clear hK1 K1
  go_simp
  refine wpAnyH_ready (rs := [7]) (by kernel_rfl) (by simp) ?_
  refine AllReadyH.cons rfl (fun K1 hK1 => ?_) AllReadyH.nil
  go_simp
  refine hK1.out _ _ SW (fun SW => ?_)
  clear hK1 K1
  go_simp
  refine wpAnyH_ready (rs := [8]) (by kernel_rfl) (by simp) ?_
  refine AllReadyH.cons rfl (fun K1 hK1 => ?_) AllReadyH.nil
  go_simp
  refine hK1.out _ _ SW (fun SW => ?_)
  clear hK1 K1
  go_simp
  refine wpAnyH_done (by kernel_rfl) ?_ _
  obtain ⟨w3, hw3⟩ : ∃ w3, kw = w3 := ⟨_, rfl⟩
  have HLO : Hid (Rd w3 la (sps gW gH zs m).length lc (toI (sps gW gH zs m))) := hide (by rw [← hw3]; exact hlR.mono hbk)
  have HLT : Hid (Rd w3 ka (sps gW gH zs mo).length kc (toI (sps gW gH zs mo))) := hide (by rw [← hw3]; exact hkR)
  have HB3 : Hid (Below w1.heap.size w1 w3) := hide (by rw [← hw3]; exact Bk)
  rw [hw3]
  clear hw3 hlR hkR hbl hbk Bl Bk SW
  obtain ⟨ba, oa, rfl, -⟩ := HR1.out.cells (by omega)
  have hsl := sps_len gW gH zs m
  rw [HMUL.out] at hsl
  have hslo := sps_len gW gH zs mo
  rw [HMUL.out] at hslo
  have HG3 := hide (HG1.out.below HB3.out HG1.out.lt)
  have HC3 : Hid (∀ i, i < n → w3.cell? ⟨ba, oa + i, none⟩ = some (.int .i64 (zs.getD i 0))) := hide (fun i hi => ((HR1.out.mono HB3.out).cell hi).2)
  have hgo := HGO.out
  have hl1 := HLO.out.max
  have hl2 := HLT.out.max
  unfold maxLen at hl1 hl2
  generalize (sps gW gH zs m).length = ln1 at *
  generalize (sps gW gH zs mo).length = ln2 at *
  obtain ⟨g0, g1, g2⟩ := HG3.out.cells
  clear HLO HLT HSPA
  have MAIN : True := trivial
  rcases hgo with hg | ⟨hg, hg2, hg3⟩
  · go_wp2_with fail
    clear g0 g1 g2
    go_loopw [10, 11] (fun u v wr => ∃ (j : Nat) (s : Int), v = .int .i64 j ∧ u = .int .i64 s ∧ j ≤ n ∧ -100 ≤ s ∧ s ≤ 100 ∧ Hid (s = ldj zs m mo j) ∧ w3 = wr) (fun _ v _ => n - (intOf v).toNat)
    case atStart => exact ⟨0, 0, rfl, rfl, by omega, by omega, by omega, hide (by rw [ldj_zero]), rfl⟩
    case round =>
      obtain ⟨j, s, rfl, rfl, hj, hs1, hs2, hS, rfl⟩ := hrel
      obtain ⟨g0, g1, g2⟩ := HG3.out.cells
      by_cases hlt : j < n
      · have hlt' : (j : Int) < (n : Int) := by omega
        have cj := HC3.out j hlt
        have HSU := hide (ldj_succ zs m mo j)
        have hbj := HLB.out (j + 1) (by omega)
        obtain ⟨z, hz⟩ : ∃ z, zs.getD j 0 = z := ⟨_, rfl⟩
        rw [hz] at cj HSU
        rw [HSU.out, ← hS.out] at hbj
        clear hz
        by_cases e1 : z = (m : Int)
        · have b1 : (z == (m : Int)) = true := by simpa using e1
          have b2 : (z == (mo : Int)) = false := by have := HNE.out; rw [beq_eq_false_iff_ne]; omega
          have HN2 : Hid (s + 1 = ldj zs m mo (j + 1)) := hide (by rw [HSU.out, ← hS.out, if_pos e1, if_neg (by have := HNE.out; omega)]; omega)
          rw [if_pos e1, if_neg (by have := HNE.out; omega)] at hbj
          clear e1
          go_wp2_with fail
          exact ⟨⟨j + 1, s + 1, by go_num, rfl, by omega, by omega, by omega, HN2, trivial⟩, by simp [intOf]; omega⟩
        · have b1 : (z == (m : Int)) = false := by simpa using e1
          by_cases e2 : z = (mo : Int)
          · have b2 : (z == (mo : Int)) = true := by simpa using e2
            have HN2 : Hid (s - 1 = ldj zs m mo (j + 1)) := hide (by rw [HSU.out, ← hS.out, if_neg e1, if_pos e2]; omega)
            rw [if_neg e1, if_pos e2] at hbj
            clear e1 e2
            go_wp2_with fail
            exact ⟨⟨j + 1, s - 1, by go_num, rfl, by omega, by omega, by omega, HN2, trivial⟩, by simp [intOf]; omega⟩
          · have b2 : (z == (mo : Int)) = false := by simpa using e2
            have HN2 : Hid (s = ldj zs m mo (j + 1)) := hide (by rw [HSU.out, ← hS.out, if_neg e1, if_neg e2]; omega)
            clear e1 e2
            go_wp2_with fail
            exact ⟨⟨j + 1, s, by go_num, rfl, by omega, by omega, by omega, HN2, trivial⟩, by simp [intOf]; omega⟩
      · have hlt' : ¬ (j : Int) < (n : Int) := by omega
        have HE : Hid (s = R) := hide (by rw [hS.out, show j = n by omega]; exact HRR.out)
        obtain rfl := HE.out
        go_wp2_with fail
        go_ret2
        exact ⟨rfl, HB1.out.trans (HB3.out.mono HB1.out.size)⟩
  · go_wp2_with fail
    clear g0 g1 g2
    go_loopw [10, 11] (fun u v wr => ∃ (j : Nat) (s : Int), v = .int .i64 j ∧ u = .int .i64 s ∧ j ≤ n ∧ -100 ≤ s ∧ s ≤ 100 ∧ Hid (s = ldj zs m mo j) ∧ w3 = wr) (fun _ v _ => n - (intOf v).toNat)
    case atStart => exact ⟨0, 0, rfl, rfl, by omega, by omega, by omega, hide (by rw [ldj_zero]), rfl⟩
    case round =>
      obtain ⟨j, s, rfl, rfl, hj, hs1, hs2, hS, rfl⟩ := hrel
      obtain ⟨g0, g1, g2⟩ := HG3.out.cells
      by_cases hlt : j < n
      · have hlt' : (j : Int) < (n : Int) := by omega
        have cj := HC3.out j hlt
        have HSU := hide (ldj_succ zs m mo j)
        have hbj := HLB.out (j + 1) (by omega)
        obtain ⟨z, hz⟩ : ∃ z, zs.getD j 0 = z := ⟨_, rfl⟩
        rw [hz] at cj HSU
        rw [HSU.out, ← hS.out] at hbj
        clear hz
        by_cases e1 : z = (m : Int)
        · have b1 : (z == (m : Int)) = true := by simpa using e1
          have b2 : (z == (mo : Int)) = false := by have := HNE.out; rw [beq_eq_false_iff_ne]; omega
          have HN2 : Hid (s + 1 = ldj zs m mo (j + 1)) := hide (by rw [HSU.out, ← hS.out, if_pos e1, if_neg (by have := HNE.out; omega)]; omega)
          rw [if_pos e1, if_neg (by have := HNE.out; omega)] at hbj
          clear e1
          go_wp2_with fail
          exact ⟨⟨j + 1, s + 1, by go_num, rfl, by omega, by omega, by omega, HN2, trivial⟩, by simp [intOf]; omega⟩
        · have b1 : (z == (m : Int)) = false := by simpa using e1
          by_cases e2 : z = (mo : Int)
          · have b2 : (z == (mo : Int)) = true := by simpa using e2
            have HN2 : Hid (s - 1 = ldj zs m mo (j + 1)) := hide (by rw [HSU.out, ← hS.out, if_neg e1, if_pos e2]; omega)
            rw [if_neg e1, if_pos e2] at hbj
            clear e1 e2
            go_wp2_with fail
            exact ⟨⟨j + 1, s - 1, by go_num, rfl, by omega, by omega, by omega, HN2, trivial⟩, by simp [intOf]; omega⟩
          · have b2 : (z == (mo : Int)) = false := by simpa using e2
            have HN2 : Hid (s = ldj zs m mo (j + 1)) := hide (by rw [HSU.out, ← hS.out, if_neg e1, if_neg e2]; omega)
            clear e1 e2
            go_wp2_with fail
            exact ⟨⟨j + 1, s, by go_num, rfl, by omega, by omega, by omega, HN2, trivial⟩, by simp [intOf]; omega⟩
      · have hlt' : ¬ (j : Int) < (n : Int) := by omega
        have HE : Hid (s = R) := hide (by rw [hS.out, show j = n by omega]; exact HRR.out)
        obtain rfl := HE.out
        go_wp2_with fail
        go_ret2
        exact ⟨rfl, HB1.out.trans (HB3.out.mono HB1.out.size)⟩

end Go.Proofs.YtkmghlmniahgbaaDoor
