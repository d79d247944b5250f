/-
  The walk of the law on the boards that a throw brings. No conditions beyond those that each theorem bears.
-/
import Derived.Test.YtmboikpcbkiepaaMvs
import Derived.Test.YtmboikpcbkiepaaMOf
import Derived.Test.YtmboikpcbkiepaaStepsLaw
namespace Go.Proofs.Ytmboikpcbkiepaa
open Go.RowKit

attribute [local irreducible] mvB endsX seenL bo mayG mayP lessO wpB

set_option maxRecDepth 100000 in
set_option maxHeartbeats 4000000 in
theorem moves_state (a : Option Addr) (n c : Nat) (P : List Int) (W B T x y : Int) (w : World) (h : Rd w a n c P) (hr : n * 8 ≤ 140737488351232) (hP : ∀ z ∈ P, -9223372036854775808 ≤ z ∧ z ≤ 9223372036854775807) (hm : mayG P W B T = false) :
    Calls Try.prog 4 #[.agg (gmA a n c W B T), .int .i64 x, .int .i64 y] w fun e w' => e = .returned (.bool true) ∧ Below w.heap.size w w' := by
  have HRD := hide h
  have HP := hide hP
  clear h hP
  go_enter Try.func4, Try.ntmps4
  go_upto_region 1 with fail
  have K3 : Gm (w.alloc (Obj.cells (gmA a n c W B T) 24)) w.heap.size a n c W B T := Gm.new w _ _ _ _ _ _
  have B1 : Below w.heap.size w (w.alloc (Obj.cells (gmA a n c W B T) 24)) := (Below.refl _ w).alloc (Nat.le_refl _) _
  generalize w.alloc (Obj.cells (gmA a n c W B T) 24) = w1 at *
  go_wp2_with (refine wpList_load_gm rfl (.tmp 3) rfl w.heap.size rfl K3 ?_)
  refine (GammonOf_any a n c P W B T _ (HRD.out.mono B1) hr).mono ?_
  rintro e w2 ⟨a1, c1, rfl, R1, hb⟩
  have K32 := K3.below hb K3.lt
  have B2 := B1.trans (hb.mono B1.size)
  clear hb K3 B1
  go_wp2_with fail
  refine (Moves_state a1 n c1 P W B T x y _ R1 HP.out hm).mono ?_
  rintro e w3 ⟨rfl, hb⟩
  have K4 := K32.below hb K32.lt
  have B3 := B2.trans (hb.mono B2.size)
  clear hb K32 B2 R1
  go_wp2_with (refine wpList_load_gm rfl (.tmp 3) rfl w.heap.size rfl K4 ?_)
  refine (GammonMay_any a n c P W B T _ (HRD.out.mono B3)).mono ?_
  rintro e w4 ⟨rfl, hb⟩
  have B4 := B3.trans (hb.mono B3.size)
  clear hb K4 B3
  rw [hm]
  go_wp2_with fail
  go_ret
  exact ⟨rfl, B4⟩

set_option maxRecDepth 100000 in
set_option maxHeartbeats 4000000 in
theorem moves_pips (a : Option Addr) (n c : Nat) (P : List Int) (W B T x y : Int) (w : World) (h : Rd w a n c P) (hr : n * 8 ≤ 140737488351232) (hP : ∀ z ∈ P, -9223372036854775808 ≤ z ∧ z ≤ 9223372036854775807) (hm : mayG P W B T = true) (hxy : wpB x = true ∨ wpB y = true) :
    Calls Try.prog 4 #[.agg (gmA a n c W B T), .int .i64 x, .int .i64 y] w fun e w' => e = .returned (.bool true) ∧ Below w.heap.size w w' := by
  have HXY : Hid (x < 1 ∨ 6 < x ∨ y < 1 ∨ 6 < y) := hide (by
    unfold wpB at hxy
    simp only [decide_eq_true_eq] at hxy
    omega)
  have HWP := hide hxy
  clear hxy
  have HRD := hide h
  have HP := hide hP
  clear h hP
  go_enter Try.func4, Try.ntmps4
  go_upto_region 1 with fail
  have K3 : Gm (w.alloc (Obj.cells (gmA a n c W B T) 24)) w.heap.size a n c W B T := Gm.new w _ _ _ _ _ _
  have B1 : Below w.heap.size w (w.alloc (Obj.cells (gmA a n c W B T) 24)) := (Below.refl _ w).alloc (Nat.le_refl _) _
  generalize w.alloc (Obj.cells (gmA a n c W B T) 24) = w1 at *
  go_wp2_with (refine wpList_load_gm rfl (.tmp 3) rfl w.heap.size rfl K3 ?_)
  refine (GammonOf_any a n c P W B T _ (HRD.out.mono B1) hr).mono ?_
  rintro e w2 ⟨a1, c1, rfl, R1, hb⟩
  have K32 := K3.below hb K3.lt
  have B2 := B1.trans (hb.mono B1.size)
  clear hb K3 B1
  go_wp2_with fail
  refine (Moves_pips a1 n c1 P W B T x y _ R1 HP.out hm HWP.out).mono ?_
  rintro e w3 ⟨rfl, hb⟩
  have K4 := K32.below hb K32.lt
  have B3 := B2.trans (hb.mono B2.size)
  clear hb K32 B2 R1
  go_wp2_with (refine wpList_load_gm rfl (.tmp 3) rfl w.heap.size rfl K4 ?_)
  refine (GammonMay_any a n c P W B T _ (HRD.out.mono B3)).mono ?_
  rintro e w4 ⟨rfl, hb⟩
  have B4 := B3.trans (hb.mono B3.size)
  clear hb K4 B3
  rw [hm]
  have hxy := HXY.out
  clear HXY HWP
  by_cases h1 : x < 1
  · have d1 : decide (x < 1) = true := decide_eq_true h1
    clear hxy
    go_wp2_with fail
    go_ret
    exact ⟨rfl, B4⟩
  · have d1 : decide (x < 1) = false := decide_eq_false h1
    by_cases h2 : 6 < x
    · have d2 : decide (6 < x) = true := decide_eq_true h2
      clear hxy
      go_wp2_with fail
      go_ret
      exact ⟨rfl, B4⟩
    · have d2 : decide (6 < x) = false := decide_eq_false h2
      by_cases h3 : y < 1
      · have d3 : decide (y < 1) = true := decide_eq_true h3
        clear hxy
        go_wp2_with fail
        go_ret
        exact ⟨rfl, B4⟩
      · have d3 : decide (y < 1) = false := decide_eq_false h3
        have h4 : 6 < y := by omega
        have d4 : decide (6 < y) = true := decide_eq_true h4
        clear hxy
        go_wp2_with fail
        go_ret
        exact ⟨rfl, B4⟩

set_option maxRecDepth 100000 in
set_option maxHeartbeats 4000000 in
theorem moves_yes (a : Option Addr) (c : Nat) (P : List Int) (W B : Int) (t x y : Nat) (ht : t ≤ 1) (hx : 1 ≤ x ∧ x ≤ 6) (hy : 1 ≤ y ∧ y ≤ 6) (w : World) (h : Rd w a 26 c P) (hmay : mayP P W B t) :
    Calls Try.prog 4 #[.agg (gmA a 26 c W B t), .int .i64 x, .int .i64 y] w fun e w' => e = .returned (.bool true) ∧ Below w.heap.size w w' := by
  have HRD := hide h
  have HMY := hide hmay
  have HMG : Hid (mayG P W B t = true) := hide (by unfold mayG; exact decide_eq_true hmay)
  have HMV := hide (fun a1 c1 w2 (R : Rd w2 a1 26 c1 P) => Moves_yes a1 c1 P W B t x y ht hx hy w2 R hmay)
  have HMO := hide (fun w2 (R : Rd w2 a 26 c P) => MovesOf_any a c P W B t x y ht hx hy w2 R hmay)
  obtain ⟨BL, hBL⟩ : ∃ BL, mvB t x y [(⟨P, W, B⟩ : Bo)] = BL := ⟨_, rfl⟩
  rw [hBL] at HMV HMO
  obtain ⟨n, hn⟩ : ∃ n, BL.length = n := ⟨_, rfl⟩
  rw [hn] at HMV HMO
  have HLN := hide hn
  obtain ⟨T, hT⟩ : ∃ T : Int, (1 : Int) - (t : Int) = T := ⟨_, rfl⟩
  rw [hT] at HMV HMO
  have d1 : decide ((x : Int) < 1) = false := decide_eq_false (by omega)
  have d2 : decide (6 < (x : Int)) = false := decide_eq_false (by omega)
  have d3 : decide ((y : Int) < 1) = false := decide_eq_false (by omega)
  have d4 : decide (6 < (y : Int)) = false := decide_eq_false (by omega)
  have e1 : ¬ (x : Int) < 1 := by omega
  have e2 : ¬ 6 < (x : Int) := by omega
  have e3 : ¬ (y : Int) < 1 := by omega
  have e4 : ¬ 6 < (y : Int) := by omega
  clear hBL hn hT h hmay
  go_enter Try.func4, Try.ntmps4
  go_upto_region 1 with fail
  have K3 : Gm (w.alloc (Obj.cells (gmA a 26 c W B t) 24)) w.heap.size a 26 c W B t := Gm.new w _ _ _ _ _ _
  have B1 : Below w.heap.size w (w.alloc (Obj.cells (gmA a 26 c W B t) 24)) := (Below.refl _ w).alloc (Nat.le_refl _) _
  generalize w.alloc (Obj.cells (gmA a 26 c W B t) 24) = w1 at *
  go_wp2_with (refine wpList_load_gm rfl (.tmp 3) rfl w.heap.size rfl K3 ?_)
  refine (GammonOf_any a 26 c P W B t _ (HRD.out.mono B1) (by omega)).mono ?_
  rintro e w2 ⟨a1, c1, rfl, R1, hb⟩
  have K32 := K3.below hb K3.lt
  have B2 := B1.trans (hb.mono B1.size)
  clear hb K3 B1
  go_wp2_with fail
  refine (HMV.out a1 c1 _ R1).mono ?_
  rintro e w3 ⟨ga, cap, rfl, hBr, hb⟩
  have K4 := K32.below hb K32.lt
  have B3 := B2.trans (hb.mono B2.size)
  clear hb K32 B2 R1
  have hBr0 := hBr.2.1
  have hBr1 := hBr.2.2.1
  unfold maxLen at hBr1
  have HBr := hide hBr
  clear hBr
  go_wp2_with (refine wpList_load_gm rfl (.tmp 3) rfl w.heap.size rfl K4 ?_)
  refine (GammonMay_any a 26 c P W B t _ (HRD.out.mono B3)).mono ?_
  rintro e w4 ⟨rfl, hb⟩
  have K5 := K4.below hb K4.lt
  have B4 := B3.trans (hb.mono B3.size)
  have HBr4 := hide (HBr.out.mono hb)
  clear hb K4 B3 HBr
  rw [HMG.out]
  go_wp2_with (refine wpList_load_gm rfl (.tmp 3) rfl w.heap.size rfl K5 ?_)
  refine (HMO.out _ (HRD.out.mono B4)).mono ?_
  rintro e w5 ⟨a', c', rfl, hBs, hb⟩
  have HB5 := hide (B4.trans (hb.mono B4.size))
  have HBr5 := hide (HBr4.out.mono hb)
  have HBs := hide hBs
  clear hb K5 B4 HBr4 hBs d1 d2 d3 d4 e1 e2 e3 e4
  go_wp2_with fail
  go_loopw [11] (fun v wr => ∃ k : Nat, v = .int .i64 k ∧ k ≤ n ∧ Hid (Below w5.heap.size w5 wr)) (fun v _ => n - (intOf v).toNat)
  case atStart => exact ⟨0, rfl, by omega, hide (Below.refl _ _)⟩
  case round =>
    obtain ⟨k, rfl, hk, hB⟩ := hrel
    by_cases hlt : k < n
    · have hlt' : (k : Int) < (n : Int) := by omega
      have hne : BL ≠ [] := by
        intro e
        have := HLN.out
        rw [e] at this
        simp at this
        omega
      obtain ⟨a2, c2, e2, hca, hcb, hg2⟩ := HBs.out.form
      simp only [Value.slice.injEq] at e2
      obtain ⟨rfl, -, rfl⟩ := e2
      obtain ⟨gb, rfl⟩ := hg2 hne
      rw [HLN.out] at hca
      unfold maxLen at hcb
      obtain ⟨g1, c1', hr1, hR1⟩ := (HBr5.out.mono hB.out).2.2.2 k (by rw [HLN.out]; exact hlt)
      obtain ⟨g2, c2', hr2, hR2⟩ := (HBs.out.br.mono hB.out).2.2.2 k (by rw [HLN.out]; exact hlt)
      have hl1 : ga < wr.heap.size := World.block_lt_of_cell? wr _ (hr1 0 _ rfl)
      have hl2 : gb < wr.heap.size := World.block_lt_of_cell? wr _ (hr2 0 _ rfl)
      obtain ⟨q, hq⟩ : ∃ q, BL.getD k b0 = q := ⟨_, rfl⟩
      rw [hq] at hr1 hr2 hR1 hR2
      have HG1 := hide (fun W5 (hW : Below wr.heap.size wr W5) => (fun i v hv => (hW.cell (p := ⟨ga, 4 * k + i, none⟩) hl1).trans (hr1 i v hv) : W5.rangeAt ga (4 * k) (bv g1 c1' q T)))
      have HG2 := hide (fun W5 (hW : Below wr.heap.size wr W5) => (fun i v hv => (hW.cell (p := ⟨gb, 4 * k + i, none⟩) hl2).trans (hr2 i v hv) : W5.rangeAt gb (4 * k) (bv g2 c2' q T)))
      have HSM := hide (fun W5 (hW : Below wr.heap.size wr W5) => SameGammon_yes (some ⟨g1, 0, none⟩) (some ⟨g2, 0, none⟩) c1' c2' q.P q.W q.B T W5 (hR1.mono hW) (hR2.mono hW))
      clear hq hr1 hr2 hR1 hR2 hl1 hl2 hne hg2
      go_wp2_with fail
      have SW : Below wr.heap.size wr wr.drew := (Below.refl _ wr).drew
      refine wp_region_held (S := fun W5 => Below wr.heap.size wr W5) (by kernel_rfl) ?_
      change wpAnyH _ _ _ _ _ _ _ _ (World.drew _)
      refine wpAnyH_take (i := 0) (v := .slice (some ⟨ga, 0, none⟩) n cap) rfl (by kernel_rfl) (by kernel_rfl) (by kernel_rfl) (fun _ _ _ h => h) (Or.inl ⟨by rfl, ?_⟩) SW ?_
      · intro W5 _
        go_simp <;> first | done | rfl | (rw [IntKind.wrap_i64]; omega) | (intro hh; exfalso; omega) | (congr 3; omega) | (simp; omega)
      go_simp
      refine wpAnyH_take (i := 1) (v := .int .i64 k) rfl (by kernel_rfl) (by kernel_rfl) (by kernel_rfl) (fun _ _ _ h => h) (Or.inl ⟨by rfl, ?_⟩) SW ?_
      · intro W5 _
        go_simp <;> first | done | rfl | (rw [IntKind.wrap_i64]; omega) | (intro hh; exfalso; omega) | (congr 3; omega) | (simp; omega)
      go_simp
      refine wpAnyH_take (i := 2) (v := .pointer (some ⟨ga, 4 * k, none⟩)) rfl (by kernel_rfl) (by kernel_rfl) (by kernel_rfl) (fun _ _ _ h => h) (Or.inl ⟨by rfl, ?_⟩) SW ?_
      · intro W5 _
        go_simp <;> first | done | rfl | (rw [IntKind.wrap_i64]; omega) | (intro hh; exfalso; omega) | (congr 3; omega) | (simp; omega)
      go_simp
      refine wpAnyH_take (i := 3) (v := .agg (bv g1 c1' q T).toArray) rfl (by kernel_rfl) (by kernel_rfl) (by kernel_rfl) (fun _ _ _ h => h) (yieldsIf_load_mid (by rfl) 24 _ rfl ga (4 * k) (by rfl) (bv g1 c1' q T) _ (fun W hW => HG1.out W hW) Try.underlying24 rfl size24) SW ?_
      go_simp
      refine wpAnyH_take (i := 4) (v := .slice (some ⟨gb, 0, none⟩) n c') rfl (by kernel_rfl) (by kernel_rfl) (by kernel_rfl) (fun _ _ _ h => h) (Or.inl ⟨by rfl, ?_⟩) SW ?_
      · intro W5 _
        go_simp <;> first | done | rfl | (rw [IntKind.wrap_i64]; omega) | (intro hh; exfalso; omega) | (congr 3; omega) | (simp; omega)
      go_simp
      refine wpAnyH_take (i := 5) (v := .int .i64 k) rfl (by kernel_rfl) (by kernel_rfl) (by kernel_rfl) (fun _ _ _ h => h) (Or.inl ⟨by rfl, ?_⟩) SW ?_
      · intro W5 _
        go_simp <;> first | done | rfl | (rw [IntKind.wrap_i64]; omega) | (intro hh; exfalso; omega) | (congr 3; omega) | (simp; omega)
      go_simp
      refine wpAnyH_take (i := 6) (v := .pointer (some ⟨gb, 4 * k, none⟩)) rfl (by kernel_rfl) (by kernel_rfl) (by kernel_rfl) (fun _ _ _ h => h) (Or.inl ⟨by rfl, ?_⟩) SW ?_
      · intro W5 _
        go_simp <;> first | done | rfl | (rw [IntKind.wrap_i64]; omega) | (intro hh; exfalso; omega) | (congr 3; omega) | (simp; omega)
      go_simp
      refine wpAnyH_take (i := 7) (v := .agg (bv g2 c2' q T).toArray) rfl (by kernel_rfl) (by kernel_rfl) (by kernel_rfl) (fun _ _ _ h => h) (yieldsIf_load_mid (by rfl) 24 _ rfl gb (4 * k) (by rfl) (bv g2 c2' q T) _ (fun W hW => HG2.out W hW) Try.underlying24 rfl size24) SW ?_
      go_simp
      refine wpAnyH_ready (rs := [8]) (by kernel_rfl) (by simp) ?_
      refine AllReadyH.cons rfl (fun K1 hK1 => ?_) AllReadyH.nil
      go_simp
      refine (HSM.out _ SW).mono ?_
      rintro e w6 ⟨rfl, hb6⟩
      refine hK1.out _ _ (SW.trans (hb6.mono SW.size)) (fun SW => ?_)
      clear hK1 K1
      go_simp
      refine wpAnyH_take (i := 9) (v := .bool false) rfl (by kernel_rfl) (by kernel_rfl) (by kernel_rfl) (fun _ _ _ h => h) (Or.inl ⟨by rfl, ?_⟩) SW ?_
      · intro W5 _
        go_simp <;> first | done | rfl | (rw [IntKind.wrap_i64]; omega) | (intro hh; exfalso; omega) | (congr 3; omega) | (simp; omega)
      go_simp
      refine wpAnyH_done (by kernel_rfl) ?_ _
      have HB6 := hide (hB.out.trans (SW.mono hB.out.size))
      clear SW hb6
      go_wp2_with fail
      exact ⟨⟨k + 1, by go_num, by omega, HB6⟩, by simp [intOf]; omega⟩
    · have hlt' : ¬ (k : Int) < (n : Int) := by omega
      have HB6 := hide (HB5.out.trans (hB.out.mono HB5.out.size))
      go_wp2_with fail
      go_ret
      exact ⟨rfl, HB6.out⟩

theorem moves_any (a : Option Addr) (n c : Nat) (P : List Int) (W B T x y : Int) (w : World) (h : Rd w a n c P) (hr : n * 8 ≤ 140737488351232) (hP : ∀ z ∈ P, -9223372036854775808 ≤ z ∧ z ≤ 9223372036854775807) :
    Calls Try.prog 4 #[.agg (gmA a n c W B T), .int .i64 x, .int .i64 y] w fun e w' => e = .returned (.bool true) ∧ Below w.heap.size w w' := by
  cases hm : mayG P W B T with
  | false => exact moves_state a n c P W B T x y w h hr hP hm
  | true =>
    by_cases hp : wpB x = true ∨ wpB y = true
    · exact moves_pips a n c P W B T x y w h hr hP hm hp
    · have hmay : mayP P W B T := by unfold mayG at hm; exact of_decide_eq_true hm
      have hxy : (1 ≤ x ∧ x ≤ 6) ∧ 1 ≤ y ∧ y ≤ 6 := by
        unfold wpB at hp
        simp only [decide_eq_true_eq] at hp
        omega
      have hT := hmay.T1
      have hl : n = 26 := by
        have := h.len
        unfold mayP at hmay
        omega
      subst hl
      obtain ⟨t, rfl⟩ : ∃ t : Nat, T = t := ⟨T.toNat, by omega⟩
      obtain ⟨x', rfl⟩ : ∃ z : Nat, x = z := ⟨x.toNat, by omega⟩
      obtain ⟨y', rfl⟩ : ∃ z : Nat, y = z := ⟨y.toNat, by omega⟩
      exact moves_yes a c P W B t x' y' (by omega) (by omega) (by omega) w h hmay

end Go.Proofs.Ytmboikpcbkiepaa
