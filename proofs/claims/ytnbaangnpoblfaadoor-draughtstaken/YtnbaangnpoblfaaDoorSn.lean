/-
  How the mover sees a board, walked. No conditions beyond those that each theorem bears.
-/
import Derived.Test.YtnbaangnpoblfaaDoorMay
import Derived.Test.YtnbaangnpoblfaaDoorAf
namespace Go.Proofs.YtnbaangnpoblfaaDoor
open Go.RowKit Go.Shelf

theorem build60t (m : Int) (w : World) : (Instr.build 60 #[(3, .int .i64 m)]).run Tryd.prog w = .ok (.agg #[.int .u64 0, .int .u64 0, .int .u64 0, .int .i64 m]) w := by
  simp [Instr.build, go_sem, run_underlying Tryd.underlying60]

theorem snK_zero (Z : List Int) (t : Nat) : bdL (snK Z t 0) = [.int .u64 0, .int .u64 0, .int .u64 0, .int .i64 (t : Nat)] := rfl

theorem mk_pow_lt {P : Nat → Bool} {k : Nat} (hk : k ≤ 32) : mkT P k < 2 ^ 64 := (mk_sub P k hk).lt64
theorem pow_bitn_lt {k : Nat} (hk : k ≤ 32) : 2 ^ bitn k < 2 ^ 64 := Nat.pow_lt_pow_right (by omega) (by have := bitn_lt hk; omega)

theorem sn_nobody {Z : List Int} {t k : Nat} (ht : t = 1 ∨ t = 2) (h : own3 (Z.getD (k + 1) 0) = 0) : snK Z t (k + 1) = snK Z t k := by
  have hz : Z.getD (k + 1) 0 = 0 := by rcases own3_cases (Z.getD (k + 1) 0) with ⟨a, _⟩ | ⟨a, _⟩ | ⟨_, b⟩ <;> omega
  have h1 : isO Z t (k + 1) = false := by unfold isO; rw [h]; simp; omega
  have h2 : isO Z (3 - t) (k + 1) = false := by unfold isO; rw [h]; simp; omega
  have h3 : isK Z (k + 1) = false := by unfold isK; rw [hz]; simp
  unfold snK
  rw [mkT_succ, mkT_succ, mkT_succ, h1, h2, h3]
  simp

/-- The king's bit. -/
def kg (Z : List Int) (k m : Nat) : Nat := if isK Z (k + 1) = true then m ||| 2 ^ bitn (k + 1) else m
theorem sn_own {Z : List Int} {t k : Nat} (_ht : t = 1 ∨ t = 2) (h : own3 (Z.getD (k + 1) 0) = t) : snK Z t (k + 1) = ⟨mkT (isO Z t) k ||| 2 ^ bitn (k + 1), mkT (isO Z (3 - t)) k, kg Z k (mkT (isK Z) k), t⟩ := by
  have h1 : isO Z t (k + 1) = true := by unfold isO; rw [h]; simp
  have h2 : isO Z (3 - t) (k + 1) = false := by unfold isO; rw [h]; simp; omega
  unfold snK kg
  rw [mkT_succ, mkT_succ, mkT_succ, h1, h2]
  simp
theorem sn_oth {Z : List Int} {t k : Nat} (_ht : t = 1 ∨ t = 2) (h : own3 (Z.getD (k + 1) 0) = 3 - t) : snK Z t (k + 1) = ⟨mkT (isO Z t) k, mkT (isO Z (3 - t)) k ||| 2 ^ bitn (k + 1), kg Z k (mkT (isK Z) k), t⟩ := by
  have h1 : isO Z t (k + 1) = false := by unfold isO; rw [h]; simp; omega
  have h2 : isO Z (3 - t) (k + 1) = true := by unfold isO; rw [h]; simp
  unfold snK kg
  rw [mkT_succ, mkT_succ, mkT_succ, h1, h2]
  simp

attribute [local irreducible] own3 snK mkT isK isO bitn kg
attribute [local go_sem] build60t

set_option maxRecDepth 100000 in
set_option maxHeartbeats 8000000 in
theorem seen_any (t : Nat) (a : Option Addr) (c : Nat) (Z : List Int) (w : World) (h : Rd w a 33 c Z) (ht : t = 1 ∨ t = 2) :
    Calls Tryd.prog 34 #[.agg (dgA a 33 c (t : Nat))] w fun e w' => e = .returned (.agg (bdL (sn Z t)).toArray) ∧ Below w.heap.size w w' := by
  obtain ⟨w1, hw1⟩ : ∃ w1, (w.alloc (.cells (dgA a 33 c (t : Nat)) 24)).alloc (.cells #[.int .u64 0, .int .u64 0, .int .u64 0, .int .i64 0] 60) = w1 := ⟨_, rfl⟩
  have HB1 : Hid (Below w.heap.size w w1) := hide (by rw [← hw1]; exact ((Below.refl _ _).alloc (Nat.le_refl _) _).alloc (by simp) _)
  have G1 : Dg w1 w.heap.size a 33 c (t : Nat) := by rw [← hw1]; exact (Dg.new _ _ _ _ _).old _
  have HVR : Hid (Vb w1 (w.heap.size + 1) 60 (bdL ⟨0, 0, 0, 0⟩)) := hide (by
    rw [← hw1]
    have := Vb.new (w.alloc (.cells (dgA a 33 c (t : Nat)) 24)) 60 [.int .u64 0, .int .u64 0, .int .u64 0, .int .i64 0]
    rw [World.size_alloc] at this
    exact this)
  have hs1 : w1.heap.size = w.heap.size + 2 := by rw [← hw1]; simp
  have HS1 := hide hs1
  have R1 := h.mono HB1.out
  have hcm := h.max
  have hcap := h.cap
  unfold maxLen at hcm
  obtain ⟨ba, oa, rfl, hca⟩ := R1.cells (by omega)
  have hba : ba < w1.heap.size := R1.blt (by omega)
  obtain ⟨g0, g1⟩ := G1.cells
  have HG1 := hide G1
  have HR1 := hide R1
  have HSN : Hid (sn Z t = snK Z t 32) := hide rfl
  obtain ⟨RS, hRS⟩ : ∃ RS, sn Z t = RS := ⟨_, rfl⟩
  rw [hRS] at HSN ⊢
  have HT := hide ht
  have ht2 : t ≤ 2 := by omega
  clear h R1 hca G1 ht hRS hs1
  go_enter Tryd.func34, Tryd.ntmps34
  go_upto_region 1 with fail
  clear hw1
  go_upto_region 2 with fail
  obtain ⟨w2, hw2⟩ : ∃ w2, w1.alloc (.cells #[.int .u64 0, .int .u64 0, .int .u64 0, .int .i64 (t : Nat)] 60) = w2 := ⟨_, rfl⟩
  have HV2 : Hid (Vb w2 w1.heap.size 60 (bdL (snK Z t 0))) := hide (by rw [← hw2, snK_zero]; exact Vb.new _ _ _)
  have HB2 : Hid (Below w1.heap.size w1 w2) := hide (by rw [← hw2]; exact (Below.refl _ _).alloc (Nat.le_refl _) _)
  rw [hw2]
  clear hw2 g0 g1
  go_wp2_with fail
  go_loopw [4] (fun v wr => ∃ k : Nat, v = .int .i64 ((k : Int) + 1) ∧ k ≤ 32 ∧ Hid (Vb wr w1.heap.size 60 (bdL (snK Z t k))) ∧ Hid (Keeps (fun q => q = w1.heap.size) w2 wr)) (fun v _ => 33 - (intOf v).toNat)
  case atStart => exact ⟨0, rfl, by omega, HV2, hide (Keeps.refl _ _)⟩
  case round =>
    obtain ⟨k, rfl, hk, hV, hK⟩ := hrel
    have HKB : Hid (Below w1.heap.size w1 wr) := hide (HB2.out.trans (hK.out.below HB2.out.size (fun q hq e => by omega)))
    by_cases hk2 : k < 32
    · have hle : (k : Int) + 1 ≤ 32 := by omega
      obtain ⟨g0, g1⟩ := (HG1.out.below HKB.out HG1.out.lt).cells
      have cz := ((HR1.out.mono HKB.out).cell (i := k + 1) (by omega)).2
      have hk1 : (k : Int) + 1 = ((k + 1 : Nat) : Int) := by omega
      have HPO := hide (fun W => placeOf_any (k + 1) (by omega) (by omega) W)
      obtain ⟨x, hx⟩ : ∃ x, Z.getD (k + 1) 0 = x := ⟨_, rfl⟩
      have HX := hide hx
      have HN := hide (fun h => sn_nobody (Z := Z) (t := t) (k := k) HT.out h)
      have HO := hide (fun h => sn_own (Z := Z) (t := t) (k := k) HT.out h)
      have HE := hide (fun h => sn_oth (Z := Z) (t := t) (k := k) HT.out h)
      have HKG : Hid (∀ m, kg Z k m = if isK Z (k + 1) = true then m ||| 2 ^ bitn (k + 1) else m) := hide (fun m => by unfold kg; rfl)
      have HIK : Hid (isK Z (k + 1) = decide (x = 2 ∨ x = -2)) := hide (by unfold isK; rw [hx])
      rw [hx] at cz HN HO HE
      have HOW := hide (fun W => owner_any x W)
      have e1 := or_nat (mk_pow_lt (P := isO Z t) (k := k) (by omega)) (pow_bitn_lt (k := k + 1) (by omega))
      have e2 := or_nat (mk_pow_lt (P := isO Z (3 - t)) (k := k) (by omega)) (pow_bitn_lt (k := k + 1) (by omega))
      have e3 := or_nat (mk_pow_lt (P := isK Z) (k := k) (by omega)) (pow_bitn_lt (k := k + 1) (by omega))
      obtain ⟨PB, hPB⟩ : ∃ PB, 2 ^ bitn (k + 1) = PB := ⟨_, rfl⟩
      rw [hPB] at HPO HO HE HKG e1 e2 e3
      have HV0 := hide hV.out
      have hVe : bdL (snK Z t k) = [.int .u64 (mkT (isO Z t) k : Nat), .int .u64 (mkT (isO Z (3 - t)) k : Nat), .int .u64 (mkT (isK Z) k : Nat), .int .i64 (t : Nat)] := by unfold bdL snK; rfl
      rw [hVe] at HV0
      have HBE := hide hVe
      generalize mkT (isO Z t) k = M1 at *
      generalize mkT (isO Z (3 - t)) k = M2 at *
      generalize mkT (isK Z) k = M3 at *
      generalize M1 ||| PB = N1 at *
      generalize M2 ||| PB = N2 at *
      have c0 := HV0.out.cell (i := 0) rfl
      have c1 := HV0.out.cell (i := 1) rfl
      have c2 := HV0.out.cell (i := 2) rfl
      have f0 := HV0.out.frozen 0
      have f1 := HV0.out.frozen 1
      have f2 := HV0.out.frozen 2
      have HC := hide (And.intro c0 (And.intro c1 (And.intro c2 (And.intro f0 (And.intro f1 f2)))))
      generalize hKK : k + 1 = K1 at *
      clear hx hPB hVe c0 c1 c2 f0 f1 f2
      rw [hk1]
      have hle' : (K1 : Int) ≤ 32 := by omega
      have hK33 : (K1 : Int) < 33 := by omega
      go_upto_region 5 with fail
      have HF : Hid (∀ W4, Below wr.heap.size wr W4 → W4.cell? ⟨w.heap.size, 0, none⟩ = some (.slice (some ⟨ba, oa, none⟩) 33 c) ∧ W4.cell? ⟨ba, oa + K1, none⟩ = some (.int .i64 x)) := hide (fun W4 hb => ⟨(hb.cell (World.block_lt_of_cell? wr _ g0)).trans g0, (hb.cell (World.block_lt_of_cell? wr _ cz)).trans cz⟩)
      clear g0 cz
      refine wp_region_held (S := fun W4 => Below wr.heap.size wr W4) (by kernel_rfl) ?_
      change wpAnyH _ _ _ _ _ _ _ _ (World.drew _)
      have SW : Below wr.heap.size wr wr.drew := (Below.refl _ wr).drew
      refine wpAnyH_take (i := 0) (v := .pointer (some ⟨w.heap.size, 0, none⟩)) rfl (by kernel_rfl) (by kernel_rfl) (by kernel_rfl) (fun _ _ _ h => h) (Or.inl ⟨by rfl, ?_⟩) SW ?_
      · intro W4 hW4
        go_simp <;> first | done | rfl | (rw [IntKind.wrap_i64]; omega) | omega
      go_simp
      refine wpAnyH_take (i := 1) (v := .slice (some ⟨ba, oa, none⟩) 33 c) rfl (by kernel_rfl) (by kernel_rfl) (by kernel_rfl) (fun _ _ _ h => h) (Or.inl ⟨by rfl, ?_⟩) SW ?_
      · intro W4 hW4
        have x0 := (HF.out W4 hW4).1
        go_simp <;> first | done | rfl | (rw [IntKind.wrap_i64]; omega) | omega
      go_simp
      refine wpAnyH_take (i := 2) (v := .int .i64 (K1 : Nat)) rfl (by kernel_rfl) (by kernel_rfl) (by kernel_rfl) (fun _ _ _ h => h) (Or.inl ⟨by rfl, ?_⟩) SW ?_
      · intro W4 hW4
        go_simp <;> first | done | rfl | (rw [IntKind.wrap_i64]; omega) | omega
      go_simp
      refine wpAnyH_take (i := 5) (v := .int .i64 (K1 : Nat)) rfl (by kernel_rfl) (by kernel_rfl) (by kernel_rfl) (fun _ _ _ h => h) (Or.inl ⟨by rfl, ?_⟩) SW ?_
      · intro W4 hW4
        go_simp <;> first | done | rfl | (rw [IntKind.wrap_i64]; omega) | omega
      go_simp
      refine wpAnyH_take (i := 3) (v := .pointer (some ⟨ba, oa + K1, none⟩)) rfl (by kernel_rfl) (by kernel_rfl) (by kernel_rfl) (fun _ _ _ h => h) (Or.inl ⟨by rfl, ?_⟩) SW ?_
      · intro W4 hW4
        go_simp <;> first | done | rfl | (rw [IntKind.wrap_i64]; omega) | omega
      go_simp
      refine wpAnyH_take (i := 4) (v := .int .i64 x) rfl (by kernel_rfl) (by kernel_rfl) (by kernel_rfl) (fun _ _ _ h => h) (Or.inl ⟨by rfl, ?_⟩) SW ?_
      · intro W4 hW4
        have x0 := (HF.out W4 hW4).2
        go_simp <;> first | done | rfl | (rw [IntKind.wrap_i64]; omega) | omega
      go_simp
      refine wpAnyH_ready (rs := [6]) (by kernel_rfl) (by simp) ?_
      refine AllReadyH.cons rfl (fun K1 hK1 => ?_) AllReadyH.nil
      go_simp
      refine (HPO.out _).mono ?_
      rintro r w6 ⟨rfl, hw6⟩
      subst w6
      refine hK1.out _ _ SW (fun SW => ?_)
      clear hK1 K1
      go_simp
      refine wpAnyH_ready (rs := [7]) (by kernel_rfl) (by simp) ?_
      refine AllReadyH.cons rfl (fun K1 hK1 => ?_) AllReadyH.nil
      go_simp
      refine hK1.out _ _ SW (fun SW => ?_)
      clear hK1 K1
      go_simp
      refine wpAnyH_ready (rs := [8]) (by kernel_rfl) (by simp) ?_
      refine AllReadyH.cons rfl (fun K1 hK1 => ?_) AllReadyH.nil
      go_simp
      refine hK1.out _ _ SW (fun SW => ?_)
      clear hK1 K1
      go_simp
      refine wpAnyH_done (by kernel_rfl) ?_ _
      have B6 := SW
      have HV6 := hide (HV0.out.mono SW)
      have c1g := ((HG1.out.below HKB.out HG1.out.lt).below SW (by have := HKB.out.size; have := HG1.out.lt; omega)).cells.2
      have HK6 : Hid (Keeps (fun q => q = w1.heap.size) w2 wr.drew) := hide (hK.out.trans (Keeps.of_all SW))
      have cc0 := HV6.out.cell (i := 0) rfl
      have cc1 := HV6.out.cell (i := 1) rfl
      have cc2 := HV6.out.cell (i := 2) rfl
      have ff0 := HV6.out.frozen 0
      have ff1 := HV6.out.frozen 1
      have ff2 := HV6.out.frozen 2
      generalize wr.drew = wq at *
      clear SW B6 HF
      obtain ⟨o, hoe⟩ : ∃ o, own3 x = o := ⟨_, rfl⟩
      rw [hoe] at HN HO HE HOW
      have ho3 : o = 0 ∨ (o = t ∧ o ≠ 0) ∨ (o = 3 - t ∧ o ≠ 0 ∧ o ≠ t) := by
        have h1 := HT.out
        rcases own3_cases x with ⟨h, _⟩ | ⟨h, _⟩ | ⟨h, _⟩ <;> omega
      clear hoe
      rcases ho3 with ho | ⟨ho, hn0⟩ | ⟨ho, hn0, hnt⟩
      · have HS : Hid (Vb wq w1.heap.size 60 (bdL (snK Z t K1))) := hide (by rw [HN.out ho, HBE.out]; exact HV6.out)
        have z1 : ((o : Int) == 0) = true := by rw [ho]; rfl
        clear ho
        go_wp2_with fail
        refine (HOW.out _).mono ?_
        rintro e w3 ⟨rfl, hw3⟩
        subst w3
        go_wp2_with fail
        refine ⟨⟨k + 1, ?_, by omega, by rw [hKK]; exact HS, HK6⟩, by simp [intOf]; omega⟩
        simp; omega
      · have z1 : ((o : Int) == 0) = false := by simp; omega
        have z2 : ((o : Int) == (t : Int)) = true := by rw [ho]; simp
        have HE' := hide (HO.out ho)
        by_cases hx2 : x = 2
        · have hkg : x = 2 ∨ x = -2 := Or.inl hx2
          have q1 : (x == 2) = true := by simpa using hx2
          have HKV : Hid (kg Z k M3 = M3 ||| PB) := hide (by rw [HKG.out, HIK.out]; simp [hkg])
          have HS : Hid (Vb ((wq.setCell ⟨w1.heap.size, 0, none⟩ (.int .u64 (N1 : Nat))).setCell ⟨w1.heap.size, 2, none⟩ (.int .u64 (M3 ||| PB : Nat))) w1.heap.size 60 (bdL (snK Z t K1))) := hide (by
            have := (HV6.out.set 0 (.int .u64 (N1 : Nat))).set 2 (.int .u64 (M3 ||| PB : Nat))
            rw [HE'.out, HKV.out]; exact this)
          have HKS := hide ((HK6.out.setCell (X := fun q => q = w1.heap.size) (p := ⟨w1.heap.size, 0, none⟩) rfl (.int .u64 (N1 : Nat))).setCell (X := fun q => q = w1.heap.size) (p := ⟨w1.heap.size, 2, none⟩) rfl (.int .u64 (M3 ||| PB : Nat)))
          generalize M3 ||| PB = N3 at *
          clear hkg hx2 ho hn0
          go_wp2_with fail
          refine (HOW.out _).mono ?_
          rintro e w3 ⟨rfl, hw3⟩
          subst w3
          go_wp2_with fail
          refine ⟨⟨k + 1, ?_, by omega, by rw [hKK]; exact HS, HKS⟩, by simp [intOf]; omega⟩
          simp; omega
        · have q1 : (x == 2) = false := by simpa using hx2
          by_cases hx3 : x = -2
          · have hkg : x = 2 ∨ x = -2 := Or.inr hx3
            have q2 : (x == -2) = true := by simpa using hx3
            have HKV : Hid (kg Z k M3 = M3 ||| PB) := hide (by rw [HKG.out, HIK.out]; simp [hkg])
            have HS : Hid (Vb ((wq.setCell ⟨w1.heap.size, 0, none⟩ (.int .u64 (N1 : Nat))).setCell ⟨w1.heap.size, 2, none⟩ (.int .u64 (M3 ||| PB : Nat))) w1.heap.size 60 (bdL (snK Z t K1))) := hide (by
              have := (HV6.out.set 0 (.int .u64 (N1 : Nat))).set 2 (.int .u64 (M3 ||| PB : Nat))
              rw [HE'.out, HKV.out]; exact this)
            have HKS := hide ((HK6.out.setCell (X := fun q => q = w1.heap.size) (p := ⟨w1.heap.size, 0, none⟩) rfl (.int .u64 (N1 : Nat))).setCell (X := fun q => q = w1.heap.size) (p := ⟨w1.heap.size, 2, none⟩) rfl (.int .u64 (M3 ||| PB : Nat)))
            generalize M3 ||| PB = N3 at *
            clear hkg hx2 hx3 ho hn0
            go_wp2_with fail
            refine (HOW.out _).mono ?_
            rintro e w3 ⟨rfl, hw3⟩
            subst w3
            go_wp2_with fail
            refine ⟨⟨k + 1, ?_, by omega, by rw [hKK]; exact HS, HKS⟩, by simp [intOf]; omega⟩
            simp; omega
          · have hkg : ¬ (x = 2 ∨ x = -2) := by omega
            have q2 : (x == -2) = false := by simpa using hx3
            have HKV : Hid (kg Z k M3 = M3) := hide (by rw [HKG.out, HIK.out]; simp [hkg])
            have HS : Hid (Vb (wq.setCell ⟨w1.heap.size, 0, none⟩ (.int .u64 (N1 : Nat))) w1.heap.size 60 (bdL (snK Z t K1))) := hide (by
              have := HV6.out.set 0 (.int .u64 (N1 : Nat))
              rw [HE'.out, HKV.out]; exact this)
            have HKS := hide (HK6.out.setCell (X := fun q => q = w1.heap.size) (p := ⟨w1.heap.size, 0, none⟩) rfl (.int .u64 (N1 : Nat)))
            clear hkg hx2 ho hn0
            go_wp2_with fail
            refine (HOW.out _).mono ?_
            rintro e w3 ⟨rfl, hw3⟩
            subst w3
            go_wp2_with fail
            refine ⟨⟨k + 1, ?_, by omega, by rw [hKK]; exact HS, HKS⟩, by simp [intOf]; omega⟩
            simp; omega
      · have z1 : ((o : Int) == 0) = false := by simp; omega
        have z2 : ((o : Int) == (t : Int)) = false := by simp; omega
        clear hnt
        have HE' := hide (HE.out ho)
        by_cases hx2 : x = 2
        · have hkg : x = 2 ∨ x = -2 := Or.inl hx2
          have q1 : (x == 2) = true := by simpa using hx2
          have HKV : Hid (kg Z k M3 = M3 ||| PB) := hide (by rw [HKG.out, HIK.out]; simp [hkg])
          have HS : Hid (Vb ((wq.setCell ⟨w1.heap.size, 1, none⟩ (.int .u64 (N2 : Nat))).setCell ⟨w1.heap.size, 2, none⟩ (.int .u64 (M3 ||| PB : Nat))) w1.heap.size 60 (bdL (snK Z t K1))) := hide (by
            have := (HV6.out.set 1 (.int .u64 (N2 : Nat))).set 2 (.int .u64 (M3 ||| PB : Nat))
            rw [HE'.out, HKV.out]; exact this)
          have HKS := hide ((HK6.out.setCell (X := fun q => q = w1.heap.size) (p := ⟨w1.heap.size, 1, none⟩) rfl (.int .u64 (N2 : Nat))).setCell (X := fun q => q = w1.heap.size) (p := ⟨w1.heap.size, 2, none⟩) rfl (.int .u64 (M3 ||| PB : Nat)))
          generalize M3 ||| PB = N3 at *
          clear hkg hx2 ho hn0
          go_wp2_with fail
          refine (HOW.out _).mono ?_
          rintro e w3 ⟨rfl, hw3⟩
          subst w3
          go_wp2_with fail
          refine ⟨⟨k + 1, ?_, by omega, by rw [hKK]; exact HS, HKS⟩, by simp [intOf]; omega⟩
          simp; omega
        · have q1 : (x == 2) = false := by simpa using hx2
          by_cases hx3 : x = -2
          · have hkg : x = 2 ∨ x = -2 := Or.inr hx3
            have q2 : (x == -2) = true := by simpa using hx3
            have HKV : Hid (kg Z k M3 = M3 ||| PB) := hide (by rw [HKG.out, HIK.out]; simp [hkg])
            have HS : Hid (Vb ((wq.setCell ⟨w1.heap.size, 1, none⟩ (.int .u64 (N2 : Nat))).setCell ⟨w1.heap.size, 2, none⟩ (.int .u64 (M3 ||| PB : Nat))) w1.heap.size 60 (bdL (snK Z t K1))) := hide (by
              have := (HV6.out.set 1 (.int .u64 (N2 : Nat))).set 2 (.int .u64 (M3 ||| PB : Nat))
              rw [HE'.out, HKV.out]; exact this)
            have HKS := hide ((HK6.out.setCell (X := fun q => q = w1.heap.size) (p := ⟨w1.heap.size, 1, none⟩) rfl (.int .u64 (N2 : Nat))).setCell (X := fun q => q = w1.heap.size) (p := ⟨w1.heap.size, 2, none⟩) rfl (.int .u64 (M3 ||| PB : Nat)))
            generalize M3 ||| PB = N3 at *
            clear hkg hx2 hx3 ho hn0
            go_wp2_with fail
            refine (HOW.out _).mono ?_
            rintro e w3 ⟨rfl, hw3⟩
            subst w3
            go_wp2_with fail
            refine ⟨⟨k + 1, ?_, by omega, by rw [hKK]; exact HS, HKS⟩, by simp [intOf]; omega⟩
            simp; omega
          · have hkg : ¬ (x = 2 ∨ x = -2) := by omega
            have q2 : (x == -2) = false := by simpa using hx3
            have HKV : Hid (kg Z k M3 = M3) := hide (by rw [HKG.out, HIK.out]; simp [hkg])
            have HS : Hid (Vb (wq.setCell ⟨w1.heap.size, 1, none⟩ (.int .u64 (N2 : Nat))) w1.heap.size 60 (bdL (snK Z t K1))) := hide (by
              have := HV6.out.set 1 (.int .u64 (N2 : Nat))
              rw [HE'.out, HKV.out]; exact this)
            have HKS := hide (HK6.out.setCell (X := fun q => q = w1.heap.size) (p := ⟨w1.heap.size, 1, none⟩) rfl (.int .u64 (N2 : Nat)))
            clear hkg hx2 ho hn0
            go_wp2_with fail
            refine (HOW.out _).mono ?_
            rintro e w3 ⟨rfl, hw3⟩
            subst w3
            go_wp2_with fail
            refine ⟨⟨k + 1, ?_, by omega, by rw [hKK]; exact HS, HKS⟩, by simp [intOf]; omega⟩
            simp; omega
    · obtain rfl : k = 32 := by omega
      have HVR2 := hide ((HVR.out.below HKB.out (by have := HS1.out; omega)))
      have V5 := hV.out
      rw [← HSN.out] at V5
      have V5b := HVR2.out
      have h60 : (Tryd.prog.info? 60).map (·.size) = some (bdL RS).length := size60
      have HO1 := hide (bdL_one RS)
      go_wp2_with (first
        | refine wpList_load_bd rfl (.tmp 3) rfl w1.heap.size rfl V5 ?_
        | (refine wpList_store_vb rfl 60 (.tmp 2) (.tmp 50) rfl (w.heap.size + 1) (bdL RS) _ rfl rfl V5b rfl h60 HO1.out ?_; intro w6 k6 kk6))
      refine bodyPost_ret (results_bd rfl _ _ (w.heap.size + 1) rfl k6) rfl ⟨rfl, ?_⟩
      exact HB1.out.trans ((HKB.out.mono HB1.out.size).trans ((kk6.mono (Y := fun q => w.heap.size ≤ q) (fun q _ e => by omega)).below (Nat.le_trans HB1.out.size HKB.out.size) (fun q hq e => by omega)))

end Go.Proofs.YtnbaangnpoblfaaDoor
