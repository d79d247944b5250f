/-
  The law DominoGrows, walked. No conditions beyond those that each theorem bears.
-/
import Derived.Test.YtjcglpnpdalcjaaGrow
namespace Go.Proofs.Ytjcglpnpdalcjaa
open Go.RowKit
attribute [local go_sem] build35 run_eq35 guard35
attribute [local irreducible] hz hzL laid rowE rowsV playV

set_option maxRecDepth 100000 in
set_option maxHeartbeats 8000000 in
theorem law7_any (a0 : Option Addr) (n0 c0 : Nat) (z0 : List Int) (w : World) (h0 : Rd w a0 n0 c0 z0) (hz : ∀ z ∈ z0, -9223372036854775808 ≤ z ∧ z ≤ 9223372036854775807) :
    Calls Try.prog 7 #[.slice a0 n0 c0] w fun e w' => e = .returned (.bool true) ∧ Below w.heap.size w w' := by
  have m0 := h0.max
  have p0 := h0.cap
  unfold maxLen at m0
  have H0 := hide h0
  have HZ := hide hz
  clear h0 hz
  go_enter Try.func7, Try.ntmps7
  go_wp2_with fail
  go_loopw [3, 4] (fun v u wr => ∃ (j i : Nat) (a : Option Addr) (n c : Nat) (ps : List Pc), Hid (i = 2 * j) ∧ i ≤ 14 ∧ j ≤ 7 ∧ n ≤ j ∧ n ≤ c ∧ c ≤ 9223372036854775807 ∧ u = .int .i64 i ∧ v = .slice a n c ∧ Hid (Rp wr a n c ps) ∧ Hid (isR ps = true) ∧ Hid (pcsB ps = true) ∧ Hid (Below w.heap.size w wr)) (fun _ u _ => 16 - (intOf u).toNat)
  case atStart => exact ⟨0, 0, none, 0, 0, [], hide rfl, by omega, by omega, by omega, by omega, by omega, rfl, rfl, hide (Rp.of_nil _), hide rfl, hide rfl, hide (Below.refl _ _)⟩
  case round =>
    obtain ⟨j, i, a, n, c, ps, HI, hi14, hj, hnj, hnc, hcm, rfl, rfl, HR, HRW, HPB, HB⟩ := hrel
    have q1 : i ≤ 2 * j := by have := HI.out; omega
    have q2 : 2 * j ≤ i := by have := HI.out; omega
    by_cases hgo : i + 1 < n0 ∧ i < 14
    · have g1 : (i : Int) + 1 < (n0 : Int) := by omega
      have g1' : decide ((i : Int) + 1 < (n0 : Int)) = true := by simpa using g1
      have g2 : (i : Int) < 14 := by omega
      obtain ⟨i1, hi1⟩ : ∃ i1, i + 1 = i1 := ⟨_, rfl⟩
      have hi1e : (i : Int) + 1 = (i1 : Int) := by omega
      have hi1n : (i1 : Int) < (n0 : Int) := by omega
      have hin : (i : Int) < (n0 : Int) := by omega
      obtain ⟨ba, oa, ha, hc⟩ := H0.out.cells (by omega)
      have r1 := hc i (by omega)
      have r2 := hc i1 (by omega)
      have hl0 := H0.out.len
      have hz1 := HZ.out (z0.getD i 0) (by have : i < z0.length := by omega
                                           simp [List.getD, this])
      have hz2 := HZ.out (z0.getD i1 0) (by have : i1 < z0.length := by omega
                                            simp [List.getD, this])
      obtain ⟨z, hzz⟩ : ∃ z, z0.getD i 0 = z := ⟨_, rfl⟩
      obtain ⟨y, hyy⟩ : ∃ y, z0.getD i1 0 = y := ⟨_, rfl⟩
      rw [hzz] at r1 hz1
      rw [hyy] at r2 hz2
      subst ha
      have hbl : ba < w.heap.size := World.block_lt_of_cell? w _ r1
      have C1 : Hid (∀ W, Below w.heap.size w W → W.cell? ⟨ba, oa + i, none⟩ = some (.int .i64 z)) := hide (fun W hW => (hW.cell (p := ⟨ba, oa + i, none⟩) hbl).trans r1)
      have C2 : Hid (∀ W, Below w.heap.size w W → W.cell? ⟨ba, oa + i1, none⟩ = some (.int .i64 y)) := hide (fun W hW => (hW.cell (p := ⟨ba, oa + i1, none⟩) hbl).trans r2)
      have hx := pk_lt z 4 (by omega)
      have hy := pk_lt y 4 (by omega)
      have HPX := hide (fun W => picked_any z 4 W hz1.1 hz1.2 (by omega) (by omega))
      have HPY := hide (fun W => picked_any y 4 W hz2.1 hz2.2 (by omega) (by omega))
      generalize pk z 4 = X at *
      generalize pk y 4 = Y at *
      have HI1 := hide hi1
      clear hc r1 r2 hzz hyy hz1 hz2 hl0 hi1
      go_wp2_with fail
      refine wp_region_held (S := fun W => Below w.heap.size w W) (by kernel_rfl) ?_
      change wpAnyH _ _ _ _ _ _ _ _ (World.drew _)
      have SW : Below w.heap.size w wr.drew := HB.out.drew
      refine wpAnyH_take (i := 0) (v := .slice (some ⟨ba, oa, none⟩) n0 c0) rfl (by kernel_rfl) (by kernel_rfl) (by kernel_rfl) (fun _ _ _ h => h) (Or.inl ⟨by rfl, ?_⟩) SW ?_
      · intro W hW
        go_simp
      go_simp
      refine wpAnyH_take (i := 1) (v := .int .i64 i) rfl (by kernel_rfl) (by kernel_rfl) (by kernel_rfl) (fun _ _ _ h => h) (Or.inl ⟨by rfl, ?_⟩) SW ?_
      · intro W hW
        go_simp
      go_simp
      refine wpAnyH_take (i := 2) (v := .pointer (some ⟨ba, oa + i, none⟩)) rfl (by kernel_rfl) (by kernel_rfl) (by kernel_rfl) (fun _ _ _ h => h) (Or.inl ⟨by rfl, ?_⟩) SW ?_
      · intro W hW
        go_simp
      go_simp
      refine wpAnyH_take (i := 3) (v := .int .i64 z) rfl (by kernel_rfl) (by kernel_rfl) (by kernel_rfl) (fun _ _ _ h => h) (Or.inl ⟨by rfl, ?_⟩) SW ?_
      · intro W hW
        have f0 := C1.out W hW
        go_simp
      go_simp
      refine wpAnyH_take (i := 5) (v := .slice (some ⟨ba, oa, none⟩) n0 c0) rfl (by kernel_rfl) (by kernel_rfl) (by kernel_rfl) (fun _ _ _ h => h) (Or.inl ⟨by rfl, ?_⟩) SW ?_
      · intro W hW
        go_simp
      go_simp
      refine wpAnyH_take (i := 6) (v := .int .i64 i) rfl (by kernel_rfl) (by kernel_rfl) (by kernel_rfl) (fun _ _ _ h => h) (Or.inl ⟨by rfl, ?_⟩) SW ?_
      · intro W hW
        go_simp
      go_simp
      refine wpAnyH_take (i := 7) (v := .int .i64 i1) rfl (by kernel_rfl) (by kernel_rfl) (by kernel_rfl) (fun _ _ _ h => h) (Or.inl ⟨by rfl, ?_⟩) SW ?_
      · intro W hW
        go_simp
        rw [IntKind.wrap_i64]
        omega
      go_simp
      refine wpAnyH_take (i := 8) (v := .pointer (some ⟨ba, oa + i1, none⟩)) rfl (by kernel_rfl) (by kernel_rfl) (by kernel_rfl) (fun _ _ _ h => h) (Or.inl ⟨by rfl, ?_⟩) SW ?_
      · intro W hW
        go_simp
      go_simp
      refine wpAnyH_take (i := 9) (v := .int .i64 y) rfl (by kernel_rfl) (by kernel_rfl) (by kernel_rfl) (fun _ _ _ h => h) (Or.inl ⟨by rfl, ?_⟩) SW ?_
      · intro W hW
        have f0 := C2.out W hW
        go_simp
      go_simp
      refine wpAnyH_ready (rs := [4, 12]) (by kernel_rfl) (by simp) ?_
      refine AllReadyH.cons rfl (fun K1 hK1 => ?_) (AllReadyH.cons rfl (fun K1 hK1 => ?_) AllReadyH.nil)
      · go_simp
        refine (HPX.out _).mono ?_
        rintro e wN ⟨rfl, hwN⟩
        subst wN
        refine hK1.out _ _ SW (fun SW => ?_)
        clear hK1 K1
        go_simp
        refine wpAnyH_ready (rs := [10, 12]) (by kernel_rfl) (by simp) ?_
        refine AllReadyH.cons rfl (fun K1 hK1 => ?_) (AllReadyH.cons rfl (fun K1 hK1 => ?_) AllReadyH.nil)
        · go_simp
          refine (HPY.out _).mono ?_
          rintro e wN ⟨rfl, hwN⟩
          subst wN
          refine hK1.out _ _ SW (fun SW => ?_)
          clear hK1 K1
          go_simp
          refine wpAnyH_take (i := 11) (v := .agg #[.int .i64 X, .int .i64 Y]) rfl (by kernel_rfl) (by kernel_rfl) (by kernel_rfl) (fun _ _ _ h => h) (Or.inl ⟨by rfl, ?_⟩) SW ?_
          · intro W hW
            go_simp
          go_simp
          refine wpAnyH_ready (rs := [12]) (by kernel_rfl) (by simp) ?_
          refine AllReadyH.cons rfl (fun K1 hK1 => ?_) AllReadyH.nil
          go_simp
          refine hK1.out _ _ (SW.alloc SW.size _) (fun SW => ?_)
          clear hK1 K1
          go_simp
          refine wpAnyH_ready (rs := [13]) (by kernel_rfl) (by simp) ?_
          refine AllReadyH.cons rfl (fun K1 hK1 => ?_) AllReadyH.nil
          go_simp
          have B1 : Below wr.heap.size wr (wr.alloc (.cells #[.int .i64 (X : Int), .int .i64 (Y : Int)] 35)).drew := ((Below.refl _ wr).alloc (Nat.le_refl _) _).drew
          have k0 : (wr.alloc (.cells #[.int .i64 (X : Int), .int .i64 (Y : Int)] 35)).drew.cell? ⟨wr.heap.size, 0, none⟩ = some (.int .i64 X) := by go_simp
          have k1 : (wr.alloc (.cells #[.int .i64 (X : Int), .int .i64 (Y : Int)] 35)).drew.cell? ⟨wr.heap.size, 1, none⟩ = some (.int .i64 Y) := by go_simp
          refine hK1.out _ _ (HB.out.trans (B1.mono HB.out.size)) (fun SW => ?_)
          clear hK1 K1
          refine wpAnyH_done (by kernel_rfl) ?_ _
          generalize hw1 : (wr.alloc (.cells #[.int .i64 (X : Int), .int .i64 (Y : Int)] 35)).drew = w1 at *
          clear hw1
          obtain ⟨G, hG⟩ : ∃ G, wr.heap.size = G := ⟨_, rfl⟩
          rw [hG] at k0 k1
          simp only [hG]
          obtain ⟨rb, hrb⟩ : ∃ rb, ((i : Int) % 4 == 0) = rb := ⟨_, rfl⟩
          have HR1 := hide (HR.out.mono B1)
          have HB1 := hide SW
          have hlen := HR.out.len
          have hpB : pcB ((X : Int), (Y : Int)) = true := by unfold pcB endB; simp; omega
          have hflt : fltE ps 59 = 0 := by unfold fltE; rw [if_neg (by omega), HPB.out]; rfl
          have hfacts := play_facts ps ((X : Int), (Y : Int)) rb hflt hpB HRW.out HPB.out
          have HFA := hide hfacts
          have HLE := hide hlen
          clear B1 SW HPX HPY C1 C2 hpB hflt hfacts hlen hG HR
          go_wp2_with fail
          refine (Play_any a n c ps ((X : Int), (Y : Int)) rb w1 HR1.out).mono ?_
          rcases HFA.out with ⟨L, hV, hLl, hLr, hLp⟩ | ⟨hV, hp0⟩
          · rw [hV]
            simp only
            rw [HLE.out] at hLl
            obtain ⟨N, hN⟩ : ∃ N, n + 1 = N := ⟨_, rfl⟩
            rw [hN] at hLl
            rw [hLl]
            rintro e w2 ⟨a2, c2, rfl, hR2, hB2⟩
            have hc2 := hR2.max
            have hc2' := hR2.cap
            unfold maxLen at hc2
            have HR2 := hide hR2
            have HB2 := hide (HB1.out.trans (hB2.mono HB1.out.size))
            have HLR := hide hLr
            have HLP := hide hLp
            have hNe : (n : Int) + 1 = (N : Int) := by omega
            have hNN : ((N : Int) != (N : Int)) = false := by simp
            have hN1 : N ≤ j + 1 := by omega
            clear hR2 hB2 hLr hLp hLl hV hN HFA
            go_wp2_with fail
            go_roundw
            case rel => exact ⟨j + 1, i + 2, a2, N, c2, L, hide (by omega), by omega, by omega, hN1, hc2', by omega, by go_num, rfl, HR2, HLR, HLP, HB2⟩
            case measure => simp [intOf]; omega
          · rw [hV]
            simp only [List.length_nil]
            rintro e w2 ⟨a2, c2, rfl, hR2, hB2⟩
            have HR2 := hide (HR1.out.mono hB2)
            have HB2 := hide (HB1.out.trans (hB2.mono HB1.out.size))
            have hn0 : ((n : Int) == 0) = false := by have := HLE.out; simp; omega
            clear hR2 hB2 hV hp0 HFA
            go_wp2_with fail
            go_roundw
            case rel => exact ⟨j + 1, i + 2, a, n, c, ps, hide (by omega), by omega, by omega, by omega, hnc, hcm, by go_num, rfl, HR2, HRW, HPB, HB2⟩
            case measure => simp [intOf]; omega
        · go_simp
          refine hK1.out _ _ (SW.alloc SW.size _) (fun SW => ?_)
          clear hK1 K1
          go_simp
          refine wpAnyH_ready (rs := [10]) (by kernel_rfl) (by simp) ?_
          refine AllReadyH.cons rfl (fun K1 hK1 => ?_) AllReadyH.nil
          go_simp
          refine (HPY.out _).mono ?_
          rintro e wN ⟨rfl, hwN⟩
          subst wN
          refine hK1.out _ _ SW (fun SW => ?_)
          clear hK1 K1
          go_simp
          refine wpAnyH_take (i := 11) (v := .agg #[.int .i64 X, .int .i64 Y]) rfl (by kernel_rfl) (by kernel_rfl) (by kernel_rfl) (fun _ _ _ h => h) (Or.inl ⟨by rfl, ?_⟩) SW ?_
          · intro W hW
            go_simp
          go_simp
          refine wpAnyH_ready (rs := [13]) (by kernel_rfl) (by simp) ?_
          refine AllReadyH.cons rfl (fun K1 hK1 => ?_) AllReadyH.nil
          go_simp
          have B1 : Below wr.heap.size wr (wr.alloc (.cells #[.int .i64 (X : Int), .int .i64 (Y : Int)] 35)).drew := ((Below.refl _ wr).alloc (Nat.le_refl _) _).drew
          have k0 : (wr.alloc (.cells #[.int .i64 (X : Int), .int .i64 (Y : Int)] 35)).drew.cell? ⟨wr.heap.size, 0, none⟩ = some (.int .i64 X) := by go_simp
          have k1 : (wr.alloc (.cells #[.int .i64 (X : Int), .int .i64 (Y : Int)] 35)).drew.cell? ⟨wr.heap.size, 1, none⟩ = some (.int .i64 Y) := by go_simp
          refine hK1.out _ _ (HB.out.trans (B1.mono HB.out.size)) (fun SW => ?_)
          clear hK1 K1
          refine wpAnyH_done (by kernel_rfl) ?_ _
          generalize hw1 : (wr.alloc (.cells #[.int .i64 (X : Int), .int .i64 (Y : Int)] 35)).drew = w1 at *
          clear hw1
          obtain ⟨G, hG⟩ : ∃ G, wr.heap.size = G := ⟨_, rfl⟩
          rw [hG] at k0 k1
          simp only [hG]
          obtain ⟨rb, hrb⟩ : ∃ rb, ((i : Int) % 4 == 0) = rb := ⟨_, rfl⟩
          have HR1 := hide (HR.out.mono B1)
          have HB1 := hide SW
          have hlen := HR.out.len
          have hpB : pcB ((X : Int), (Y : Int)) = true := by unfold pcB endB; simp; omega
          have hflt : fltE ps 59 = 0 := by unfold fltE; rw [if_neg (by omega), HPB.out]; rfl
          have hfacts := play_facts ps ((X : Int), (Y : Int)) rb hflt hpB HRW.out HPB.out
          have HFA := hide hfacts
          have HLE := hide hlen
          clear B1 SW HPX HPY C1 C2 hpB hflt hfacts hlen hG HR
          go_wp2_with fail
          refine (Play_any a n c ps ((X : Int), (Y : Int)) rb w1 HR1.out).mono ?_
          rcases HFA.out with ⟨L, hV, hLl, hLr, hLp⟩ | ⟨hV, hp0⟩
          · rw [hV]
            simp only
            rw [HLE.out] at hLl
            obtain ⟨N, hN⟩ : ∃ N, n + 1 = N := ⟨_, rfl⟩
            rw [hN] at hLl
            rw [hLl]
            rintro e w2 ⟨a2, c2, rfl, hR2, hB2⟩
            have hc2 := hR2.max
            have hc2' := hR2.cap
            unfold maxLen at hc2
            have HR2 := hide hR2
            have HB2 := hide (HB1.out.trans (hB2.mono HB1.out.size))
            have HLR := hide hLr
            have HLP := hide hLp
            have hNe : (n : Int) + 1 = (N : Int) := by omega
            have hNN : ((N : Int) != (N : Int)) = false := by simp
            have hN1 : N ≤ j + 1 := by omega
            clear hR2 hB2 hLr hLp hLl hV hN HFA
            go_wp2_with fail
            go_roundw
            case rel => exact ⟨j + 1, i + 2, a2, N, c2, L, hide (by omega), by omega, by omega, hN1, hc2', by omega, by go_num, rfl, HR2, HLR, HLP, HB2⟩
            case measure => simp [intOf]; omega
          · rw [hV]
            simp only [List.length_nil]
            rintro e w2 ⟨a2, c2, rfl, hR2, hB2⟩
            have HR2 := hide (HR1.out.mono hB2)
            have HB2 := hide (HB1.out.trans (hB2.mono HB1.out.size))
            have hn0 : ((n : Int) == 0) = false := by have := HLE.out; simp; omega
            clear hR2 hB2 hV hp0 HFA
            go_wp2_with fail
            go_roundw
            case rel => exact ⟨j + 1, i + 2, a, n, c, ps, hide (by omega), by omega, by omega, by omega, hnc, hcm, by go_num, rfl, HR2, HRW, HPB, HB2⟩
            case measure => simp [intOf]; omega
      · go_simp
        refine hK1.out _ _ (SW.alloc SW.size _) (fun SW => ?_)
        clear hK1 K1
        go_simp
        refine wpAnyH_ready (rs := [4]) (by kernel_rfl) (by simp) ?_
        refine AllReadyH.cons rfl (fun K1 hK1 => ?_) AllReadyH.nil
        go_simp
        refine (HPX.out _).mono ?_
        rintro e wN ⟨rfl, hwN⟩
        subst wN
        refine hK1.out _ _ SW (fun SW => ?_)
        clear hK1 K1
        go_simp
        refine wpAnyH_ready (rs := [10]) (by kernel_rfl) (by simp) ?_
        refine AllReadyH.cons rfl (fun K1 hK1 => ?_) AllReadyH.nil
        go_simp
        refine (HPY.out _).mono ?_
        rintro e wN ⟨rfl, hwN⟩
        subst wN
        refine hK1.out _ _ SW (fun SW => ?_)
        clear hK1 K1
        go_simp
        refine wpAnyH_take (i := 11) (v := .agg #[.int .i64 X, .int .i64 Y]) rfl (by kernel_rfl) (by kernel_rfl) (by kernel_rfl) (fun _ _ _ h => h) (Or.inl ⟨by rfl, ?_⟩) SW ?_
        · intro W hW
          go_simp
        go_simp
        refine wpAnyH_ready (rs := [13]) (by kernel_rfl) (by simp) ?_
        refine AllReadyH.cons rfl (fun K1 hK1 => ?_) AllReadyH.nil
        go_simp
        have B1 : Below wr.heap.size wr (wr.alloc (.cells #[.int .i64 (X : Int), .int .i64 (Y : Int)] 35)).drew := ((Below.refl _ wr).alloc (Nat.le_refl _) _).drew
        have k0 : (wr.alloc (.cells #[.int .i64 (X : Int), .int .i64 (Y : Int)] 35)).drew.cell? ⟨wr.heap.size, 0, none⟩ = some (.int .i64 X) := by go_simp
        have k1 : (wr.alloc (.cells #[.int .i64 (X : Int), .int .i64 (Y : Int)] 35)).drew.cell? ⟨wr.heap.size, 1, none⟩ = some (.int .i64 Y) := by go_simp
        refine hK1.out _ _ (HB.out.trans (B1.mono HB.out.size)) (fun SW => ?_)
        clear hK1 K1
        refine wpAnyH_done (by kernel_rfl) ?_ _
        generalize hw1 : (wr.alloc (.cells #[.int .i64 (X : Int), .int .i64 (Y : Int)] 35)).drew = w1 at *
        clear hw1
        obtain ⟨G, hG⟩ : ∃ G, wr.heap.size = G := ⟨_, rfl⟩
        rw [hG] at k0 k1
        simp only [hG]
        obtain ⟨rb, hrb⟩ : ∃ rb, ((i : Int) % 4 == 0) = rb := ⟨_, rfl⟩
        have HR1 := hide (HR.out.mono B1)
        have HB1 := hide SW
        have hlen := HR.out.len
        have hpB : pcB ((X : Int), (Y : Int)) = true := by unfold pcB endB; simp; omega
        have hflt : fltE ps 59 = 0 := by unfold fltE; rw [if_neg (by omega), HPB.out]; rfl
        have hfacts := play_facts ps ((X : Int), (Y : Int)) rb hflt hpB HRW.out HPB.out
        have HFA := hide hfacts
        have HLE := hide hlen
        clear B1 SW HPX HPY C1 C2 hpB hflt hfacts hlen hG HR
        go_wp2_with fail
        refine (Play_any a n c ps ((X : Int), (Y : Int)) rb w1 HR1.out).mono ?_
        rcases HFA.out with ⟨L, hV, hLl, hLr, hLp⟩ | ⟨hV, hp0⟩
        · rw [hV]
          simp only
          rw [HLE.out] at hLl
          obtain ⟨N, hN⟩ : ∃ N, n + 1 = N := ⟨_, rfl⟩
          rw [hN] at hLl
          rw [hLl]
          rintro e w2 ⟨a2, c2, rfl, hR2, hB2⟩
          have hc2 := hR2.max
          have hc2' := hR2.cap
          unfold maxLen at hc2
          have HR2 := hide hR2
          have HB2 := hide (HB1.out.trans (hB2.mono HB1.out.size))
          have HLR := hide hLr
          have HLP := hide hLp
          have hNe : (n : Int) + 1 = (N : Int) := by omega
          have hNN : ((N : Int) != (N : Int)) = false := by simp
          have hN1 : N ≤ j + 1 := by omega
          clear hR2 hB2 hLr hLp hLl hV hN HFA
          go_wp2_with fail
          go_roundw
          case rel => exact ⟨j + 1, i + 2, a2, N, c2, L, hide (by omega), by omega, by omega, hN1, hc2', by omega, by go_num, rfl, HR2, HLR, HLP, HB2⟩
          case measure => simp [intOf]; omega
        · rw [hV]
          simp only [List.length_nil]
          rintro e w2 ⟨a2, c2, rfl, hR2, hB2⟩
          have HR2 := hide (HR1.out.mono hB2)
          have HB2 := hide (HB1.out.trans (hB2.mono HB1.out.size))
          have hn0 : ((n : Int) == 0) = false := by have := HLE.out; simp; omega
          clear hR2 hB2 hV hp0 HFA
          go_wp2_with fail
          go_roundw
          case rel => exact ⟨j + 1, i + 2, a, n, c, ps, hide (by omega), by omega, by omega, by omega, hnc, hcm, by go_num, rfl, HR2, HRW, HPB, HB2⟩
          case measure => simp [intOf]; omega
    · have hgx : ((i : Int) + 1 < (n0 : Int) ∧ ¬ (i : Int) < 14) ∨ ¬ (i : Int) + 1 < (n0 : Int) := by omega
      have hlen := HR.out.len
      have HLE := hide hlen
      obtain ⟨i1, hi1⟩ : ∃ i1, i + 1 = i1 := ⟨_, rfl⟩
      have hi1e : (i : Int) + 1 = (i1 : Int) := by omega
      rw [hi1e] at hgx
      clear hgo hlen hi1
      rcases hgx with ⟨g1, g2⟩ | g1
      · have g1' : decide ((i1 : Int) < (n0 : Int)) = true := by simpa using g1
        go_wp2_with fail
        go_loopw [8] (fun v wq => ∃ (k q : Nat), 1 ≤ k ∧ (k ≤ n ∨ k = 1) ∧ v = .int .i64 k ∧ wq = wr.drewN q) (fun v _ => n + 2 - (intOf v).toNat)
        case atStart => exact ⟨1, 0, by omega, by omega, rfl, rfl⟩
        case round =>
          obtain ⟨k, q, hk1, hk, rfl, rfl⟩ := hrel
          by_cases hlt : k < n
          · have hlt' : (k : Int) < (n : Int) := by omega
            obtain ⟨b, off, ha, hc⟩ := HR.out.cells (by omega)
            subst ha
            obtain ⟨-, r1⟩ := hc (k - 1) (by omega)
            obtain ⟨r2, -⟩ := hc k hlt
            have hat := isR_at ps HRW.out k hk1 (by rw [HLE.out]; exact hlt)
            obtain ⟨jj, rfl⟩ : ∃ jj, k = jj + 1 := ⟨k - 1, by omega⟩
            rw [Nat.add_sub_cancel] at r1 hat
            obtain ⟨x, hx⟩ : ∃ x, (ps.getD jj (0, 0)).2 = x := ⟨_, rfl⟩
            rw [hx] at r1 hat
            rw [← hat] at r2
            have hb : (x != x) = false := by simp
            have t1 : ((jj + 1 : Nat) : Int) - 1 = (jj : Int) := by omega
            have t2 : ((jj : Int) + 1) - 1 = (jj : Int) := by omega
            have t3 : (jj : Int) < (n : Int) := by omega
            have t4 : (jj : Int) + 1 < (n : Int) := by omega
            have t5 : ((jj : Int) + 1).toNat = jj + 1 := by omega
            clear hc hat hx
            go_wp2_with fail
            go_quiet (fail)
            go_wp2_with fail
            go_roundw
            case rel => exact ⟨jj + 1 + 1, _, by omega, by omega, by go_num, rfl⟩
            case measure => simp [intOf]; omega
          · have hlt' : ¬ (k : Int) < (n : Int) := by omega
            obtain ⟨hE, hRl⟩ := row_grown ps (by rw [HLE.out]; omega) HPB.out HRW.out
            rw [HLE.out] at hRl
            have HE := hide hE
            have HRL := hide hRl
            have HR1 := hide (HR.out.mono (drewN_below _ wr q))
            have HB1 := hide (HB.out.trans (drewN_below _ wr q))
            have hnn : ((n : Int) == (n : Int)) = true := by simp
            generalize wr.drewN q = w1 at *
            clear hE hRl
            go_wp2_with fail
            refine (Row_any a n c ps w1 HR1.out).mono ?_
            rw [HE.out, HRL.out]
            rintro e w2 ⟨a2, c2, rfl, -, hB2⟩
            have HB2 := hide (HB1.out.trans (hB2.mono HB1.out.size))
            clear hB2
            have HB3 := hide (HB2.out.alloc HB2.out.size (.cells #[.int .i64 0, .int .i64 1] 35))
            have HO := hide (Rp.one w2 0 1)
            go_wp2_with fail
            refine (Rows_any _ 1 1 [(0, 1)] _ HO.out).mono ?_
            rw [rows_one]
            rintro e w3 ⟨rfl, hB3⟩
            have HB4 := hide (HB3.out.trans (hB3.mono HB3.out.size))
            clear hB3
            go_wp2_with fail
            go_ret
            exact ⟨rfl, HB4.out⟩
      · have g1' : decide ((i1 : Int) < (n0 : Int)) = false := by simpa using g1
        go_wp2_with fail
        go_loopw [8] (fun v wq => ∃ (k q : Nat), 1 ≤ k ∧ (k ≤ n ∨ k = 1) ∧ v = .int .i64 k ∧ wq = wr.drewN q) (fun v _ => n + 2 - (intOf v).toNat)
        case atStart => exact ⟨1, 0, by omega, by omega, rfl, rfl⟩
        case round =>
          obtain ⟨k, q, hk1, hk, rfl, rfl⟩ := hrel
          by_cases hlt : k < n
          · have hlt' : (k : Int) < (n : Int) := by omega
            obtain ⟨b, off, ha, hc⟩ := HR.out.cells (by omega)
            subst ha
            obtain ⟨-, r1⟩ := hc (k - 1) (by omega)
            obtain ⟨r2, -⟩ := hc k hlt
            have hat := isR_at ps HRW.out k hk1 (by rw [HLE.out]; exact hlt)
            obtain ⟨jj, rfl⟩ : ∃ jj, k = jj + 1 := ⟨k - 1, by omega⟩
            rw [Nat.add_sub_cancel] at r1 hat
            obtain ⟨x, hx⟩ : ∃ x, (ps.getD jj (0, 0)).2 = x := ⟨_, rfl⟩
            rw [hx] at r1 hat
            rw [← hat] at r2
            have hb : (x != x) = false := by simp
            have t1 : ((jj + 1 : Nat) : Int) - 1 = (jj : Int) := by omega
            have t2 : ((jj : Int) + 1) - 1 = (jj : Int) := by omega
            have t3 : (jj : Int) < (n : Int) := by omega
            have t4 : (jj : Int) + 1 < (n : Int) := by omega
            have t5 : ((jj : Int) + 1).toNat = jj + 1 := by omega
            clear hc hat hx
            go_wp2_with fail
            go_quiet (fail)
            go_wp2_with fail
            go_roundw
            case rel => exact ⟨jj + 1 + 1, _, by omega, by omega, by go_num, rfl⟩
            case measure => simp [intOf]; omega
          · have hlt' : ¬ (k : Int) < (n : Int) := by omega
            obtain ⟨hE, hRl⟩ := row_grown ps (by rw [HLE.out]; omega) HPB.out HRW.out
            rw [HLE.out] at hRl
            have HE := hide hE
            have HRL := hide hRl
            have HR1 := hide (HR.out.mono (drewN_below _ wr q))
            have HB1 := hide (HB.out.trans (drewN_below _ wr q))
            have hnn : ((n : Int) == (n : Int)) = true := by simp
            generalize wr.drewN q = w1 at *
            clear hE hRl
            go_wp2_with fail
            refine (Row_any a n c ps w1 HR1.out).mono ?_
            rw [HE.out, HRL.out]
            rintro e w2 ⟨a2, c2, rfl, -, hB2⟩
            have HB2 := hide (HB1.out.trans (hB2.mono HB1.out.size))
            clear hB2
            have HB3 := hide (HB2.out.alloc HB2.out.size (.cells #[.int .i64 0, .int .i64 1] 35))
            have HO := hide (Rp.one w2 0 1)
            go_wp2_with fail
            refine (Rows_any _ 1 1 [(0, 1)] _ HO.out).mono ?_
            rw [rows_one]
            rintro e w3 ⟨rfl, hB3⟩
            have HB4 := hide (HB3.out.trans (hB3.mono HB3.out.size))
            clear hB3
            go_wp2_with fail
            go_ret
            exact ⟨rfl, HB4.out⟩
end Go.Proofs.Ytjcglpnpdalcjaa
