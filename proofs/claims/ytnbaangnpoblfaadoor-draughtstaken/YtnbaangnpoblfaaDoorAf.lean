/-
  What the other sees behind a way, walked. No conditions beyond those that each theorem bears.
-/
import Derived.Test.YtnbaangnpoblfaaDoorNu
namespace Go.Proofs.YtnbaangnpoblfaaDoor
open Go.RowKit Go.Shelf

theorem build60f (o p k : Nat) (m : Int) (w : World) : (Instr.build 60 #[(0, .int .u64 (o : Nat)), (1, .int .u64 (p : Nat)), (2, .int .u64 (k : Nat)), (3, .int .i64 m)]).run Tryd.prog w = .ok (.agg #[.int .u64 (o : Nat), .int .u64 (p : Nat), .int .u64 (k : Nat), .int .i64 m]) w := by
  simp [Instr.build, go_sem, run_underlying Tryd.underlying60]

theorem crw_sub (b : Bm) : Sub b.crw ALL := by
  unfold Bm.crw
  split
  · intro i hi
    have : i < 4 := by
      rcases Nat.lt_or_ge i 4 with h | h
      · exact h
      · rw [Nat.testBit_lt_two_pow (Nat.lt_of_lt_of_le (show 15 < 2 ^ 4 by decide) (Nat.pow_le_pow_right (by decide) h))] at hi; cases hi
    have h4 : i = 0 ∨ i = 1 ∨ i = 2 ∨ i = 3 := by omega
    rcases h4 with rfl | rfl | rfl | rfl <;> decide
  · intro i hi
    have : i < 35 := by
      rcases Nat.lt_or_ge i 35 with h | h
      · exact h
      · rw [Nat.testBit_lt_two_pow (Nat.lt_of_lt_of_le (show 32212254720 < 2 ^ 35 by decide) (Nat.pow_le_pow_right (by decide) h))] at hi; cases hi
    have h2 : ∀ i, i < 35 → (32212254720 : Nat).testBit i = true → ALL.testBit i = true := by decide
    exact h2 i this hi

attribute [local irreducible] Bm.crw bdL wyL anot
attribute [local go_sem] build60f

set_option maxRecDepth 100000 in
set_option maxHeartbeats 8000000 in
theorem after_any (b : Bm) (hb : BOk b) (W : List Nat) (ov : Nat) (h1 : 1 ≤ W.length) (h13 : W.length ≤ 13) (hfi : Sub (W.headD 0) ALL) (hla : Sub (W.getLastD 0) ALL) (hov : Sub ov ALL) (w : World) :
    Calls Tryd.prog 47 #[.agg (bdL b).toArray, .agg (wyL W ov).toArray] w fun e w' => e = .returned (.agg (bdL (aft b (W, ov))).toArray) ∧ Below w.heap.size w w' := by
  have HW13 := hide h13
  have HFI := hide (fun W' => first_any W ov h1 h13 W')
  have HLA := hide (fun W' => last_any W ov h1 h13 W')
  have HCR := hide (fun W' => crowning_any b hb.mov W')
  have HCS := hide (crw_sub b)
  have hm := hb.mov
  have HOT : Hid (∀ W', Calls Tryd.prog 72 #[.int .i64 (b.mov : Nat)] W' fun e w' => e = .returned (.int .i64 ((3 - b.mov : Nat) : Int)) ∧ w' = W') := hide (fun W' => theOther_any b.mov (by omega) W')
  have HA : Hid (aft b (W, ov) = { own := anot b.oth ov, oth := anot b.own (W.headD 0) ||| W.getLastD 0, kin := if (W.headD 0 &&& b.kin) ||| (W.getLastD 0 &&& b.crw) = 0 then anot b.kin (ov ||| W.headD 0) else anot b.kin (ov ||| W.headD 0) ||| W.getLastD 0, mov := 3 - b.mov }) := hide rfl
  obtain ⟨fi, hfe⟩ : ∃ fi, W.headD 0 = fi := ⟨_, rfl⟩
  obtain ⟨la, hle⟩ : ∃ la, W.getLastD 0 = la := ⟨_, rfl⟩
  rw [hfe] at hfi HFI HA
  rw [hle] at hla HLA HA
  have e1 := or_nat hov.lt64 hfi.lt64
  have e2 := anot_nat hb.kin.lt64 (hov.or hfi).lt64
  have e3 := and_nat hfi.lt64 hb.kin.lt64
  have e4 := and_nat hla.lt64 HCS.out.lt64
  have e5 := or_nat (Sub.and_left (y := b.kin) hfi).lt64 (Sub.and_left (y := b.crw) hla).lt64
  have e6 := anot_nat hb.oth.lt64 hov.lt64
  have e7 := anot_nat hb.own.lt64 hfi.lt64
  have e8 := or_nat (Sub.anot (y := fi) hb.own).lt64 hla.lt64
  have e9 := or_nat (Sub.anot (y := ov ||| fi) hb.kin).lt64 hla.lt64
  obtain ⟨of, hof⟩ : ∃ of, ov ||| fi = of := ⟨_, rfl⟩
  rw [hof] at e1 e2 e9 HA
  obtain ⟨k1, hk1⟩ : ∃ k1, anot b.kin of = k1 := ⟨_, rfl⟩
  rw [hk1] at e2 e9 HA
  obtain ⟨k2, hk2⟩ : ∃ k2, k1 ||| la = k2 := ⟨_, rfl⟩
  rw [hk2] at e9 HA
  obtain ⟨a1, ha1⟩ : ∃ a1, fi &&& b.kin = a1 := ⟨_, rfl⟩
  rw [ha1] at e3 e5 HA
  obtain ⟨a2, ha2⟩ : ∃ a2, la &&& b.crw = a2 := ⟨_, rfl⟩
  rw [ha2] at e4 e5 HA
  obtain ⟨a3, ha3⟩ : ∃ a3, a1 ||| a2 = a3 := ⟨_, rfl⟩
  rw [ha3] at e5 HA
  obtain ⟨q1, hq1⟩ : ∃ q1, anot b.oth ov = q1 := ⟨_, rfl⟩
  rw [hq1] at e6 HA
  obtain ⟨q2, hq2⟩ : ∃ q2, anot b.own fi = q2 := ⟨_, rfl⟩
  rw [hq2] at e7 e8 HA
  obtain ⟨q3, hq3⟩ : ∃ q3, q2 ||| la = q3 := ⟨_, rfl⟩
  rw [hq3] at e8 HA
  obtain ⟨AF, hAF⟩ : ∃ AF, aft b (W, ov) = AF := ⟨_, rfl⟩
  rw [hAF] at HA ⊢
  obtain ⟨w1, hw1⟩ : ∃ w1, ((w.alloc (.cells (bdL b).toArray 60)).alloc (.cells (wyL W ov).toArray 65)).alloc (.cells #[.int .u64 0, .int .u64 0, .int .u64 0, .int .i64 0] 60) = w1 := ⟨_, rfl⟩
  have B1 : Below w.heap.size w w1 := by rw [← hw1]; exact (((Below.refl _ _).alloc (Nat.le_refl _) _).alloc (by simp) _).alloc (by simp only [World.size_alloc]; omega) _
  have HB1 := hide B1
  have HV1 : Hid (Vb w1 w.heap.size 60 (bdL b)) := hide (by rw [← hw1]; exact ((Vb.new _ _ _).old _).old _)
  have HVW1 : Hid (Vb w1 (w.heap.size + 1) 65 (wyL W ov)) := hide (by
    rw [← hw1]
    have := Vb.new (w.alloc (.cells (bdL b).toArray 60)) 65 (wyL W ov)
    rw [World.size_alloc] at this
    exact this.old _)
  have HVR1 : Hid (Vb w1 (w.heap.size + 2) 60 (bdL ⟨0, 0, 0, 0⟩)) := hide (by
    rw [← hw1]
    have := Vb.new ((w.alloc (.cells (bdL b).toArray 60)).alloc (.cells (wyL W ov).toArray 65)) 60 [.int .u64 0, .int .u64 0, .int .u64 0, .int .i64 0]
    rw [World.size_alloc, World.size_alloc] at this
    have e : bdL ⟨0, 0, 0, 0⟩ = [.int .u64 0, .int .u64 0, .int .u64 0, .int .i64 0] := by unfold bdL; rfl
    rw [e]
    exact this)
  clear hb hfi hla hov hof hk1 hk2 ha1 ha2 ha3 hq1 hq2 hq3 hAF hfe hle B1 h1 h13 hm
  go_enter Tryd.func47, Tryd.ntmps47
  go_upto_region 1 with fail
  clear hw1
  refine wp_region_held (S := fun W4 => Below w1.heap.size w1 W4) (by kernel_rfl) ?_
  change wpAnyH _ _ _ _ _ _ _ _ (World.drew _)
  have SW : Below w1.heap.size w1 w1.drew := (Below.refl _ w1).drew
  refine wpAnyH_take (i := 0) (v := .agg (wyL W ov).toArray) rfl (by kernel_rfl) (by kernel_rfl) (by kernel_rfl) (fun _ _ _ h => h) (yieldsIf_load_mid (by rfl) 65 _ rfl (w.heap.size + 1) 0 (by rfl) (wyL W ov) _ (fun W hW => (HVW1.out.mono hW).range) Tryd.underlying65 rfl (size65w HW13.out)) SW ?_
  go_simp
  refine wpAnyH_take (i := 2) (v := .agg (wyL W ov).toArray) rfl (by kernel_rfl) (by kernel_rfl) (by kernel_rfl) (fun _ _ _ h => h) (yieldsIf_load_mid (by rfl) 65 _ rfl (w.heap.size + 1) 0 (by rfl) (wyL W ov) _ (fun W hW => (HVW1.out.mono hW).range) Tryd.underlying65 rfl (size65w HW13.out)) SW ?_
  go_simp
  refine wpAnyH_ready (rs := [1]) (by kernel_rfl) (by simp) ?_
  refine AllReadyH.cons rfl (fun K1 hK1 => ?_) AllReadyH.nil
  go_simp
  refine (HFI.out _).mono ?_
  rintro r w5 ⟨rfl, hb5⟩
  have B5 := SW.trans (hb5.mono SW.size)
  refine hK1.out _ _ B5 (fun SW => ?_)
  clear hK1 K1 hb5
  go_simp
  refine wpAnyH_ready (rs := [3]) (by kernel_rfl) (by simp) ?_
  refine AllReadyH.cons rfl (fun K1 hK1 => ?_) AllReadyH.nil
  go_simp
  refine (HLA.out _).mono ?_
  rintro r w6 ⟨rfl, hb6⟩
  have B6 := SW.trans (hb6.mono SW.size)
  refine hK1.out _ _ B6 (fun SW => ?_)
  clear hK1 K1 hb6
  go_simp
  refine wpAnyH_ready (rs := [4]) (by kernel_rfl) (by simp) ?_
  refine AllReadyH.cons rfl (fun K1 hK1 => ?_) AllReadyH.nil
  go_simp
  refine hK1.out _ _ SW (fun SW => ?_)
  clear hK1 K1
  go_simp
  refine wpAnyH_ready (rs := [5]) (by kernel_rfl) (by simp) ?_
  refine AllReadyH.cons rfl (fun K1 hK1 => ?_) AllReadyH.nil
  go_simp
  refine hK1.out _ _ SW (fun SW => ?_)
  clear hK1 K1
  go_simp
  refine wpAnyH_done (by kernel_rfl) ?_ _
  have HB6 := hide B6
  have V6 := HV1.out.mono B6
  have VW6 := HVW1.out.mono B6
  have c2 := V6.cell (i := 2) (v := .int .u64 (b.kin : Nat)) (by unfold bdL; rfl)
  have c14 := VW6.cell (wy_over HW13.out)
  have HV6 := hide V6
  have HVW6 := hide VW6
  clear SW B6 B5 V6 VW6
  go_upto_region 3 with fail
  clear e1 e2 c2 c14
  have HC6 : Hid (∀ W4, Below w6.heap.size w6 W4 → W4.cell? ⟨w.heap.size, 2, none⟩ = some (.int .u64 (b.kin : Nat))) := hide (fun W4 h => (HV6.out.mono h).cell (i := 2) (by unfold bdL; rfl))
  refine wp_region_held (S := fun W4 => Below w6.heap.size w6 W4) (by kernel_rfl) ?_
  change wpAnyH _ _ _ _ _ _ _ _ (World.drew _)
  have SW : Below w6.heap.size w6 w6.drew := (Below.refl _ w6).drew
  refine wpAnyH_take (i := 0) (v := .int .u64 (fi : Nat)) rfl (by kernel_rfl) (by kernel_rfl) (by kernel_rfl) (fun _ _ _ h => h) (Or.inl ⟨by rfl, ?_⟩) SW ?_
  · intro W4 hW4
    go_simp <;> first | done | rfl | (rw [IntKind.wrap_i64]; omega) | omega
  go_simp
  refine wpAnyH_take (i := 1) (v := .pointer (some ⟨w.heap.size, 2, none⟩)) rfl (by kernel_rfl) (by kernel_rfl) (by kernel_rfl) (fun _ _ _ h => h) (Or.inl ⟨by rfl, ?_⟩) SW ?_
  · intro W4 hW4
    go_simp <;> first | done | rfl | (rw [IntKind.wrap_i64]; omega) | omega
  go_simp
  refine wpAnyH_take (i := 2) (v := .int .u64 (b.kin : Nat)) rfl (by kernel_rfl) (by kernel_rfl) (by kernel_rfl) (fun _ _ _ h => h) (Or.inl ⟨by rfl, ?_⟩) SW ?_
  · intro W4 hW4
    have x0 := HC6.out W4 hW4
    go_simp <;> first | done | rfl | (rw [IntKind.wrap_i64]; omega) | omega
  go_simp
  refine wpAnyH_take (i := 3) (v := .int .u64 (a1 : Nat)) rfl (by kernel_rfl) (by kernel_rfl) (by kernel_rfl) (fun _ _ _ h => h) (Or.inl ⟨by rfl, ?_⟩) SW ?_
  · intro W4 hW4
    have x0 := e3
    go_simp <;> first | done | rfl | (rw [IntKind.wrap_i64]; omega) | omega
  go_simp
  refine wpAnyH_take (i := 4) (v := .int .u64 (la : Nat)) rfl (by kernel_rfl) (by kernel_rfl) (by kernel_rfl) (fun _ _ _ h => h) (Or.inl ⟨by rfl, ?_⟩) SW ?_
  · intro W4 hW4
    go_simp <;> first | done | rfl | (rw [IntKind.wrap_i64]; omega) | omega
  go_simp
  refine wpAnyH_take (i := 5) (v := .agg (bdL b).toArray) rfl (by kernel_rfl) (by kernel_rfl) (by kernel_rfl) (fun _ _ _ h => h) (yieldsIf_load_mid (by rfl) 60 _ rfl w.heap.size 0 (by rfl) (bdL b) _ (fun W hW => (HV6.out.mono hW).range) Tryd.underlying60 rfl (by unfold bdL; exact size60)) SW ?_
  go_simp
  refine wpAnyH_ready (rs := [6]) (by kernel_rfl) (by simp) ?_
  refine AllReadyH.cons rfl (fun K1 hK1 => ?_) AllReadyH.nil
  go_simp
  refine (HCR.out _).mono ?_
  rintro r w7 ⟨rfl, hb7⟩
  have B7 := SW.trans (hb7.mono SW.size)
  refine hK1.out _ _ B7 (fun SW => ?_)
  clear hK1 K1 hb7
  go_simp
  refine wpAnyH_take (i := 7) (v := .int .u64 (a2 : Nat)) rfl (by kernel_rfl) (by kernel_rfl) (by kernel_rfl) (fun _ _ _ h => h) (Or.inl ⟨by rfl, ?_⟩) SW ?_
  · intro W4 hW4
    have x0 := e4
    go_simp <;> first | done | rfl | (rw [IntKind.wrap_i64]; omega) | omega
  go_simp
  refine wpAnyH_take (i := 8) (v := .int .u64 (a3 : Nat)) rfl (by kernel_rfl) (by kernel_rfl) (by kernel_rfl) (fun _ _ _ h => h) (Or.inl ⟨by rfl, ?_⟩) SW ?_
  · intro W4 hW4
    have x0 := e5
    go_simp <;> first | done | rfl | (rw [IntKind.wrap_i64]; omega) | omega
  go_simp
  obtain ⟨kk, hkk⟩ : ∃ kk, (if a3 = 0 then k1 else k2) = kk := ⟨_, rfl⟩
  rw [hkk] at HA
  by_cases hz : a3 = 0
  · have hzz : ((a3 : Int) != 0) = false := by rw [hz]; rfl
    rw [if_pos hz] at hkk
    have HKK := hide hkk
    clear hkk hz
    refine wpAnyH_take (i := 9) (v := .bool false) rfl (by kernel_rfl) (by kernel_rfl) (by kernel_rfl) (fun _ _ _ h => h) (Or.inl ⟨by rfl, ?_⟩) SW ?_
    · intro W4 hW4
      go_simp <;> first | done | rfl | (rw [IntKind.wrap_i64]; omega) | omega
    go_simp
    refine wpAnyH_done (by kernel_rfl) ?_ _
    have HB7 := hide (HB6.out.trans (B7.mono HB6.out.size))
    have HV7 := hide (HV6.out.mono B7)
    have HVW7 := hide (HVW6.out.mono B7)
    have HVR7 := hide (HVR1.out.mono HB7.out)
    clear SW B7 hzz HC6
    go_upto_region 5 with fail
    clear e9
    have HC7 : Hid (∀ W4, Keeps (fun k => k = w.heap.size + 2) w7 W4 → W4.cell? ⟨w.heap.size, 1, none⟩ = some (.int .u64 (b.oth : Nat)) ∧ W4.cell? ⟨w.heap.size + 1, 14, none⟩ = some (.int .u64 (ov : Nat)) ∧ W4.cell? ⟨w.heap.size, 0, none⟩ = some (.int .u64 (b.own : Nat)) ∧ W4.cell? ⟨w.heap.size, 3, none⟩ = some (.int .i64 (b.mov : Nat))) := hide (fun W4 h => ⟨(HV7.out.keeps h (by omega)).cell (i := 1) (by unfold bdL; rfl), (HVW7.out.keeps h (by omega)).cell (wy_over HW13.out), (HV7.out.keeps h (by omega)).cell (i := 0) (by unfold bdL; rfl), (HV7.out.keeps h (by omega)).cell (i := 3) (by unfold bdL; rfl)⟩)
    refine wp_region_held (S := fun W4 => Keeps (fun k => k = w.heap.size + 2) w7 W4) (by kernel_rfl) ?_
    change wpAnyH _ _ _ _ _ _ _ _ (World.drew _)
    have SW : Keeps (fun k => k = w.heap.size + 2) w7 w7.drew := (Keeps.refl _ w7).drew
    refine wpAnyH_take (i := 0) (v := .pointer (some ⟨w.heap.size, 1, none⟩)) rfl (by kernel_rfl) (by kernel_rfl) (by kernel_rfl) (fun _ _ _ h => h) (Or.inl ⟨by rfl, ?_⟩) SW ?_
    · intro W4 hW4
      go_simp <;> first | done | rfl | (rw [IntKind.wrap_i64]; omega) | omega
    go_simp
    refine wpAnyH_take (i := 1) (v := .int .u64 (b.oth : Nat)) rfl (by kernel_rfl) (by kernel_rfl) (by kernel_rfl) (fun _ _ _ h => h) (Or.inl ⟨by rfl, ?_⟩) SW ?_
    · intro W4 hW4
      have x0 := (HC7.out W4 hW4).1
      go_simp <;> first | done | rfl | (rw [IntKind.wrap_i64]; omega) | omega
    go_simp
    refine wpAnyH_take (i := 2) (v := .pointer (some ⟨w.heap.size + 1, 14, none⟩)) rfl (by kernel_rfl) (by kernel_rfl) (by kernel_rfl) (fun _ _ _ h => h) (Or.inl ⟨by rfl, ?_⟩) SW ?_
    · intro W4 hW4
      go_simp <;> first | done | rfl | (rw [IntKind.wrap_i64]; omega) | omega
    go_simp
    refine wpAnyH_take (i := 3) (v := .int .u64 (ov : Nat)) rfl (by kernel_rfl) (by kernel_rfl) (by kernel_rfl) (fun _ _ _ h => h) (Or.inl ⟨by rfl, ?_⟩) SW ?_
    · intro W4 hW4
      have x0 := (HC7.out W4 hW4).2.1
      go_simp <;> first | done | rfl | (rw [IntKind.wrap_i64]; omega) | omega
    go_simp
    refine wpAnyH_take (i := 4) (v := .int .u64 (q1 : Nat)) rfl (by kernel_rfl) (by kernel_rfl) (by kernel_rfl) (fun _ _ _ h => h) (Or.inl ⟨by rfl, ?_⟩) SW ?_
    · intro W4 hW4
      have x0 := e6
      go_simp <;> first | done | rfl | (rw [IntKind.wrap_i64]; omega) | omega
    go_simp
    refine wpAnyH_take (i := 5) (v := .pointer (some ⟨w.heap.size, 0, none⟩)) rfl (by kernel_rfl) (by kernel_rfl) (by kernel_rfl) (fun _ _ _ h => h) (Or.inl ⟨by rfl, ?_⟩) SW ?_
    · intro W4 hW4
      go_simp <;> first | done | rfl | (rw [IntKind.wrap_i64]; omega) | omega
    go_simp
    refine wpAnyH_take (i := 6) (v := .int .u64 (b.own : Nat)) rfl (by kernel_rfl) (by kernel_rfl) (by kernel_rfl) (fun _ _ _ h => h) (Or.inl ⟨by rfl, ?_⟩) SW ?_
    · intro W4 hW4
      have x0 := (HC7.out W4 hW4).2.2.1
      go_simp <;> first | done | rfl | (rw [IntKind.wrap_i64]; omega) | omega
    go_simp
    refine wpAnyH_take (i := 7) (v := .int .u64 (fi : Nat)) rfl (by kernel_rfl) (by kernel_rfl) (by kernel_rfl) (fun _ _ _ h => h) (Or.inl ⟨by rfl, ?_⟩) SW ?_
    · intro W4 hW4
      go_simp <;> first | done | rfl | (rw [IntKind.wrap_i64]; omega) | omega
    go_simp
    refine wpAnyH_take (i := 8) (v := .int .u64 (q2 : Nat)) rfl (by kernel_rfl) (by kernel_rfl) (by kernel_rfl) (fun _ _ _ h => h) (Or.inl ⟨by rfl, ?_⟩) SW ?_
    · intro W4 hW4
      have x0 := e7
      go_simp <;> first | done | rfl | (rw [IntKind.wrap_i64]; omega) | omega
    go_simp
    refine wpAnyH_take (i := 9) (v := .int .u64 (la : Nat)) rfl (by kernel_rfl) (by kernel_rfl) (by kernel_rfl) (fun _ _ _ h => h) (Or.inl ⟨by rfl, ?_⟩) SW ?_
    · intro W4 hW4
      go_simp <;> first | done | rfl | (rw [IntKind.wrap_i64]; omega) | omega
    go_simp
    refine wpAnyH_take (i := 10) (v := .int .u64 (q3 : Nat)) rfl (by kernel_rfl) (by kernel_rfl) (by kernel_rfl) (fun _ _ _ h => h) (Or.inl ⟨by rfl, ?_⟩) SW ?_
    · intro W4 hW4
      have x0 := e8
      go_simp <;> first | done | rfl | (rw [IntKind.wrap_i64]; omega) | omega
    go_simp
    refine wpAnyH_take (i := 11) (v := .int .u64 (k1 : Nat)) rfl (by kernel_rfl) (by kernel_rfl) (by kernel_rfl) (fun _ _ _ h => h) (Or.inl ⟨by rfl, ?_⟩) SW ?_
    · intro W4 hW4
      go_simp <;> first | done | rfl | (rw [IntKind.wrap_i64]; omega) | omega
    go_simp
    refine wpAnyH_take (i := 12) (v := .pointer (some ⟨w.heap.size, 3, none⟩)) rfl (by kernel_rfl) (by kernel_rfl) (by kernel_rfl) (fun _ _ _ h => h) (Or.inl ⟨by rfl, ?_⟩) SW ?_
    · intro W4 hW4
      go_simp <;> first | done | rfl | (rw [IntKind.wrap_i64]; omega) | omega
    go_simp
    refine wpAnyH_take (i := 13) (v := .int .i64 (b.mov : Nat)) rfl (by kernel_rfl) (by kernel_rfl) (by kernel_rfl) (fun _ _ _ h => h) (Or.inl ⟨by rfl, ?_⟩) SW ?_
    · intro W4 hW4
      have x0 := (HC7.out W4 hW4).2.2.2
      go_simp <;> first | done | rfl | (rw [IntKind.wrap_i64]; omega) | omega
    go_simp
    refine wpAnyH_ready (rs := [14]) (by kernel_rfl) (by simp) ?_
    refine AllReadyH.cons rfl (fun K1 hK1 => ?_) AllReadyH.nil
    go_simp
    refine (HOT.out _).mono ?_
    rintro r w8 ⟨rfl, hw8⟩
    subst w8
    refine hK1.out _ _ SW (fun SW => ?_)
    clear hK1 K1
    go_simp
    refine wpAnyH_take (i := 15) (v := .agg #[.int .u64 (q1 : Nat), .int .u64 (q3 : Nat), .int .u64 (k1 : Nat), .int .i64 ((3 - b.mov : Nat) : Int)]) rfl (by kernel_rfl) (by kernel_rfl) (by kernel_rfl) (fun _ _ _ h => h) (Or.inl ⟨by rfl, ?_⟩) SW ?_
    · intro W4 hW4
      go_simp <;> first | done | rfl | (rw [IntKind.wrap_i64]; omega) | omega
    go_simp
    refine wpAnyH_ready (rs := [16]) (by kernel_rfl) (by simp) ?_
    refine AllReadyH.cons rfl (fun K1 hK1 => ?_) AllReadyH.nil
    have hE : (.agg #[.int .u64 (q1 : Nat), .int .u64 (q3 : Nat), .int .u64 (k1 : Nat), .int .i64 ((3 - b.mov : Nat) : Int)] : Value) = .agg (bdL AF).toArray := by rw [HA.out, ← HKK.out]; unfold bdL; rfl
    refine wp_store_row 60 (.tmp 4) (.tmp 47) rfl (w.heap.size + 2) (bdL AF).toArray rfl hE 60 _ (HVR7.out.mono (drewN_below _ _ 1)) (by unfold bdL; exact size60) (by unfold bdL; rfl) (by unfold bdL; simp [Value.oneCell']) ?_
    have hVR : Vb (w7.drew.setRow (w.heap.size + 2) (bdL AF).toArray) (w.heap.size + 2) 60 (bdL AF) := by
      have hb' : w7.drew.heap[w.heap.size + 2]? = _ := HVR7.out.mono (drewN_below _ _ 1)
      simp [Vb, World.setRow, Array.getElem?_modify, hb']
    have SB : Keeps (fun k => k = w.heap.size + 2) w7 (w7.drew.setRow (w.heap.size + 2) (bdL AF).toArray) := SW.trans ⟨rfl, rfl, rfl, by simp [World.setRow], fun k _ hk => by simp [World.setRow, Array.getElem?_modify, show ¬ w.heap.size + 2 = k from fun e => hk e.symm]⟩
    refine hK1.out _ _ SB (fun SW => ?_)
    clear hK1 K1
    generalize w7.drew.setRow (w.heap.size + 2) (bdL AF).toArray = w8 at hVR SW ⊢
    have HVR8 := hide hVR
    have HSW := hide SW
    clear SB hE hVR
    go_simp
    refine wpAnyH_done (by kernel_rfl) ?_ _
    clear SW
    go_wp2_with fail
    refine bodyPost_ret (results_bd rfl _ _ (w.heap.size + 2) rfl HVR8.out) rfl ⟨rfl, ?_⟩
    exact HB1.out.trans ((HB7.out.mono HB1.out.size).trans ((HSW.out.mono (Y := fun k => w.heap.size ≤ k) (fun k _ e => by omega)).below (Nat.le_trans HB1.out.size HB7.out.size) (fun k hk e => by omega)))
  · have hzz : ((a3 : Int) != 0) = true := by exact u64_ne hz
    rw [if_neg hz] at hkk
    have HKK := hide hkk
    clear hkk hz
    refine wpAnyH_take (i := 9) (v := .bool true) rfl (by kernel_rfl) (by kernel_rfl) (by kernel_rfl) (fun _ _ _ h => h) (Or.inl ⟨by rfl, ?_⟩) SW ?_
    · intro W4 hW4
      go_simp <;> first | done | rfl | (rw [IntKind.wrap_i64]; omega) | omega
    go_simp
    refine wpAnyH_done (by kernel_rfl) ?_ _
    have HB7 := hide (HB6.out.trans (B7.mono HB6.out.size))
    have HV7 := hide (HV6.out.mono B7)
    have HVW7 := hide (HVW6.out.mono B7)
    have HVR7 := hide (HVR1.out.mono HB7.out)
    clear SW B7 hzz HC6
    go_upto_region 5 with fail
    clear e9
    have HC7 : Hid (∀ W4, Keeps (fun k => k = w.heap.size + 2) w7 W4 → W4.cell? ⟨w.heap.size, 1, none⟩ = some (.int .u64 (b.oth : Nat)) ∧ W4.cell? ⟨w.heap.size + 1, 14, none⟩ = some (.int .u64 (ov : Nat)) ∧ W4.cell? ⟨w.heap.size, 0, none⟩ = some (.int .u64 (b.own : Nat)) ∧ W4.cell? ⟨w.heap.size, 3, none⟩ = some (.int .i64 (b.mov : Nat))) := hide (fun W4 h => ⟨(HV7.out.keeps h (by omega)).cell (i := 1) (by unfold bdL; rfl), (HVW7.out.keeps h (by omega)).cell (wy_over HW13.out), (HV7.out.keeps h (by omega)).cell (i := 0) (by unfold bdL; rfl), (HV7.out.keeps h (by omega)).cell (i := 3) (by unfold bdL; rfl)⟩)
    refine wp_region_held (S := fun W4 => Keeps (fun k => k = w.heap.size + 2) w7 W4) (by kernel_rfl) ?_
    change wpAnyH _ _ _ _ _ _ _ _ (World.drew _)
    have SW : Keeps (fun k => k = w.heap.size + 2) w7 w7.drew := (Keeps.refl _ w7).drew
    refine wpAnyH_take (i := 0) (v := .pointer (some ⟨w.heap.size, 1, none⟩)) rfl (by kernel_rfl) (by kernel_rfl) (by kernel_rfl) (fun _ _ _ h => h) (Or.inl ⟨by rfl, ?_⟩) SW ?_
    · intro W4 hW4
      go_simp <;> first | done | rfl | (rw [IntKind.wrap_i64]; omega) | omega
    go_simp
    refine wpAnyH_take (i := 1) (v := .int .u64 (b.oth : Nat)) rfl (by kernel_rfl) (by kernel_rfl) (by kernel_rfl) (fun _ _ _ h => h) (Or.inl ⟨by rfl, ?_⟩) SW ?_
    · intro W4 hW4
      have x0 := (HC7.out W4 hW4).1
      go_simp <;> first | done | rfl | (rw [IntKind.wrap_i64]; omega) | omega
    go_simp
    refine wpAnyH_take (i := 2) (v := .pointer (some ⟨w.heap.size + 1, 14, none⟩)) rfl (by kernel_rfl) (by kernel_rfl) (by kernel_rfl) (fun _ _ _ h => h) (Or.inl ⟨by rfl, ?_⟩) SW ?_
    · intro W4 hW4
      go_simp <;> first | done | rfl | (rw [IntKind.wrap_i64]; omega) | omega
    go_simp
    refine wpAnyH_take (i := 3) (v := .int .u64 (ov : Nat)) rfl (by kernel_rfl) (by kernel_rfl) (by kernel_rfl) (fun _ _ _ h => h) (Or.inl ⟨by rfl, ?_⟩) SW ?_
    · intro W4 hW4
      have x0 := (HC7.out W4 hW4).2.1
      go_simp <;> first | done | rfl | (rw [IntKind.wrap_i64]; omega) | omega
    go_simp
    refine wpAnyH_take (i := 4) (v := .int .u64 (q1 : Nat)) rfl (by kernel_rfl) (by kernel_rfl) (by kernel_rfl) (fun _ _ _ h => h) (Or.inl ⟨by rfl, ?_⟩) SW ?_
    · intro W4 hW4
      have x0 := e6
      go_simp <;> first | done | rfl | (rw [IntKind.wrap_i64]; omega) | omega
    go_simp
    refine wpAnyH_take (i := 5) (v := .pointer (some ⟨w.heap.size, 0, none⟩)) rfl (by kernel_rfl) (by kernel_rfl) (by kernel_rfl) (fun _ _ _ h => h) (Or.inl ⟨by rfl, ?_⟩) SW ?_
    · intro W4 hW4
      go_simp <;> first | done | rfl | (rw [IntKind.wrap_i64]; omega) | omega
    go_simp
    refine wpAnyH_take (i := 6) (v := .int .u64 (b.own : Nat)) rfl (by kernel_rfl) (by kernel_rfl) (by kernel_rfl) (fun _ _ _ h => h) (Or.inl ⟨by rfl, ?_⟩) SW ?_
    · intro W4 hW4
      have x0 := (HC7.out W4 hW4).2.2.1
      go_simp <;> first | done | rfl | (rw [IntKind.wrap_i64]; omega) | omega
    go_simp
    refine wpAnyH_take (i := 7) (v := .int .u64 (fi : Nat)) rfl (by kernel_rfl) (by kernel_rfl) (by kernel_rfl) (fun _ _ _ h => h) (Or.inl ⟨by rfl, ?_⟩) SW ?_
    · intro W4 hW4
      go_simp <;> first | done | rfl | (rw [IntKind.wrap_i64]; omega) | omega
    go_simp
    refine wpAnyH_take (i := 8) (v := .int .u64 (q2 : Nat)) rfl (by kernel_rfl) (by kernel_rfl) (by kernel_rfl) (fun _ _ _ h => h) (Or.inl ⟨by rfl, ?_⟩) SW ?_
    · intro W4 hW4
      have x0 := e7
      go_simp <;> first | done | rfl | (rw [IntKind.wrap_i64]; omega) | omega
    go_simp
    refine wpAnyH_take (i := 9) (v := .int .u64 (la : Nat)) rfl (by kernel_rfl) (by kernel_rfl) (by kernel_rfl) (fun _ _ _ h => h) (Or.inl ⟨by rfl, ?_⟩) SW ?_
    · intro W4 hW4
      go_simp <;> first | done | rfl | (rw [IntKind.wrap_i64]; omega) | omega
    go_simp
    refine wpAnyH_take (i := 10) (v := .int .u64 (q3 : Nat)) rfl (by kernel_rfl) (by kernel_rfl) (by kernel_rfl) (fun _ _ _ h => h) (Or.inl ⟨by rfl, ?_⟩) SW ?_
    · intro W4 hW4
      have x0 := e8
      go_simp <;> first | done | rfl | (rw [IntKind.wrap_i64]; omega) | omega
    go_simp
    refine wpAnyH_take (i := 11) (v := .int .u64 (k2 : Nat)) rfl (by kernel_rfl) (by kernel_rfl) (by kernel_rfl) (fun _ _ _ h => h) (Or.inl ⟨by rfl, ?_⟩) SW ?_
    · intro W4 hW4
      go_simp <;> first | done | rfl | (rw [IntKind.wrap_i64]; omega) | omega
    go_simp
    refine wpAnyH_take (i := 12) (v := .pointer (some ⟨w.heap.size, 3, none⟩)) rfl (by kernel_rfl) (by kernel_rfl) (by kernel_rfl) (fun _ _ _ h => h) (Or.inl ⟨by rfl, ?_⟩) SW ?_
    · intro W4 hW4
      go_simp <;> first | done | rfl | (rw [IntKind.wrap_i64]; omega) | omega
    go_simp
    refine wpAnyH_take (i := 13) (v := .int .i64 (b.mov : Nat)) rfl (by kernel_rfl) (by kernel_rfl) (by kernel_rfl) (fun _ _ _ h => h) (Or.inl ⟨by rfl, ?_⟩) SW ?_
    · intro W4 hW4
      have x0 := (HC7.out W4 hW4).2.2.2
      go_simp <;> first | done | rfl | (rw [IntKind.wrap_i64]; omega) | omega
    go_simp
    refine wpAnyH_ready (rs := [14]) (by kernel_rfl) (by simp) ?_
    refine AllReadyH.cons rfl (fun K1 hK1 => ?_) AllReadyH.nil
    go_simp
    refine (HOT.out _).mono ?_
    rintro r w8 ⟨rfl, hw8⟩
    subst w8
    refine hK1.out _ _ SW (fun SW => ?_)
    clear hK1 K1
    go_simp
    refine wpAnyH_take (i := 15) (v := .agg #[.int .u64 (q1 : Nat), .int .u64 (q3 : Nat), .int .u64 (k2 : Nat), .int .i64 ((3 - b.mov : Nat) : Int)]) rfl (by kernel_rfl) (by kernel_rfl) (by kernel_rfl) (fun _ _ _ h => h) (Or.inl ⟨by rfl, ?_⟩) SW ?_
    · intro W4 hW4
      go_simp <;> first | done | rfl | (rw [IntKind.wrap_i64]; omega) | omega
    go_simp
    refine wpAnyH_ready (rs := [16]) (by kernel_rfl) (by simp) ?_
    refine AllReadyH.cons rfl (fun K1 hK1 => ?_) AllReadyH.nil
    have hE : (.agg #[.int .u64 (q1 : Nat), .int .u64 (q3 : Nat), .int .u64 (k2 : Nat), .int .i64 ((3 - b.mov : Nat) : Int)] : Value) = .agg (bdL AF).toArray := by rw [HA.out, ← HKK.out]; unfold bdL; rfl
    refine wp_store_row 60 (.tmp 4) (.tmp 47) rfl (w.heap.size + 2) (bdL AF).toArray rfl hE 60 _ (HVR7.out.mono (drewN_below _ _ 1)) (by unfold bdL; exact size60) (by unfold bdL; rfl) (by unfold bdL; simp [Value.oneCell']) ?_
    have hVR : Vb (w7.drew.setRow (w.heap.size + 2) (bdL AF).toArray) (w.heap.size + 2) 60 (bdL AF) := by
      have hb' : w7.drew.heap[w.heap.size + 2]? = _ := HVR7.out.mono (drewN_below _ _ 1)
      simp [Vb, World.setRow, Array.getElem?_modify, hb']
    have SB : Keeps (fun k => k = w.heap.size + 2) w7 (w7.drew.setRow (w.heap.size + 2) (bdL AF).toArray) := SW.trans ⟨rfl, rfl, rfl, by simp [World.setRow], fun k _ hk => by simp [World.setRow, Array.getElem?_modify, show ¬ w.heap.size + 2 = k from fun e => hk e.symm]⟩
    refine hK1.out _ _ SB (fun SW => ?_)
    clear hK1 K1
    generalize w7.drew.setRow (w.heap.size + 2) (bdL AF).toArray = w8 at hVR SW ⊢
    have HVR8 := hide hVR
    have HSW := hide SW
    clear SB hE hVR
    go_simp
    refine wpAnyH_done (by kernel_rfl) ?_ _
    clear SW
    go_wp2_with fail
    refine bodyPost_ret (results_bd rfl _ _ (w.heap.size + 2) rfl HVR8.out) rfl ⟨rfl, ?_⟩
    exact HB1.out.trans ((HB7.out.mono HB1.out.size).trans ((HSW.out.mono (Y := fun k => w.heap.size ≤ k) (fun k _ e => by omega)).below (Nat.le_trans HB1.out.size HB7.out.size) (fun k hk e => by omega)))

end Go.Proofs.YtnbaangnpoblfaaDoor
