/-
  othello.New, walked. No conditions beyond those that each theorem bears.
-/
import Derived.Test.YtkmghlmniahgbaaDoorPv
namespace Go.Proofs.YtkmghlmniahgbaaDoor
open Go.RowKit

/-- An empty row. -/
def zer (n : Nat) : List Int := List.replicate n 0

theorem made_zer (n : Nat) : (madeCells #[Value.int .i64 0] n).toList = (zer n).map (Value.int .i64) := by
  rw [zer, List.map_replicate]
  apply List.ext_getElem
  · simp [madeCells]
  · intro i h1 h2
    simp [madeCells, Nat.mod_one]

/-- The start of the game, its halves given. -/
def st0 (a b : Nat) : List Int := ((((zer (2 * a * (2 * b))).set (b * (2 * a) + a - 2 * a - 1) 2).set (b * (2 * a) + a - 2 * a) 1).set (b * (2 * a) + a - 1) 1).set (b * (2 * a) + a) 2

theorem build24f (W H : Int) (a : Option Addr) (n c : Nat) (w : World) : (Instr.build 24 #[(0, .int .i64 W), (1, .int .i64 H), (2, .slice a n c)]).run Tryd.prog w = .ok (.agg (gdA W H a n c)) w := by
  simp [Instr.build, go_sem, run_underlying Tryd.underlying24]

attribute [local go_sem] build24z build24f

set_option maxRecDepth 100000 in
set_option maxHeartbeats 2000000 in
theorem New_no (x y : Int) (w : World) (h : sd x = false ∨ sd y = false) :
    Calls Tryd.prog 8 #[.int .i64 x, .int .i64 y] w fun e w' => e = .returned (.tuple #[.agg (gdA 0 0 none 0 0), .int .i64 3]) ∧ Below w.heap.size w w' := by
  obtain ⟨w1, hw1⟩ : ∃ w1, w.alloc (.cells (gdA 0 0 none 0 0) 24) = w1 := ⟨_, rfl⟩
  have HB1 : Hid (Below w.heap.size w w1) := hide (by rw [← hw1]; exact (Below.refl _ _).alloc (Nat.le_refl _) _)
  have Z1 : Gd w1 w.heap.size 0 0 none 0 0 := by rw [← hw1]; exact Gd.new _ _ _ _ _ _
  by_cases h1 : sd x = false
  · go_enter Tryd.func8, Tryd.ntmps8
    go_upto_region 1 with fail
    clear hw1
    go_wp2_with fail
    refine (oSide_any x _).mono ?_
    rintro r w2 ⟨rfl, rfl⟩
    rw [h1]
    go_wp2_with (refine wpList_store_gd rfl (.tmp 4) (.tmp 17) rfl w.heap.size rfl rfl Z1 ?_; intro w6 k6 kk6)
    refine bodyPost_ret (results_gdt rfl _ _ w.heap.size rfl k6 rfl) rfl ⟨rfl, ?_⟩
    exact HB1.out.trans ((kk6.mono (Y := fun q => w.heap.size ≤ q) (fun q _ e => by omega)).below (B := w.heap.size) HB1.out.size (fun q hq e => by omega))
  · have h2 : sd y = false := h.resolve_left h1
    have h3 : sd x = true := by simpa using h1
    clear h h1
    go_enter Tryd.func8, Tryd.ntmps8
    go_upto_region 1 with fail
    clear hw1
    go_wp2_with fail
    refine (oSide_any x _).mono ?_
    rintro r w2 ⟨rfl, rfl⟩
    rw [h3]
    go_wp2_with fail
    refine (oSide_any y _).mono ?_
    rintro r w2 ⟨rfl, rfl⟩
    rw [h2]
    go_wp2_with (refine wpList_store_gd rfl (.tmp 4) (.tmp 17) rfl w.heap.size rfl rfl Z1 ?_; intro w6 k6 kk6)
    refine bodyPost_ret (results_gdt rfl _ _ w.heap.size rfl k6 rfl) rfl ⟨rfl, ?_⟩
    exact HB1.out.trans ((kk6.mono (Y := fun q => w.heap.size ≤ q) (fun q _ e => by omega)).below (B := w.heap.size) HB1.out.size (fun q hq e => by omega))

set_option maxRecDepth 100000 in
set_option maxHeartbeats 4000000 in
theorem New_yes (a b : Nat) (ha : 2 ≤ a ∧ a ≤ 4) (hb : 2 ≤ b ∧ b ≤ 4) (w : World) :
    Calls Tryd.prog 8 #[.int .i64 (2 * a : Nat), .int .i64 (2 * b : Nat)] w fun e w' => ∃ cb cc, e = .returned (.tuple #[.agg (gdA (2 * a : Nat) (2 * b : Nat) (some ⟨cb, 0, none⟩) (2 * a * (2 * b)) cc), .int .i64 0]) ∧ w'.ownsRow w.heap.size 3 1 (.slice (some ⟨cb, 0, none⟩) (2 * a * (2 * b)) cc) (2 * a * (2 * b)) ((st0 a b).map (Value.int .i64)) ∧ Below w.heap.size w w' := by
  have hs1 : sd (2 * a : Nat) = true := by unfold sd; rw [decide_eq_true_iff]; omega
  have hs2 : sd (2 * b : Nat) = true := by unfold sd; rw [decide_eq_true_iff]; omega
  have t1 : Int.tdiv ((2 * b : Nat) : Int) 2 = (b : Int) := by rw [Int.tdiv_eq_ediv_of_nonneg (by omega)]; omega
  have t2 : Int.tdiv ((2 * a : Nat) : Int) 2 = (a : Int) := by rw [Int.tdiv_eq_ediv_of_nonneg (by omega)]; omega
  have t1' : ((2 * b : Nat) : Int) / 2 = (b : Int) := by omega
  have t2' : ((2 * a : Nat) : Int) / 2 = (a : Int) := by omega
  have hst : Hid (∃ z, st0 a b = z) := hide ⟨_, rfl⟩
  obtain ⟨z, hz⟩ := hst
  rw [hz]
  have hz' := hz
  unfold st0 at hz'
  have hn1 : 16 ≤ 2 * a * (2 * b) ∧ 2 * a * (2 * b) ≤ 64 := by
    have h1 : a = 2 ∨ a = 3 ∨ a = 4 := by omega
    have h2 : b = 2 ∨ b = 3 ∨ b = 4 := by omega
    rcases h1 with rfl | rfl | rfl <;> rcases h2 with rfl | rfl | rfl <;> omega
  have hr1 : 2 * a + 1 ≤ b * (2 * a) + a ∧ b * (2 * a) + a < 2 * a * (2 * b) := by
    have h1 : a = 2 ∨ a = 3 ∨ a = 4 := by omega
    have h2 : b = 2 ∨ b = 3 ∨ b = 4 := by omega
    rcases h1 with rfl | rfl | rfl <;> rcases h2 with rfl | rfl | rfl <;> omega
  have t3 : (b : Int) * ((2 * a : Nat) : Int) = ((b * (2 * a) : Nat) : Int) := by rw [← Int.natCast_mul]
  have t4 : ((2 * a : Nat) : Int) * ((2 * b : Nat) : Int) = ((2 * a * (2 * b) : Nat) : Int) := by rw [← Int.natCast_mul]
  have hW8 : 2 * a ≤ 8 := by omega
  have hH8 : 2 * b ≤ 8 := by omega
  clear hz
  generalize 2 * a * (2 * b) = n at *
  generalize b * (2 * a) = r at *
  generalize 2 * a = W at *
  generalize 2 * b = H at *
  obtain ⟨q, hq⟩ : ∃ q, r + a = q := ⟨_, rfl⟩
  rw [hq] at hz' hr1
  obtain ⟨q1, hq1⟩ : ∃ q1, q - W = q1 := ⟨_, rfl⟩
  obtain ⟨q2, hq2⟩ : ∃ q2, q1 - 1 = q2 := ⟨_, rfl⟩
  obtain ⟨q3, hq3⟩ : ∃ q3, q - 1 = q3 := ⟨_, rfl⟩
  rw [hq1, hq2, hq3] at hz'
  have t5 : (r : Int) + (a : Int) = (q : Int) := by omega
  have t6 : (q : Int) - (W : Int) = (q1 : Int) := by omega
  have t7 : (q1 : Int) - 1 = (q2 : Int) := by omega
  have t8 : (q : Int) - 1 = (q3 : Int) := by omega
  have b1 : q < n ∧ q1 < n ∧ q2 < n ∧ q3 < n := by omega
  have HZZ := hide hz'
  have hr64 : r ≤ 64 := by omega
  clear hz' hq hq1 hq2 hq3
  obtain ⟨i0, hi, hz0, hz1, hz2⟩ := info_parts Tryd.info3
  have HMK : Hid (∀ W1 : World, ∃ w', (Instr.makeSlice 22 (.int .i64 (n : Int)) (.int .i64 (n : Int))).run Tryd.prog W1 = .ok (.slice (some ⟨W1.heap.size, 0, none⟩) n n) w' ∧ w'.ownsRow W1.heap.size 3 1 (.slice (some ⟨W1.heap.size, 0, none⟩) n n) n ((zer n).map (Value.int .i64)) ∧ W1.grownBy w' none) := hide (fun W1 => by
    obtain ⟨w', hrun, r1, r2⟩ := run_make_full (P := Tryd.prog) W1 W1.heap.size 22 3 i0 (.int .i64 0) 1 Tryd.underlying22 hi hz0 hz1 .i64 .i64 n (by rw [hz2]; omega) (by unfold maxLen; omega) (Nat.le_refl _)
    refine ⟨w', hrun, ?_, r2⟩
    rw [← made_zer]
    simpa [Value.cells] using r1)
  clear hi hz0 hz1 hz2
  obtain ⟨w1, hw1⟩ : ∃ w1, w.alloc (.cells (gdA 0 0 none 0 0) 24) = w1 := ⟨_, rfl⟩
  have HB1 : Hid (Below w.heap.size w w1) := hide (by rw [← hw1]; exact (Below.refl _ _).alloc (Nat.le_refl _) _)
  have Z1 : Gd w1 w.heap.size 0 0 none 0 0 := by rw [← hw1]; exact Gd.new _ _ _ _ _ _
  have HZ1 := hide Z1
  clear Z1
  go_enter Tryd.func8, Tryd.ntmps8
  go_upto_region 1 with fail
  clear hw1
  go_wp2_with fail
  refine (oSide_any _ _).mono ?_
  rintro r w2 ⟨rfl, rfl⟩
  rw [hs1]
  go_wp2_with fail
  refine (oSide_any _ _).mono ?_
  rintro r w2 ⟨rfl, rfl⟩
  rw [hs2]
  obtain ⟨w3, hrun, hO3, hg3⟩ := HMK.out w2
  have B23 : Below w2.heap.size w2 w3 := (Below.refl _ w2).grown hg3 (Nat.le_refl _) (fun j hj => by cases hj)
  have KZ := Gd.new w3 0 0 none 0 0
  have hcb := hO3.lt _ rfl
  have HO3 := hide hO3
  clear hO3 hg3
  go_upto_region 4 with (refine wpList_store_gd rfl (.tmp 6) (.tmp 24) rfl w3.heap.size rfl rfl KZ ?_; intro w4 G4 kk4)
  have hz1 := HZ1.out.lt
  have B34 : Below w3.heap.size w3 w4 := (((Keeps.refl (fun k => k = w3.heap.size) w3).alloc _).trans kk4).below (Nat.le_refl _) (fun k hk e => by omega)
  have HB4 : Hid (Below w.heap.size w w4) := hide ((HB1.out.trans (B23.mono HB1.out.size)).trans (B34.mono (by have := HB1.out.size; have := B23.size; omega)))
  have HZ4 := hide ((HZ1.out.below B23 hz1).below B34 (by have := B23.size; omega))
  have HO4 : Hid (w4.ownsRow w.heap.size 3 1 (.slice (some ⟨w2.heap.size, 0, none⟩) n n) n ((zer n).map (Value.int .i64))) := hide (own_base (own_below HO3.out B34) (by have := HB1.out.size; omega))
  have hgc0 : w2.heap.size < w3.heap.size := hcb.2
  have hws : w.heap.size < w2.heap.size := hz1
  have hcw : w2.heap.size < w4.heap.size := by have := B34.size; omega
  clear kk4 B34 B23 KZ hrun HO3 hcb HZ1 HB1 HMK
  obtain ⟨cb, hcb⟩ : ∃ cb, w2.heap.size = cb := ⟨_, rfl⟩
  obtain ⟨gb, hgb⟩ : ∃ gb, w3.heap.size = gb := ⟨_, rfl⟩
  rw [hcb] at HO4 G4 hgc0 hws hcw ⊢
  rw [hgb] at G4 hgc0 ⊢
  clear hcb hgb
  have hgc : ¬ gb = cb := by omega
  have HG := hide G4
  have P4 : PW w4 w.heap.size cb n n w4 (zer n) := ⟨Keeps.refl _ _, HO4.out⟩
  have HPK : Hid (Keeps (fun k => k = cb) w4 w4) := hide (Keeps.refl _ _)
  clear G4 HO4
  go_upto_region 6 with fail
  have HP0 := hide P4
  have HFC : Hid (∀ W4, Keeps (fun k => k = cb) w4 W4 → W4.cell? ⟨gb, 2, none⟩ = some (.slice (some ⟨cb, 0, none⟩) n n) ∧ True) := hide (fun W4 hb => ⟨(HG.out.keeps (HPK.out.trans hb) hgc).cells.2.2, trivial⟩)
  refine wp_region_held (S := fun W4 => Keeps (fun k => k = cb) w4 W4) (by kernel_rfl) ?_
  change wpAnyH _ _ _ _ _ _ _ _ (World.drew _)
  have SW : Keeps (fun k => k = cb) w4 w4.drew := Keeps.of_all (drewN_below _ _ 1)
  have PA := HP0.out.drewN 1
  change PW _ _ _ _ _ (World.drew _) _ at PA
  obtain ⟨⟨v1, c1⟩, f1⟩ := PA.cell (show q2 < n by omega)
  have HA := hide PA
  clear PA
  generalize w4.drew = wA at SW HA c1 f1 ⊢
  refine wpAnyH_take (i := 0) (v := .pointer (some ⟨gb, 2, none⟩)) rfl (by kernel_rfl) (by kernel_rfl) (by kernel_rfl) (fun _ _ _ h => h) (Or.inl ⟨by rfl, ?_⟩) SW ?_
  · intro W4 hW4
    go_simp <;> first | done | rfl | (rw [IntKind.wrap_i64]; omega) | omega
  go_simp
  refine wpAnyH_take (i := 1) (v := .slice (some ⟨cb, 0, none⟩) n n) rfl (by kernel_rfl) (by kernel_rfl) (by kernel_rfl) (fun _ _ _ h => h) (Or.inl ⟨by rfl, ?_⟩) SW ?_
  · intro W4 hW4
    obtain ⟨x0, x1⟩ := HFC.out W4 hW4
    go_simp <;> first | done | rfl | (rw [IntKind.wrap_i64]; omega) | omega
  go_simp
  refine wpAnyH_take (i := 2) (v := .int .i64 (q1 : Nat)) rfl (by kernel_rfl) (by kernel_rfl) (by kernel_rfl) (fun _ _ _ h => h) (Or.inl ⟨by rfl, ?_⟩) SW ?_
  · intro W4 hW4
    go_simp <;> first | done | rfl | (rw [IntKind.wrap_i64]; omega) | omega
  go_simp
  refine wpAnyH_take (i := 3) (v := .int .i64 (q2 : Nat)) rfl (by kernel_rfl) (by kernel_rfl) (by kernel_rfl) (fun _ _ _ h => h) (Or.inl ⟨by rfl, ?_⟩) SW ?_
  · intro W4 hW4
    have x0 := t7
    go_simp <;> first | done | rfl | (rw [IntKind.wrap_i64]; omega) | omega
  go_simp
  refine wpAnyH_take (i := 4) (v := .pointer (some ⟨gb, 2, none⟩)) rfl (by kernel_rfl) (by kernel_rfl) (by kernel_rfl) (fun _ _ _ h => h) (Or.inl ⟨by rfl, ?_⟩) SW ?_
  · intro W4 hW4
    go_simp <;> first | done | rfl | (rw [IntKind.wrap_i64]; omega) | omega
  go_simp
  refine wpAnyH_take (i := 5) (v := .slice (some ⟨cb, 0, none⟩) n n) rfl (by kernel_rfl) (by kernel_rfl) (by kernel_rfl) (fun _ _ _ h => h) (Or.inl ⟨by rfl, ?_⟩) SW ?_
  · intro W4 hW4
    obtain ⟨x0, x1⟩ := HFC.out W4 hW4
    go_simp <;> first | done | rfl | (rw [IntKind.wrap_i64]; omega) | omega
  go_simp
  refine wpAnyH_take (i := 6) (v := .int .i64 (q1 : Nat)) rfl (by kernel_rfl) (by kernel_rfl) (by kernel_rfl) (fun _ _ _ h => h) (Or.inl ⟨by rfl, ?_⟩) SW ?_
  · intro W4 hW4
    go_simp <;> first | done | rfl | (rw [IntKind.wrap_i64]; omega) | omega
  go_simp
  refine wpAnyH_ready (rs := [7]) (by kernel_rfl) (by simp) ?_
  refine AllReadyH.cons rfl (fun K1 hK1 => ?_) AllReadyH.nil
  go_simp
  refine hK1.out _ _ SW (fun SW => ?_)
  clear hK1 K1
  go_simp
  refine wpAnyH_ready (rs := [8]) (by kernel_rfl) (by simp) ?_
  refine AllReadyH.cons rfl (fun K1 hK1 => ?_) AllReadyH.nil
  go_simp
  have PB := HA.out.set q2 2
  have SB := SW.setCell (X := fun k => k = cb) (p := ⟨cb, q2, none⟩) rfl (.int .i64 2)
  refine hK1.out _ _ SB (fun SW => ?_)
  clear hK1 K1 c1 f1
  obtain ⟨⟨v2, c2⟩, f2⟩ := PB.cell (show q1 < n by omega)
  have HB' := hide PB
  clear PB SB
  generalize wA.setCell ⟨cb, q2, none⟩ (.int .i64 2) = wB at SW HB' c2 f2 ⊢
  go_simp
  refine wpAnyH_ready (rs := [9]) (by kernel_rfl) (by simp) ?_
  refine AllReadyH.cons rfl (fun K1 hK1 => ?_) AllReadyH.nil
  go_simp
  refine hK1.out _ _ SW (fun SW => ?_)
  clear hK1 K1
  go_simp
  refine wpAnyH_ready (rs := [10]) (by kernel_rfl) (by simp) ?_
  refine AllReadyH.cons rfl (fun K1 hK1 => ?_) AllReadyH.nil
  go_simp
  have P5 := hide (HB'.out.set q1 1)
  have SB := SW.setCell (X := fun k => k = cb) (p := ⟨cb, q1, none⟩) rfl (.int .i64 1)
  refine hK1.out _ _ SB (fun SW => ?_)
  clear hK1 K1 c2 f2 SW SB HA HB' HP0 HFC
  go_simp
  refine wpAnyH_done (by kernel_rfl) ?_ _
  generalize wB.setCell ⟨cb, q1, none⟩ (.int .i64 1) = w5 at P5 ⊢
  clear HPK
  have HPK := hide P5.out.k
  go_upto_region 7 with fail
  have HP0 := hide P5.out
  have HFC : Hid (∀ W4, Keeps (fun k => k = cb) w5 W4 → W4.cell? ⟨gb, 2, none⟩ = some (.slice (some ⟨cb, 0, none⟩) n n) ∧ True) := hide (fun W4 hb => ⟨(HG.out.keeps (HPK.out.trans hb) hgc).cells.2.2, trivial⟩)
  refine wp_region_held (S := fun W4 => Keeps (fun k => k = cb) w5 W4) (by kernel_rfl) ?_
  change wpAnyH _ _ _ _ _ _ _ _ (World.drew _)
  have SW : Keeps (fun k => k = cb) w5 w5.drew := Keeps.of_all (drewN_below _ _ 1)
  have PA := HP0.out.drewN 1
  change PW _ _ _ _ _ (World.drew _) _ at PA
  obtain ⟨⟨v1, c1⟩, f1⟩ := PA.cell (show q3 < n by omega)
  have HA := hide PA
  clear PA
  generalize w5.drew = wA at SW HA c1 f1 ⊢
  refine wpAnyH_take (i := 0) (v := .pointer (some ⟨gb, 2, none⟩)) rfl (by kernel_rfl) (by kernel_rfl) (by kernel_rfl) (fun _ _ _ h => h) (Or.inl ⟨by rfl, ?_⟩) SW ?_
  · intro W4 hW4
    go_simp <;> first | done | rfl | (rw [IntKind.wrap_i64]; omega) | omega
  go_simp
  refine wpAnyH_take (i := 1) (v := .slice (some ⟨cb, 0, none⟩) n n) rfl (by kernel_rfl) (by kernel_rfl) (by kernel_rfl) (fun _ _ _ h => h) (Or.inl ⟨by rfl, ?_⟩) SW ?_
  · intro W4 hW4
    obtain ⟨x0, x1⟩ := HFC.out W4 hW4
    go_simp <;> first | done | rfl | (rw [IntKind.wrap_i64]; omega) | omega
  go_simp
  refine wpAnyH_take (i := 2) (v := .int .i64 (q : Nat)) rfl (by kernel_rfl) (by kernel_rfl) (by kernel_rfl) (fun _ _ _ h => h) (Or.inl ⟨by rfl, ?_⟩) SW ?_
  · intro W4 hW4
    go_simp <;> first | done | rfl | (rw [IntKind.wrap_i64]; omega) | omega
  go_simp
  refine wpAnyH_take (i := 3) (v := .int .i64 (q3 : Nat)) rfl (by kernel_rfl) (by kernel_rfl) (by kernel_rfl) (fun _ _ _ h => h) (Or.inl ⟨by rfl, ?_⟩) SW ?_
  · intro W4 hW4
    have x0 := t8
    go_simp <;> first | done | rfl | (rw [IntKind.wrap_i64]; omega) | omega
  go_simp
  refine wpAnyH_take (i := 4) (v := .pointer (some ⟨gb, 2, none⟩)) rfl (by kernel_rfl) (by kernel_rfl) (by kernel_rfl) (fun _ _ _ h => h) (Or.inl ⟨by rfl, ?_⟩) SW ?_
  · intro W4 hW4
    go_simp <;> first | done | rfl | (rw [IntKind.wrap_i64]; omega) | omega
  go_simp
  refine wpAnyH_take (i := 5) (v := .slice (some ⟨cb, 0, none⟩) n n) rfl (by kernel_rfl) (by kernel_rfl) (by kernel_rfl) (fun _ _ _ h => h) (Or.inl ⟨by rfl, ?_⟩) SW ?_
  · intro W4 hW4
    obtain ⟨x0, x1⟩ := HFC.out W4 hW4
    go_simp <;> first | done | rfl | (rw [IntKind.wrap_i64]; omega) | omega
  go_simp
  refine wpAnyH_take (i := 6) (v := .int .i64 (q : Nat)) rfl (by kernel_rfl) (by kernel_rfl) (by kernel_rfl) (fun _ _ _ h => h) (Or.inl ⟨by rfl, ?_⟩) SW ?_
  · intro W4 hW4
    go_simp <;> first | done | rfl | (rw [IntKind.wrap_i64]; omega) | omega
  go_simp
  refine wpAnyH_ready (rs := [7]) (by kernel_rfl) (by simp) ?_
  refine AllReadyH.cons rfl (fun K1 hK1 => ?_) AllReadyH.nil
  go_simp
  refine hK1.out _ _ SW (fun SW => ?_)
  clear hK1 K1
  go_simp
  refine wpAnyH_ready (rs := [8]) (by kernel_rfl) (by simp) ?_
  refine AllReadyH.cons rfl (fun K1 hK1 => ?_) AllReadyH.nil
  go_simp
  have PB := HA.out.set q3 1
  have SB := SW.setCell (X := fun k => k = cb) (p := ⟨cb, q3, none⟩) rfl (.int .i64 1)
  refine hK1.out _ _ SB (fun SW => ?_)
  clear hK1 K1 c1 f1
  obtain ⟨⟨v2, c2⟩, f2⟩ := PB.cell (show q < n by omega)
  have HB' := hide PB
  clear PB SB
  generalize wA.setCell ⟨cb, q3, none⟩ (.int .i64 1) = wB at SW HB' c2 f2 ⊢
  go_simp
  refine wpAnyH_ready (rs := [9]) (by kernel_rfl) (by simp) ?_
  refine AllReadyH.cons rfl (fun K1 hK1 => ?_) AllReadyH.nil
  go_simp
  refine hK1.out _ _ SW (fun SW => ?_)
  clear hK1 K1
  go_simp
  refine wpAnyH_ready (rs := [10]) (by kernel_rfl) (by simp) ?_
  refine AllReadyH.cons rfl (fun K1 hK1 => ?_) AllReadyH.nil
  go_simp
  have P6 := hide (HB'.out.set q 2)
  have SB := SW.setCell (X := fun k => k = cb) (p := ⟨cb, q, none⟩) rfl (.int .i64 2)
  refine hK1.out _ _ SB (fun SW => ?_)
  clear hK1 K1 c2 f2 SW SB HA HB' HP0 HFC
  go_simp
  refine wpAnyH_done (by kernel_rfl) ?_ _
  generalize wB.setCell ⟨cb, q, none⟩ (.int .i64 2) = w6 at P6 ⊢
  have G6 := HG.out.keeps P6.out.k hgc
  have Z6 := HZ4.out.keeps P6.out.k (by show ¬ w.heap.size = cb; omega)
  clear HPK
  go_wp2_with (first
    | refine wpList_load_gd rfl (.tmp 6) rfl gb rfl G6 ?_
    | (refine wpList_store_gd rfl (.tmp 4) (.tmp 53) rfl w.heap.size rfl rfl Z6 ?_; intro w7 k7 kk7))
  refine bodyPost_ret (results_gdt rfl _ _ w.heap.size rfl k7 rfl) rfl ⟨cb, n, rfl, ?_, ?_⟩
  · rw [← HZZ.out]
    exact own_blk P6.out.o (fun g hg => kk7.block g (P6.out.o.lt g hg).2 (fun e => by
      simp only [Value.ownBlock, Option.some.injEq] at hg
      omega))
  · exact HB4.out.trans (((P6.out.k.mono (Y := fun q => w.heap.size ≤ q) (fun q _ e => by omega)).trans (kk7.mono (fun q _ e => by omega))).below (B := w.heap.size) HB4.out.size (fun q hq e => by omega))

end Go.Proofs.YtkmghlmniahgbaaDoor
