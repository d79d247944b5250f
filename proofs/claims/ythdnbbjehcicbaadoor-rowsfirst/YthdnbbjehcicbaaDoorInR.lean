/-
  Does the sign of a place stand in a row of k? No conditions beyond those that each theorem bears.
-/
import Derived.Test.YthdnbbjehcicbaaDoorAl2
namespace Go.Proofs.YthdnbbjehcicbaaDoor
open Go.RowKit

/-- The table of directions, as it lies in memory. -/
def dtab : List Int := [1, 0, 0, 1, 1, 1, -1, 1]

def Tab (w : World) : Prop := ∀ i, i < 8 → w.cell? ⟨0, i, none⟩ = some (.int .i64 (dtab.getD i 0))

theorem Tab.lt {w : World} (h : Tab w) : 0 < w.heap.size := World.block_lt_of_cell? w _ (h 0 (by omega))

theorem Tab.below {w w' : World} {B : Nat} (h : Tab w) (hb : Below B w w') (hB : 0 < B) : Tab w' := fun i hi => (hb.cell (p := ⟨0, i, none⟩) hB).trans (h i hi)

theorem Tab.mono {w w' : World} (h : Tab w) (hb : Below w.heap.size w w') : Tab w' := h.below hb h.lt

theorem Tab.keeps {X : Nat → Prop} {w w' : World} (h : Tab w) (hk : Keeps X w w') (hX : ¬ X 0) : Tab w' := fun i hi => hk.cell (h i hi) hX

theorem Tab.range {w : World} (h : Tab w) : w.rangeAt 0 0 (ivs dtab) := by
  intro j v hv
  have hj : j < 8 := by have := (List.getElem?_eq_some_iff.1 hv).1; rwa [ivs_length] at this
  rw [Nat.zero_add, h j hj, ← hv]
  have hj' : j < dtab.length := hj
  simp [ivs, List.getD, hj']

theorem size81 : (Tryd.prog.info? 81).map (·.size) = some 8 := by kernel_rfl

theorem Gd.range {w : World} {b : Nat} {W H : Int} {a : Option Addr} {n c : Nat} (h : Gd w b W H a n c) : w.rangeAt b 0 [.int .i64 W, .int .i64 H, .slice a n c] := by
  intro j v hv
  obtain ⟨h0, h1, h2⟩ := h.cells
  rw [Nat.zero_add]
  match j, hv with
  | 0, hv => rw [h0]; exact hv
  | 1, hv => rw [h1]; exact hv
  | 2, hv => rw [h2]; exact hv
  | j + 3, hv => simp at hv

theorem run_dir (k : Nat) (hk : k < 4) (w : World) : (Instr.index 81 (.agg (ivs dtab).toArray) (.int .i64 k)).run Tryd.prog w = .ok (.agg #[.int .i64 (dtab.getD (2 * k) 0), .int .i64 (dtab.getD (2 * k + 1) 0)]) w := by
  match k, hk with
  | 0, _ => simp [Instr.index, Tryd.underlying81, run_underlying, asIntOf, part, go_sem, ivs, dtab]
  | 1, _ => simp [Instr.index, Tryd.underlying81, run_underlying, asIntOf, part, go_sem, ivs, dtab]
  | 2, _ => simp [Instr.index, Tryd.underlying81, run_underlying, asIntOf, part, go_sem, ivs, dtab]
  | 3, _ => simp [Instr.index, Tryd.underlying81, run_underlying, asIntOf, part, go_sem, ivs, dtab]

theorem dir_at {k : Nat} (hk : k < 4) : Dir (dtab.getD (2 * k) 0) (dtab.getD (2 * k + 1) 0) := by
  rcases (show k = 0 ∨ k = 1 ∨ k = 2 ∨ k = 3 by omega) with rfl | rfl | rfl | rfl <;> simp [Dir, dtab]

/-- Is it so in the j-th direction? -/
def hasR (W H : Nat) (zs : List Int) (p k j : Nat) : Bool := decide (k ≤ 1 + al W H zs p (dtab.getD (2 * j) 0) (dtab.getD (2 * j + 1) 0) + al W H zs p (-dtab.getD (2 * j) 0) (-dtab.getD (2 * j + 1) 0))

theorem inR_eq (W H : Nat) (zs : List Int) (p k : Nat) : inR W H zs p k = (List.range 4).any fun j => hasR W H zs p k j := rfl

theorem inR_yes {W H : Nat} {zs : List Int} {p k j : Nat} (hj : j < 4) (h : hasR W H zs p k j = true) : inR W H zs p k = true := by
  rw [inR_eq]
  exact List.any_eq_true.2 ⟨j, List.mem_range.2 hj, h⟩

theorem inR_no {W H : Nat} {zs : List Int} {p k : Nat} (h : ∀ j, j < 4 → hasR W H zs p k j = false) : inR W H zs p k = false := by
  rw [inR_eq]
  exact List.any_eq_false.2 (fun j hj => by rw [h j (List.mem_range.1 hj)]; simp)

theorem al_le {W H : Nat} {zs : List Int} {p : Nat} {dx dy : Int} (hd : Dir dx dy) (hW : 1 ≤ W ∧ W ≤ 10) (hH : 1 ≤ H ∧ H ≤ 10) (hp : p < W * H) : al W H zs p dx dy ≤ 11 := by
  unfold al
  refine Nat.le_trans (List.takeWhile_sublist _).length_le ?_
  have h1 : p % W < W := Nat.mod_lt _ (by omega)
  have h2 : p / W < H := Nat.div_lt_of_lt_mul hp
  obtain ⟨d1, d2, d3⟩ := hd
  refine line_len ⟨d1, d2, d3⟩ ?_ ?_ hW.2 hH.2
  · generalize p % W = x at *; omega
  · generalize p / W = y at *; omega

attribute [local irreducible] al inR hasR dtab

set_option maxRecDepth 100000 in
set_option maxHeartbeats 4000000 in
theorem inRow_any (gW gH : Nat) (a : Option Addr) (n c p k : Nat) (zs : List Int) (hgW : 1 ≤ gW ∧ gW ≤ 10) (hgH : 1 ≤ gH ∧ gH ≤ 10) (hm : gW * gH = n) (hp : p < n) (hk : k ≤ 100) (w : World) (hT : Tab w) (h : Rd w a n c zs) :
    Calls Tryd.prog 24 #[.agg (gdA gW gH a n c), .int .i64 p, .int .i64 k] w fun e w' => e = .returned (.bool (inR gW gH zs p k)) ∧ Below w.heap.size w w' := by
  have HALL := hide (fun (dx dy : Int) (hd : Dir dx dy) (W1 : World) (hb : Below w.heap.size w W1) => alikeAlong_any gW gH a n c p zs dx dy hd hgW hgH hm hp W1 (h.mono hb))
  have HAB := hide (fun (dx dy : Int) (hd : Dir dx dy) => al_le (zs := zs) hd hgW hgH (show p < gW * gH by omega))
  have HYES := hide (fun j (hj : j < 4) h => inR_yes (W := gW) (H := gH) (zs := zs) (p := p) (k := k) (j := j) hj h)
  have HNO := hide (inR_no (W := gW) (H := gH) (zs := zs) (p := p) (k := k))
  have HAS := hide (fun j => show hasR gW gH zs p k j = decide (k ≤ 1 + al gW gH zs p (dtab.getD (2 * j) 0) (dtab.getD (2 * j + 1) 0) + al gW gH zs p (-dtab.getD (2 * j) 0) (-dtab.getD (2 * j + 1) 0)) by rw [hasR])
  have B0 : Below w.heap.size w (w.alloc (.cells (gdA gW gH a n c) 24)) := (Below.refl _ _).alloc (Nat.le_refl _) _
  have G0 := Gd.new w gW gH a n c
  have T0 := hT.mono B0
  obtain ⟨w1, hw1⟩ : ∃ w1, w.alloc (.cells (gdA gW gH a n c) 24) = w1 := ⟨_, rfl⟩
  rw [hw1] at B0 G0 T0
  have HB0 := hide B0
  have HG0 := hide G0
  have HR0 := T0.range
  have hs1 : w.heap.size < w1.heap.size := G0.lt
  clear h hT B0 G0 T0
  go_enter Tryd.func24, Tryd.ntmps24
  go_wp2_with (refine wpList_load_mid rfl 81 _ rfl 0 0 rfl (ivs dtab) _ HR0 Tryd.underlying81 rfl (by rw [ivs_length, show dtab.length = 8 by rw [dtab]; rfl]; exact size81) ?_)
  clear hw1 HR0
  go_loopw [10] (fun v wr => ∃ j : Nat, v = .int .i64 j ∧ j ≤ 4 ∧ Hid (∀ i, i < j → hasR gW gH zs p k i = false) ∧ Hid (Below w1.heap.size w1 wr)) (fun v _ => 4 - (intOf v).toNat)
  case atStart => exact ⟨0, rfl, by omega, hide (fun i hi => absurd hi (by omega)), hide (Below.refl _ _)⟩
  case round =>
    obtain ⟨j, rfl, hj4, hno, hB⟩ := hrel
    by_cases hj : j < 4
    · have hj' : (j : Int) < 4 := by omega
      have hidx := run_dir j hj
      have HDD := hide (dir_at hj)
      have HJ := hide (HAS.out j)
      obtain ⟨dx, hdx⟩ : ∃ dx, dtab.getD (2 * j) 0 = dx := ⟨_, rfl⟩
      obtain ⟨dy, hdy⟩ : ∃ dy, dtab.getD (2 * j + 1) 0 = dy := ⟨_, rfl⟩
      rw [hdx, hdy] at hidx HDD HJ
      clear hdx hdy
      have hA := HAB.out dx dy HDD.out
      have hB2 := HAB.out (-dx) (-dy) HDD.out.neg
      have hdx1 : -1 ≤ dx ∧ dx ≤ 1 := by have := HDD.out.1; omega
      have hdy1 : -1 ≤ dy ∧ dy ≤ 1 := by have := HDD.out.2.1; omega
      have HAL1 := hide (fun W1 hb => HALL.out dx dy HDD.out W1 hb)
      have HAL2 := hide (fun W1 hb => HALL.out (-dx) (-dy) HDD.out.neg W1 hb)
      obtain ⟨A, hAe⟩ : ∃ A, al gW gH zs p dx dy = A := ⟨_, rfl⟩
      obtain ⟨B, hBe⟩ : ∃ B, al gW gH zs p (-dx) (-dy) = B := ⟨_, rfl⟩
      rw [hAe] at hA HAL1 HJ
      rw [hBe] at hB2 HAL2 HJ
      clear hAe hBe
      obtain ⟨W0, hW0⟩ : ∃ W0, wr.alloc (.cells #[.int .i64 dx, .int .i64 dy] 80) = W0 := ⟨_, rfl⟩
      obtain ⟨db, hdb⟩ : ∃ db, wr.heap.size = db := ⟨_, rfl⟩
      have HDB : Hid (Blk W0 db 80 [dx, dy]) := hide (by rw [← hW0, ← hdb]; exact Blk.new wr 80 [dx, dy] _ rfl)
      have HGB : Hid (Gd W0 w.heap.size gW gH a n c) := hide (by rw [← hW0]; exact (HG0.out.below hB.out hs1).old _)
      have HBW : Hid (Below w1.heap.size w1 W0) := hide (by rw [← hW0]; exact hB.out.alloc hB.out.size _)
      have HBX : Hid (Below w.heap.size w W0) := hide (HB0.out.trans (HBW.out.mono (by omega)))
      have hW0s := HBX.out.size
      have HAL1 := hide (fun W1 (hb : Below W0.heap.size W0 W1) => HAL1.out W1 (HBX.out.trans (hb.mono hW0s)))
      have HAL2 := hide (fun W1 (hb : Below W0.heap.size W0 W1) => HAL2.out W1 (HBX.out.trans (hb.mono hW0s)))
      clear hB HALL HAB
      by_cases hge : k ≤ 1 + A + B
      · have HY := hide (HYES.out j hj (by rw [HJ.out]; exact decide_eq_true hge))
        have hge' : (k : Int) ≤ ((1 + A + B : Nat) : Int) := by omega
        go_upto_region 4 with fail
        clear hW0 hdb
        have HFC : Hid (∀ W4, Below W0.heap.size W0 W4 → W4.cell? ⟨db, 0, none⟩ = some (.int .i64 dx) ∧ W4.cell? ⟨db, 1, none⟩ = some (.int .i64 dy)) := hide (fun W4 hb => ⟨(HDB.out.below hb HDB.out.lt).cell (i := 0) (by simp), (HDB.out.below hb HDB.out.lt).cell (i := 1) (by simp)⟩)
        have HGR : Hid (∀ W4, Below W0.heap.size W0 W4 → W4.rangeAt w.heap.size 0 [.int .i64 gW, .int .i64 gH, .slice a n c]) := hide (fun W4 hb => (HGB.out.below hb HGB.out.lt).range)
        refine wp_region_held (S := fun W4 => Below W0.heap.size W0 W4) (by kernel_rfl) ?_
        change wpAnyH _ _ _ _ _ _ _ _ (World.drew _)
        have SW : Below W0.heap.size W0 W0.drew := (Below.refl _ W0).drew
        refine wpAnyH_take (i := 0) (v := .agg (gdA gW gH a n c)) rfl (by kernel_rfl) (by kernel_rfl) (by kernel_rfl) (fun _ _ _ h => h) (yieldsIf_load_mid (by rfl) 24 _ rfl w.heap.size 0 (by rfl) [.int .i64 gW, .int .i64 gH, .slice a n c] _ (fun W hW => HGR.out W hW) Tryd.underlying24 rfl size24) SW ?_
        go_simp
        refine wpAnyH_take (i := 1) (v := .int .i64 p) rfl (by kernel_rfl) (by kernel_rfl) (by kernel_rfl) (fun _ _ _ h => h) (Or.inl ⟨by rfl, ?_⟩) SW ?_
        · intro W4 hW4
          obtain ⟨x0, x1⟩ := HFC.out W4 hW4
          go_simp <;> first | done | rfl | (rw [IntKind.wrap_i64]; omega) | omega
        go_simp
        refine wpAnyH_take (i := 2) (v := .pointer (some ⟨db, 0, none⟩)) rfl (by kernel_rfl) (by kernel_rfl) (by kernel_rfl) (fun _ _ _ h => h) (Or.inl ⟨by rfl, ?_⟩) SW ?_
        · intro W4 hW4
          obtain ⟨x0, x1⟩ := HFC.out W4 hW4
          go_simp <;> first | done | rfl | (rw [IntKind.wrap_i64]; omega) | omega
        go_simp
        refine wpAnyH_take (i := 3) (v := .int .i64 dx) rfl (by kernel_rfl) (by kernel_rfl) (by kernel_rfl) (fun _ _ _ h => h) (Or.inl ⟨by rfl, ?_⟩) SW ?_
        · intro W4 hW4
          obtain ⟨x0, x1⟩ := HFC.out W4 hW4
          go_simp <;> first | done | rfl | (rw [IntKind.wrap_i64]; omega) | omega
        go_simp
        refine wpAnyH_take (i := 4) (v := .pointer (some ⟨db, 1, none⟩)) rfl (by kernel_rfl) (by kernel_rfl) (by kernel_rfl) (fun _ _ _ h => h) (Or.inl ⟨by rfl, ?_⟩) SW ?_
        · intro W4 hW4
          obtain ⟨x0, x1⟩ := HFC.out W4 hW4
          go_simp <;> first | done | rfl | (rw [IntKind.wrap_i64]; omega) | omega
        go_simp
        refine wpAnyH_take (i := 5) (v := .int .i64 dy) rfl (by kernel_rfl) (by kernel_rfl) (by kernel_rfl) (fun _ _ _ h => h) (Or.inl ⟨by rfl, ?_⟩) SW ?_
        · intro W4 hW4
          obtain ⟨x0, x1⟩ := HFC.out W4 hW4
          go_simp <;> first | done | rfl | (rw [IntKind.wrap_i64]; omega) | omega
        go_simp
        refine wpAnyH_take (i := 8) (v := .agg (gdA gW gH a n c)) rfl (by kernel_rfl) (by kernel_rfl) (by kernel_rfl) (fun _ _ _ h => h) (yieldsIf_load_mid (by rfl) 24 _ rfl w.heap.size 0 (by rfl) [.int .i64 gW, .int .i64 gH, .slice a n c] _ (fun W hW => HGR.out W hW) Tryd.underlying24 rfl size24) SW ?_
        go_simp
        refine wpAnyH_take (i := 9) (v := .int .i64 p) rfl (by kernel_rfl) (by kernel_rfl) (by kernel_rfl) (fun _ _ _ h => h) (Or.inl ⟨by rfl, ?_⟩) SW ?_
        · intro W4 hW4
          obtain ⟨x0, x1⟩ := HFC.out W4 hW4
          go_simp <;> first | done | rfl | (rw [IntKind.wrap_i64]; omega) | omega
        go_simp
        refine wpAnyH_take (i := 10) (v := .pointer (some ⟨db, 0, none⟩)) rfl (by kernel_rfl) (by kernel_rfl) (by kernel_rfl) (fun _ _ _ h => h) (Or.inl ⟨by rfl, ?_⟩) SW ?_
        · intro W4 hW4
          obtain ⟨x0, x1⟩ := HFC.out W4 hW4
          go_simp <;> first | done | rfl | (rw [IntKind.wrap_i64]; omega) | omega
        go_simp
        refine wpAnyH_take (i := 11) (v := .int .i64 dx) rfl (by kernel_rfl) (by kernel_rfl) (by kernel_rfl) (fun _ _ _ h => h) (Or.inl ⟨by rfl, ?_⟩) SW ?_
        · intro W4 hW4
          obtain ⟨x0, x1⟩ := HFC.out W4 hW4
          go_simp <;> first | done | rfl | (rw [IntKind.wrap_i64]; omega) | omega
        go_simp
        refine wpAnyH_take (i := 12) (v := .int .i64 (-dx)) rfl (by kernel_rfl) (by kernel_rfl) (by kernel_rfl) (fun _ _ _ h => h) (Or.inl ⟨by rfl, ?_⟩) SW ?_
        · intro W4 hW4
          obtain ⟨x0, x1⟩ := HFC.out W4 hW4
          go_simp <;> first | done | rfl | (rw [IntKind.wrap_i64]; omega) | omega
        go_simp
        refine wpAnyH_take (i := 13) (v := .pointer (some ⟨db, 1, none⟩)) rfl (by kernel_rfl) (by kernel_rfl) (by kernel_rfl) (fun _ _ _ h => h) (Or.inl ⟨by rfl, ?_⟩) SW ?_
        · intro W4 hW4
          obtain ⟨x0, x1⟩ := HFC.out W4 hW4
          go_simp <;> first | done | rfl | (rw [IntKind.wrap_i64]; omega) | omega
        go_simp
        refine wpAnyH_take (i := 14) (v := .int .i64 dy) rfl (by kernel_rfl) (by kernel_rfl) (by kernel_rfl) (fun _ _ _ h => h) (Or.inl ⟨by rfl, ?_⟩) SW ?_
        · intro W4 hW4
          obtain ⟨x0, x1⟩ := HFC.out W4 hW4
          go_simp <;> first | done | rfl | (rw [IntKind.wrap_i64]; omega) | omega
        go_simp
        refine wpAnyH_take (i := 15) (v := .int .i64 (-dy)) rfl (by kernel_rfl) (by kernel_rfl) (by kernel_rfl) (fun _ _ _ h => h) (Or.inl ⟨by rfl, ?_⟩) SW ?_
        · intro W4 hW4
          obtain ⟨x0, x1⟩ := HFC.out W4 hW4
          go_simp <;> first | done | rfl | (rw [IntKind.wrap_i64]; omega) | omega
        go_simp
        refine wpAnyH_take (i := 18) (v := .int .i64 k) rfl (by kernel_rfl) (by kernel_rfl) (by kernel_rfl) (fun _ _ _ h => h) (Or.inl ⟨by rfl, ?_⟩) SW ?_
        · intro W4 hW4
          obtain ⟨x0, x1⟩ := HFC.out W4 hW4
          go_simp <;> first | done | rfl | (rw [IntKind.wrap_i64]; omega) | omega
        go_simp
        refine wpAnyH_ready (rs := [6]) (by kernel_rfl) (by simp) ?_
        refine AllReadyH.cons rfl (fun K1 hK1 => ?_) AllReadyH.nil
        go_simp
        refine (HAL1.out _ SW).mono ?_
        rintro e w5 ⟨rfl, hb5⟩
        refine hK1.out _ _ (SW.trans (hb5.mono SW.size)) (fun SW => ?_)
        clear hK1 K1 hb5
        go_simp
        refine wpAnyH_take (i := 7) (v := .int .i64 ((1 + A : Nat) : Int)) rfl (by kernel_rfl) (by kernel_rfl) (by kernel_rfl) (fun _ _ _ h => h) (Or.inl ⟨by rfl, ?_⟩) SW ?_
        · intro W4 hW4
          obtain ⟨x0, x1⟩ := HFC.out W4 hW4
          go_simp <;> first | done | rfl | (rw [IntKind.wrap_i64]; omega) | omega
        go_simp
        refine wpAnyH_ready (rs := [16]) (by kernel_rfl) (by simp) ?_
        refine AllReadyH.cons rfl (fun K1 hK1 => ?_) AllReadyH.nil
        go_simp
        refine (HAL2.out _ SW).mono ?_
        rintro e w5 ⟨rfl, hb5⟩
        refine hK1.out _ _ (SW.trans (hb5.mono SW.size)) (fun SW => ?_)
        clear hK1 K1 hb5
        go_simp
        refine wpAnyH_take (i := 17) (v := .int .i64 ((1 + A + B : Nat) : Int)) rfl (by kernel_rfl) (by kernel_rfl) (by kernel_rfl) (fun _ _ _ h => h) (Or.inl ⟨by rfl, ?_⟩) SW ?_
        · intro W4 hW4
          obtain ⟨x0, x1⟩ := HFC.out W4 hW4
          go_simp <;> first | done | rfl | (rw [IntKind.wrap_i64]; omega) | omega
        go_simp
        refine wpAnyH_take (i := 19) (v := .bool true) rfl (by kernel_rfl) (by kernel_rfl) (by kernel_rfl) (fun _ _ _ h => h) (Or.inl ⟨by rfl, ?_⟩) SW ?_
        · intro W4 hW4
          obtain ⟨x0, x1⟩ := HFC.out W4 hW4
          go_simp <;> first | done | rfl | (rw [IntKind.wrap_i64]; omega) | omega
        go_simp
        refine wpAnyH_done (by kernel_rfl) ?_ _
        have HBE := hide (HBX.out.trans (SW.mono hW0s))
        clear SW
        go_wp2_with fail
        go_ret
        exact ⟨ret_bool HY.out.symm, HBE.out⟩
      · have HN : Hid (∀ i, i < j + 1 → hasR gW gH zs p k i = false) := hide (fun i hi => by
          by_cases e : i = j
          · subst e; rw [HJ.out]; exact decide_eq_false hge
          · exact hno.out i (by omega))
        have hge' : ¬ (k : Int) ≤ ((1 + A + B : Nat) : Int) := by omega
        go_upto_region 4 with fail
        clear hW0 hdb
        have HFC : Hid (∀ W4, Below W0.heap.size W0 W4 → W4.cell? ⟨db, 0, none⟩ = some (.int .i64 dx) ∧ W4.cell? ⟨db, 1, none⟩ = some (.int .i64 dy)) := hide (fun W4 hb => ⟨(HDB.out.below hb HDB.out.lt).cell (i := 0) (by simp), (HDB.out.below hb HDB.out.lt).cell (i := 1) (by simp)⟩)
        have HGR : Hid (∀ W4, Below W0.heap.size W0 W4 → W4.rangeAt w.heap.size 0 [.int .i64 gW, .int .i64 gH, .slice a n c]) := hide (fun W4 hb => (HGB.out.below hb HGB.out.lt).range)
        refine wp_region_held (S := fun W4 => Below W0.heap.size W0 W4) (by kernel_rfl) ?_
        change wpAnyH _ _ _ _ _ _ _ _ (World.drew _)
        have SW : Below W0.heap.size W0 W0.drew := (Below.refl _ W0).drew
        refine wpAnyH_take (i := 0) (v := .agg (gdA gW gH a n c)) rfl (by kernel_rfl) (by kernel_rfl) (by kernel_rfl) (fun _ _ _ h => h) (yieldsIf_load_mid (by rfl) 24 _ rfl w.heap.size 0 (by rfl) [.int .i64 gW, .int .i64 gH, .slice a n c] _ (fun W hW => HGR.out W hW) Tryd.underlying24 rfl size24) SW ?_
        go_simp
        refine wpAnyH_take (i := 1) (v := .int .i64 p) rfl (by kernel_rfl) (by kernel_rfl) (by kernel_rfl) (fun _ _ _ h => h) (Or.inl ⟨by rfl, ?_⟩) SW ?_
        · intro W4 hW4
          obtain ⟨x0, x1⟩ := HFC.out W4 hW4
          go_simp <;> first | done | rfl | (rw [IntKind.wrap_i64]; omega) | omega
        go_simp
        refine wpAnyH_take (i := 2) (v := .pointer (some ⟨db, 0, none⟩)) rfl (by kernel_rfl) (by kernel_rfl) (by kernel_rfl) (fun _ _ _ h => h) (Or.inl ⟨by rfl, ?_⟩) SW ?_
        · intro W4 hW4
          obtain ⟨x0, x1⟩ := HFC.out W4 hW4
          go_simp <;> first | done | rfl | (rw [IntKind.wrap_i64]; omega) | omega
        go_simp
        refine wpAnyH_take (i := 3) (v := .int .i64 dx) rfl (by kernel_rfl) (by kernel_rfl) (by kernel_rfl) (fun _ _ _ h => h) (Or.inl ⟨by rfl, ?_⟩) SW ?_
        · intro W4 hW4
          obtain ⟨x0, x1⟩ := HFC.out W4 hW4
          go_simp <;> first | done | rfl | (rw [IntKind.wrap_i64]; omega) | omega
        go_simp
        refine wpAnyH_take (i := 4) (v := .pointer (some ⟨db, 1, none⟩)) rfl (by kernel_rfl) (by kernel_rfl) (by kernel_rfl) (fun _ _ _ h => h) (Or.inl ⟨by rfl, ?_⟩) SW ?_
        · intro W4 hW4
          obtain ⟨x0, x1⟩ := HFC.out W4 hW4
          go_simp <;> first | done | rfl | (rw [IntKind.wrap_i64]; omega) | omega
        go_simp
        refine wpAnyH_take (i := 5) (v := .int .i64 dy) rfl (by kernel_rfl) (by kernel_rfl) (by kernel_rfl) (fun _ _ _ h => h) (Or.inl ⟨by rfl, ?_⟩) SW ?_
        · intro W4 hW4
          obtain ⟨x0, x1⟩ := HFC.out W4 hW4
          go_simp <;> first | done | rfl | (rw [IntKind.wrap_i64]; omega) | omega
        go_simp
        refine wpAnyH_take (i := 8) (v := .agg (gdA gW gH a n c)) rfl (by kernel_rfl) (by kernel_rfl) (by kernel_rfl) (fun _ _ _ h => h) (yieldsIf_load_mid (by rfl) 24 _ rfl w.heap.size 0 (by rfl) [.int .i64 gW, .int .i64 gH, .slice a n c] _ (fun W hW => HGR.out W hW) Tryd.underlying24 rfl size24) SW ?_
        go_simp
        refine wpAnyH_take (i := 9) (v := .int .i64 p) rfl (by kernel_rfl) (by kernel_rfl) (by kernel_rfl) (fun _ _ _ h => h) (Or.inl ⟨by rfl, ?_⟩) SW ?_
        · intro W4 hW4
          obtain ⟨x0, x1⟩ := HFC.out W4 hW4
          go_simp <;> first | done | rfl | (rw [IntKind.wrap_i64]; omega) | omega
        go_simp
        refine wpAnyH_take (i := 10) (v := .pointer (some ⟨db, 0, none⟩)) rfl (by kernel_rfl) (by kernel_rfl) (by kernel_rfl) (fun _ _ _ h => h) (Or.inl ⟨by rfl, ?_⟩) SW ?_
        · intro W4 hW4
          obtain ⟨x0, x1⟩ := HFC.out W4 hW4
          go_simp <;> first | done | rfl | (rw [IntKind.wrap_i64]; omega) | omega
        go_simp
        refine wpAnyH_take (i := 11) (v := .int .i64 dx) rfl (by kernel_rfl) (by kernel_rfl) (by kernel_rfl) (fun _ _ _ h => h) (Or.inl ⟨by rfl, ?_⟩) SW ?_
        · intro W4 hW4
          obtain ⟨x0, x1⟩ := HFC.out W4 hW4
          go_simp <;> first | done | rfl | (rw [IntKind.wrap_i64]; omega) | omega
        go_simp
        refine wpAnyH_take (i := 12) (v := .int .i64 (-dx)) rfl (by kernel_rfl) (by kernel_rfl) (by kernel_rfl) (fun _ _ _ h => h) (Or.inl ⟨by rfl, ?_⟩) SW ?_
        · intro W4 hW4
          obtain ⟨x0, x1⟩ := HFC.out W4 hW4
          go_simp <;> first | done | rfl | (rw [IntKind.wrap_i64]; omega) | omega
        go_simp
        refine wpAnyH_take (i := 13) (v := .pointer (some ⟨db, 1, none⟩)) rfl (by kernel_rfl) (by kernel_rfl) (by kernel_rfl) (fun _ _ _ h => h) (Or.inl ⟨by rfl, ?_⟩) SW ?_
        · intro W4 hW4
          obtain ⟨x0, x1⟩ := HFC.out W4 hW4
          go_simp <;> first | done | rfl | (rw [IntKind.wrap_i64]; omega) | omega
        go_simp
        refine wpAnyH_take (i := 14) (v := .int .i64 dy) rfl (by kernel_rfl) (by kernel_rfl) (by kernel_rfl) (fun _ _ _ h => h) (Or.inl ⟨by rfl, ?_⟩) SW ?_
        · intro W4 hW4
          obtain ⟨x0, x1⟩ := HFC.out W4 hW4
          go_simp <;> first | done | rfl | (rw [IntKind.wrap_i64]; omega) | omega
        go_simp
        refine wpAnyH_take (i := 15) (v := .int .i64 (-dy)) rfl (by kernel_rfl) (by kernel_rfl) (by kernel_rfl) (fun _ _ _ h => h) (Or.inl ⟨by rfl, ?_⟩) SW ?_
        · intro W4 hW4
          obtain ⟨x0, x1⟩ := HFC.out W4 hW4
          go_simp <;> first | done | rfl | (rw [IntKind.wrap_i64]; omega) | omega
        go_simp
        refine wpAnyH_take (i := 18) (v := .int .i64 k) rfl (by kernel_rfl) (by kernel_rfl) (by kernel_rfl) (fun _ _ _ h => h) (Or.inl ⟨by rfl, ?_⟩) SW ?_
        · intro W4 hW4
          obtain ⟨x0, x1⟩ := HFC.out W4 hW4
          go_simp <;> first | done | rfl | (rw [IntKind.wrap_i64]; omega) | omega
        go_simp
        refine wpAnyH_ready (rs := [6]) (by kernel_rfl) (by simp) ?_
        refine AllReadyH.cons rfl (fun K1 hK1 => ?_) AllReadyH.nil
        go_simp
        refine (HAL1.out _ SW).mono ?_
        rintro e w5 ⟨rfl, hb5⟩
        refine hK1.out _ _ (SW.trans (hb5.mono SW.size)) (fun SW => ?_)
        clear hK1 K1 hb5
        go_simp
        refine wpAnyH_take (i := 7) (v := .int .i64 ((1 + A : Nat) : Int)) rfl (by kernel_rfl) (by kernel_rfl) (by kernel_rfl) (fun _ _ _ h => h) (Or.inl ⟨by rfl, ?_⟩) SW ?_
        · intro W4 hW4
          obtain ⟨x0, x1⟩ := HFC.out W4 hW4
          go_simp <;> first | done | rfl | (rw [IntKind.wrap_i64]; omega) | omega
        go_simp
        refine wpAnyH_ready (rs := [16]) (by kernel_rfl) (by simp) ?_
        refine AllReadyH.cons rfl (fun K1 hK1 => ?_) AllReadyH.nil
        go_simp
        refine (HAL2.out _ SW).mono ?_
        rintro e w5 ⟨rfl, hb5⟩
        refine hK1.out _ _ (SW.trans (hb5.mono SW.size)) (fun SW => ?_)
        clear hK1 K1 hb5
        go_simp
        refine wpAnyH_take (i := 17) (v := .int .i64 ((1 + A + B : Nat) : Int)) rfl (by kernel_rfl) (by kernel_rfl) (by kernel_rfl) (fun _ _ _ h => h) (Or.inl ⟨by rfl, ?_⟩) SW ?_
        · intro W4 hW4
          obtain ⟨x0, x1⟩ := HFC.out W4 hW4
          go_simp <;> first | done | rfl | (rw [IntKind.wrap_i64]; omega) | omega
        go_simp
        refine wpAnyH_take (i := 19) (v := .bool false) rfl (by kernel_rfl) (by kernel_rfl) (by kernel_rfl) (fun _ _ _ h => h) (Or.inl ⟨by rfl, ?_⟩) SW ?_
        · intro W4 hW4
          obtain ⟨x0, x1⟩ := HFC.out W4 hW4
          go_simp <;> first | done | rfl | (rw [IntKind.wrap_i64]; omega) | omega
        go_simp
        refine wpAnyH_done (by kernel_rfl) ?_ _
        have HBE := hide (HBW.out.trans (SW.mono HBW.out.size))
        clear SW
        go_wp2_with fail
        exact ⟨⟨j + 1, by go_num, by omega, HN, HBE⟩, by simp [intOf]; omega⟩
    · have hj' : ¬ (j : Int) < 4 := by omega
      have HV := hide (HNO.out (fun i hi => hno.out i (by omega)))
      go_wp2_with fail
      go_ret
      exact ⟨ret_bool HV.out.symm, HB0.out.trans (hB.out.mono (by omega))⟩

end Go.Proofs.YthdnbbjehcicbaaDoor
