/-
  The start of the game, as the law lays it. No conditions beyond those that each theorem bears.
-/
import Derived.Test.YtmboikpcbkiepaaTold
import Derived.Test.YtmboikpcbkiepaaRef1
import Derived.Deep.RegionHeld3
import Derived.Deep.MidRow
namespace Go.Proofs.Ytmboikpcbkiepaa
open Go.RowKit

theorem own_blk {w w' : World} {base e s n : Nat} {v : Value} {xs : List Value} (h : w.ownsRow base e s v n xs) (hb : ∀ g, v.ownBlock = some g → w'.heap[g]? = w.heap[g]?) : w'.ownsRow base e s v n xs := by
  refine ⟨h.1, ?_⟩
  rcases h.2 with h2 | ⟨g, cap, cur, rfl, h1, h2, h3⟩
  · exact Or.inl h2
  · exact Or.inr ⟨g, cap, cur, rfl, h1, (hb g rfl).trans h2, h3⟩

structure PW (w3 : World) (B cb n cc : Nat) (wr : World) (Y : List Int) : Prop where
  k : Keeps (fun k => k = cb) w3 wr
  o : wr.ownsRow B 3 1 (.slice (some ⟨cb, 0, none⟩) n cc) n (Y.map (Value.int .i64))

theorem PW.drewN {w3 : World} {B cb n cc : Nat} {wr : World} {Y : List Int} (h : PW w3 B cb n cc wr Y) (q : Nat) : PW w3 B cb n cc (wr.drewN q) Y :=
  ⟨h.k.trans (Keeps.of_all (drewN_below _ _ _)), own_blk h.o (fun g _ => by rw [drewN_heap])⟩

theorem PW.set {w3 : World} {B cb n cc : Nat} {wr : World} {Y : List Int} (h : PW w3 B cb n cc wr Y) (Q : Nat) (x : Int) : PW w3 B cb n cc (wr.setCell ⟨cb, Q, none⟩ (.int .i64 x)) (Y.set Q x) := by
  refine ⟨h.k.setCell (X := fun k => k = cb) rfl _, ?_⟩
  have := (World.ownsRow.stored h.o Q (.int .i64 x)).1
  rwa [← List.map_set] at this

theorem PW.cell {w3 : World} {B cb n cc : Nat} {wr : World} {Y : List Int} (h : PW w3 B cb n cc wr Y) {Q : Nat} (hQ : Q < n) : (∃ v, wr.cell? ⟨cb, Q, none⟩ = some (.int .i64 v)) ∧ wr.frozen? ⟨cb, Q, none⟩ = false := by
  refine ⟨?_, World.ownsRow.frozenAt h.o Q⟩
  have hl : Y.length = n := by simpa using h.o.1
  exact ⟨Y.getD Q 0, by rw [World.ownsRow.cellAt h.o Q (by omega)]; simp [List.getD, hl, hQ]⟩

/-- An empty row. -/
def zer (n : Nat) : List Int := List.replicate n 0

theorem made_zer (n : Nat) : (madeCells #[Value.int .i64 0] n).toList = (zer n).map (Value.int .i64) := by
  rw [zer, List.map_replicate]
  apply List.ext_getElem
  · simp [madeCells]
  · intro i h1 h2
    simp [madeCells, Nat.mod_one]

theorem build24p (a : Option Addr) (n c : Nat) (w : World) : (Instr.build 24 #[(0, .slice a n c)]).run Try.prog w = .ok (.agg (gmA a n c 0 0 0)) w := by
  simp [Instr.build, go_sem, run_underlying Try.underlying24]

/-- How the law lays the men. -/
def layP : List Int := (((((((((zer 26).set 24 2).set 13 5).set 8 3).set 6 5).set 1 (-2)).set 12 (-5)).set 17 (-3)).set 19 (-5))

attribute [local go_sem] build24p

set_option maxRecDepth 100000 in
set_option maxHeartbeats 4000000 in
theorem start_any (w : World) : Calls Try.prog 21 #[] w fun e w' => ∃ cb cc, e = .returned (.agg (gmA (some ⟨cb, 0, none⟩) 26 cc 0 0 0)) ∧ Rd w' (some ⟨cb, 0, none⟩) 26 cc layP ∧ Below w.heap.size w w' := by
  obtain ⟨i0, hi, hz0, hz1, hz2⟩ := info_parts Try.info3
  have HMK : Hid (∀ W1 : World, ∃ w', (Instr.makeSlice 22 (.int .i64 26) (.int .i64 26)).run Try.prog W1 = .ok (.slice (some ⟨W1.heap.size, 0, none⟩) 26 26) w' ∧ w'.ownsRow W1.heap.size 3 1 (.slice (some ⟨W1.heap.size, 0, none⟩) 26 26) 26 ((zer 26).map (Value.int .i64)) ∧ W1.grownBy w' none) := hide (fun W1 => by
    obtain ⟨w', hrun, r1, r2⟩ := run_make_full (P := Try.prog) W1 W1.heap.size 22 3 i0 (.int .i64 0) 1 Try.underlying22 hi hz0 hz1 .i64 .i64 26 (by rw [hz2]; omega) (by unfold maxLen; omega) (Nat.le_refl _)
    refine ⟨w', hrun, ?_, r2⟩
    rw [← made_zer]
    simpa [Value.cells] using r1)
  clear hi hz0 hz1 hz2
  obtain ⟨w1, hw1⟩ : ∃ w1, w.alloc (.cells (gmA none 0 0 0 0 0) 24) = w1 := ⟨_, rfl⟩
  have HB1 : Hid (Below w.heap.size w w1) := hide (by rw [← hw1]; exact (Below.refl _ _).alloc (Nat.le_refl _) _)
  have Z1 : Gm w1 w.heap.size none 0 0 0 0 0 := by rw [← hw1]; exact Gm.new _ _ _ _ _ _ _
  have HZ1 := hide Z1
  clear Z1
  go_enter Try.func21, Try.ntmps21
  go_upto_region 1 with fail
  clear hw1
  obtain ⟨w3, hrun, hO3, hg3⟩ := HMK.out w1
  have B23 : Below w1.heap.size w1 w3 := (Below.refl _ w1).grown hg3 (Nat.le_refl _) (fun j hj => by cases hj)
  have KZ := Gm.new w3 none 0 0 0 0 0
  have hcb := hO3.lt _ rfl
  have HO3 := hide hO3
  clear hO3 hg3
  go_upto_region 2 with (refine wpList_store_gm rfl (.tmp 1) (.tmp 3) rfl w3.heap.size rfl rfl KZ ?_; intro w4 G4 kk4)
  have hz1 := HZ1.out.lt
  have B34 : Below w3.heap.size w3 w4 := (((Keeps.refl (fun k => k = w3.heap.size) w3).alloc _).trans kk4).below (Nat.le_refl _) (fun k hk e => by omega)
  have HB4 : Hid (Below w.heap.size w w4) := hide ((HB1.out.trans (B23.mono HB1.out.size)).trans (B34.mono (by have := HB1.out.size; have := B23.size; omega)))
  have HZ4 := hide ((HZ1.out.below B23 hz1).below B34 (by have := B23.size; omega))
  have HO4 : Hid (w4.ownsRow w.heap.size 3 1 (.slice (some ⟨w1.heap.size, 0, none⟩) 26 26) 26 ((zer 26).map (Value.int .i64))) := hide (own_base (own_blk HO3.out (fun g hg => B34.block g (HO3.out.lt g hg).2)) (by have := HB1.out.size; omega))
  have hgc0 : w1.heap.size < w3.heap.size := hcb.2
  have hws : w.heap.size < w1.heap.size := hz1
  have hcw : w1.heap.size < w4.heap.size := by have := B34.size; omega
  clear kk4 B34 B23 KZ hrun HO3 hcb HZ1 HB1 HMK
  obtain ⟨cb, hcb⟩ : ∃ cb, w1.heap.size = cb := ⟨_, rfl⟩
  obtain ⟨gb, hgb⟩ : ∃ gb, w3.heap.size = gb := ⟨_, rfl⟩
  rw [hcb] at HO4 G4 hgc0 hws hcw ⊢
  rw [hgb] at G4 hgc0 ⊢
  clear hcb hgb
  have hgc : ¬ gb = cb := by omega
  have HG := hide G4
  have P4 : PW w4 w.heap.size cb 26 26 w4 (zer 26) := ⟨Keeps.refl _ _, HO4.out⟩
  have HPK : Hid (Keeps (fun k => k = cb) w4 w4) := hide (Keeps.refl _ _)
  clear G4 HO4
  have HP0 := hide P4
  have HFC : Hid (∀ W4, Keeps (fun k => k = cb) w4 W4 → W4.cell? ⟨gb, 0, none⟩ = some (.slice (some ⟨cb, 0, none⟩) 26 26) ∧ True) := hide (fun W4 hb => ⟨(HG.out.keeps (HPK.out.trans hb) hgc).cells.1, trivial⟩)
  refine wp_region_held (S := fun W4 => Keeps (fun k => k = cb) w4 W4) (by kernel_rfl) ?_
  change wpAnyH _ _ _ _ _ _ _ _ (World.drew _)
  have SW : Keeps (fun k => k = cb) w4 w4.drew := Keeps.of_all (drewN_below _ _ 1)
  have PA := HP0.out.drewN 1
  change PW _ _ _ _ _ (World.drew _) _ at PA
  have HA0 := hide PA
  clear PA
  generalize w4.drew = v0 at SW HA0 ⊢
  refine wpAnyH_take (i := 0) (v := .pointer (some ⟨gb, 0, none⟩)) rfl (by kernel_rfl) (by kernel_rfl) (by kernel_rfl) (fun _ _ _ h => h) (Or.inl ⟨by rfl, ?_⟩) SW ?_
  · intro W4 hW4
    go_simp <;> first | done | rfl | (rw [IntKind.wrap_i64]; omega) | omega
  go_simp
  refine wpAnyH_take (i := 1) (v := .slice (some ⟨cb, 0, none⟩) 26 26) rfl (by kernel_rfl) (by kernel_rfl) (by kernel_rfl) (fun _ _ _ h => h) (Or.inl ⟨by rfl, ?_⟩) SW ?_
  · intro W4 hW4
    obtain ⟨x0, x1⟩ := HFC.out W4 hW4
    go_simp <;> first | done | rfl | (rw [IntKind.wrap_i64]; omega) | omega
  go_simp
  refine wpAnyH_take (i := 2) (v := .pointer (some ⟨gb, 0, none⟩)) rfl (by kernel_rfl) (by kernel_rfl) (by kernel_rfl) (fun _ _ _ h => h) (Or.inl ⟨by rfl, ?_⟩) SW ?_
  · intro W4 hW4
    go_simp <;> first | done | rfl | (rw [IntKind.wrap_i64]; omega) | omega
  go_simp
  refine wpAnyH_take (i := 3) (v := .slice (some ⟨cb, 0, none⟩) 26 26) rfl (by kernel_rfl) (by kernel_rfl) (by kernel_rfl) (fun _ _ _ h => h) (Or.inl ⟨by rfl, ?_⟩) SW ?_
  · intro W4 hW4
    obtain ⟨x0, x1⟩ := HFC.out W4 hW4
    go_simp <;> first | done | rfl | (rw [IntKind.wrap_i64]; omega) | omega
  go_simp
  refine wpAnyH_take (i := 4) (v := .pointer (some ⟨gb, 0, none⟩)) rfl (by kernel_rfl) (by kernel_rfl) (by kernel_rfl) (fun _ _ _ h => h) (Or.inl ⟨by rfl, ?_⟩) SW ?_
  · intro W4 hW4
    go_simp <;> first | done | rfl | (rw [IntKind.wrap_i64]; omega) | omega
  go_simp
  refine wpAnyH_take (i := 5) (v := .slice (some ⟨cb, 0, none⟩) 26 26) rfl (by kernel_rfl) (by kernel_rfl) (by kernel_rfl) (fun _ _ _ h => h) (Or.inl ⟨by rfl, ?_⟩) SW ?_
  · intro W4 hW4
    obtain ⟨x0, x1⟩ := HFC.out W4 hW4
    go_simp <;> first | done | rfl | (rw [IntKind.wrap_i64]; omega) | omega
  go_simp
  refine wpAnyH_take (i := 6) (v := .pointer (some ⟨gb, 0, none⟩)) rfl (by kernel_rfl) (by kernel_rfl) (by kernel_rfl) (fun _ _ _ h => h) (Or.inl ⟨by rfl, ?_⟩) SW ?_
  · intro W4 hW4
    go_simp <;> first | done | rfl | (rw [IntKind.wrap_i64]; omega) | omega
  go_simp
  refine wpAnyH_take (i := 7) (v := .slice (some ⟨cb, 0, none⟩) 26 26) rfl (by kernel_rfl) (by kernel_rfl) (by kernel_rfl) (fun _ _ _ h => h) (Or.inl ⟨by rfl, ?_⟩) SW ?_
  · intro W4 hW4
    obtain ⟨x0, x1⟩ := HFC.out W4 hW4
    go_simp <;> first | done | rfl | (rw [IntKind.wrap_i64]; omega) | omega
  go_simp
  refine wpAnyH_ready (rs := [8]) (by kernel_rfl) (by simp) ?_
  refine AllReadyH.cons rfl (fun K1 hK1 => ?_) AllReadyH.nil
  go_simp
  refine hK1.out _ _ SW (fun SW => ?_)
  clear hK1 K1
  go_simp
  refine wpAnyH_ready (rs := [9]) (by kernel_rfl) (by simp) ?_
  refine AllReadyH.cons rfl (fun K1 hK1 => ?_) AllReadyH.nil
  obtain ⟨⟨vv, c1⟩, f1⟩ := HA0.out.cell (show 24 < 26 by omega)
  go_simp
  have HA1 := hide (HA0.out.set 24 (2))
  have SB := SW.setCell (X := fun k => k = cb) (p := ⟨cb, 24, none⟩) rfl (.int .i64 (2))
  refine hK1.out _ _ SB (fun SW => ?_)
  clear hK1 K1 c1 f1 SB HA0
  generalize v0.setCell ⟨cb, 24, none⟩ (.int .i64 (2)) = v1 at SW HA1 ⊢
  go_simp
  refine wpAnyH_ready (rs := [10]) (by kernel_rfl) (by simp) ?_
  refine AllReadyH.cons rfl (fun K1 hK1 => ?_) AllReadyH.nil
  go_simp
  refine hK1.out _ _ SW (fun SW => ?_)
  clear hK1 K1
  go_simp
  refine wpAnyH_ready (rs := [11]) (by kernel_rfl) (by simp) ?_
  refine AllReadyH.cons rfl (fun K1 hK1 => ?_) AllReadyH.nil
  obtain ⟨⟨vv, c1⟩, f1⟩ := HA1.out.cell (show 13 < 26 by omega)
  go_simp
  have HA2 := hide (HA1.out.set 13 (5))
  have SB := SW.setCell (X := fun k => k = cb) (p := ⟨cb, 13, none⟩) rfl (.int .i64 (5))
  refine hK1.out _ _ SB (fun SW => ?_)
  clear hK1 K1 c1 f1 SB HA1
  generalize v1.setCell ⟨cb, 13, none⟩ (.int .i64 (5)) = v2 at SW HA2 ⊢
  go_simp
  refine wpAnyH_ready (rs := [12]) (by kernel_rfl) (by simp) ?_
  refine AllReadyH.cons rfl (fun K1 hK1 => ?_) AllReadyH.nil
  go_simp
  refine hK1.out _ _ SW (fun SW => ?_)
  clear hK1 K1
  go_simp
  refine wpAnyH_ready (rs := [13]) (by kernel_rfl) (by simp) ?_
  refine AllReadyH.cons rfl (fun K1 hK1 => ?_) AllReadyH.nil
  obtain ⟨⟨vv, c1⟩, f1⟩ := HA2.out.cell (show 8 < 26 by omega)
  go_simp
  have HA3 := hide (HA2.out.set 8 (3))
  have SB := SW.setCell (X := fun k => k = cb) (p := ⟨cb, 8, none⟩) rfl (.int .i64 (3))
  refine hK1.out _ _ SB (fun SW => ?_)
  clear hK1 K1 c1 f1 SB HA2
  generalize v2.setCell ⟨cb, 8, none⟩ (.int .i64 (3)) = v3 at SW HA3 ⊢
  go_simp
  refine wpAnyH_ready (rs := [14]) (by kernel_rfl) (by simp) ?_
  refine AllReadyH.cons rfl (fun K1 hK1 => ?_) AllReadyH.nil
  go_simp
  refine hK1.out _ _ SW (fun SW => ?_)
  clear hK1 K1
  go_simp
  refine wpAnyH_ready (rs := [15]) (by kernel_rfl) (by simp) ?_
  refine AllReadyH.cons rfl (fun K1 hK1 => ?_) AllReadyH.nil
  obtain ⟨⟨vv, c1⟩, f1⟩ := HA3.out.cell (show 6 < 26 by omega)
  go_simp
  have HA4 := hide (HA3.out.set 6 (5))
  have SB := SW.setCell (X := fun k => k = cb) (p := ⟨cb, 6, none⟩) rfl (.int .i64 (5))
  refine hK1.out _ _ SB (fun SW => ?_)
  clear hK1 K1 c1 f1 SB HA3
  generalize v3.setCell ⟨cb, 6, none⟩ (.int .i64 (5)) = v4 at SW HA4 ⊢
  go_simp
  refine wpAnyH_done (by kernel_rfl) ?_ _
  have P5 := HA4
  clear SW HFC HP0 HA4
  obtain ⟨w5, hW1⟩ : ∃ w5, v4 = w5 := ⟨_, rfl⟩
  rw [hW1] at P5 ⊢
  clear hW1
  clear HPK
  have HPK := hide P5.out.k
  go_upto_region 3 with fail
  have HP0 := hide P5.out
  have HFC : Hid (∀ W4, Keeps (fun k => k = cb) w5 W4 → W4.cell? ⟨gb, 0, none⟩ = some (.slice (some ⟨cb, 0, none⟩) 26 26) ∧ True) := hide (fun W4 hb => ⟨(HG.out.keeps (HPK.out.trans hb) hgc).cells.1, trivial⟩)
  refine wp_region_held (S := fun W4 => Keeps (fun k => k = cb) w5 W4) (by kernel_rfl) ?_
  change wpAnyH _ _ _ _ _ _ _ _ (World.drew _)
  have SW : Keeps (fun k => k = cb) w5 w5.drew := Keeps.of_all (drewN_below _ _ 1)
  have PA := HP0.out.drewN 1
  change PW _ _ _ _ _ (World.drew _) _ at PA
  have HA0 := hide PA
  clear PA
  generalize w5.drew = v0 at SW HA0 ⊢
  refine wpAnyH_take (i := 0) (v := .pointer (some ⟨gb, 0, none⟩)) rfl (by kernel_rfl) (by kernel_rfl) (by kernel_rfl) (fun _ _ _ h => h) (Or.inl ⟨by rfl, ?_⟩) SW ?_
  · intro W4 hW4
    go_simp <;> first | done | rfl | (rw [IntKind.wrap_i64]; omega) | omega
  go_simp
  refine wpAnyH_take (i := 1) (v := .slice (some ⟨cb, 0, none⟩) 26 26) rfl (by kernel_rfl) (by kernel_rfl) (by kernel_rfl) (fun _ _ _ h => h) (Or.inl ⟨by rfl, ?_⟩) SW ?_
  · intro W4 hW4
    obtain ⟨x0, x1⟩ := HFC.out W4 hW4
    go_simp <;> first | done | rfl | (rw [IntKind.wrap_i64]; omega) | omega
  go_simp
  refine wpAnyH_take (i := 2) (v := .pointer (some ⟨gb, 0, none⟩)) rfl (by kernel_rfl) (by kernel_rfl) (by kernel_rfl) (fun _ _ _ h => h) (Or.inl ⟨by rfl, ?_⟩) SW ?_
  · intro W4 hW4
    go_simp <;> first | done | rfl | (rw [IntKind.wrap_i64]; omega) | omega
  go_simp
  refine wpAnyH_take (i := 3) (v := .slice (some ⟨cb, 0, none⟩) 26 26) rfl (by kernel_rfl) (by kernel_rfl) (by kernel_rfl) (fun _ _ _ h => h) (Or.inl ⟨by rfl, ?_⟩) SW ?_
  · intro W4 hW4
    obtain ⟨x0, x1⟩ := HFC.out W4 hW4
    go_simp <;> first | done | rfl | (rw [IntKind.wrap_i64]; omega) | omega
  go_simp
  refine wpAnyH_take (i := 4) (v := .pointer (some ⟨gb, 0, none⟩)) rfl (by kernel_rfl) (by kernel_rfl) (by kernel_rfl) (fun _ _ _ h => h) (Or.inl ⟨by rfl, ?_⟩) SW ?_
  · intro W4 hW4
    go_simp <;> first | done | rfl | (rw [IntKind.wrap_i64]; omega) | omega
  go_simp
  refine wpAnyH_take (i := 5) (v := .slice (some ⟨cb, 0, none⟩) 26 26) rfl (by kernel_rfl) (by kernel_rfl) (by kernel_rfl) (fun _ _ _ h => h) (Or.inl ⟨by rfl, ?_⟩) SW ?_
  · intro W4 hW4
    obtain ⟨x0, x1⟩ := HFC.out W4 hW4
    go_simp <;> first | done | rfl | (rw [IntKind.wrap_i64]; omega) | omega
  go_simp
  refine wpAnyH_take (i := 6) (v := .pointer (some ⟨gb, 0, none⟩)) rfl (by kernel_rfl) (by kernel_rfl) (by kernel_rfl) (fun _ _ _ h => h) (Or.inl ⟨by rfl, ?_⟩) SW ?_
  · intro W4 hW4
    go_simp <;> first | done | rfl | (rw [IntKind.wrap_i64]; omega) | omega
  go_simp
  refine wpAnyH_take (i := 7) (v := .slice (some ⟨cb, 0, none⟩) 26 26) rfl (by kernel_rfl) (by kernel_rfl) (by kernel_rfl) (fun _ _ _ h => h) (Or.inl ⟨by rfl, ?_⟩) SW ?_
  · intro W4 hW4
    obtain ⟨x0, x1⟩ := HFC.out W4 hW4
    go_simp <;> first | done | rfl | (rw [IntKind.wrap_i64]; omega) | omega
  go_simp
  refine wpAnyH_ready (rs := [8]) (by kernel_rfl) (by simp) ?_
  refine AllReadyH.cons rfl (fun K1 hK1 => ?_) AllReadyH.nil
  go_simp
  refine hK1.out _ _ SW (fun SW => ?_)
  clear hK1 K1
  go_simp
  refine wpAnyH_ready (rs := [9]) (by kernel_rfl) (by simp) ?_
  refine AllReadyH.cons rfl (fun K1 hK1 => ?_) AllReadyH.nil
  obtain ⟨⟨vv, c1⟩, f1⟩ := HA0.out.cell (show 1 < 26 by omega)
  go_simp
  have HA1 := hide (HA0.out.set 1 (-2))
  have SB := SW.setCell (X := fun k => k = cb) (p := ⟨cb, 1, none⟩) rfl (.int .i64 (-2))
  refine hK1.out _ _ SB (fun SW => ?_)
  clear hK1 K1 c1 f1 SB HA0
  generalize v0.setCell ⟨cb, 1, none⟩ (.int .i64 (-2)) = v1 at SW HA1 ⊢
  go_simp
  refine wpAnyH_ready (rs := [10]) (by kernel_rfl) (by simp) ?_
  refine AllReadyH.cons rfl (fun K1 hK1 => ?_) AllReadyH.nil
  go_simp
  refine hK1.out _ _ SW (fun SW => ?_)
  clear hK1 K1
  go_simp
  refine wpAnyH_ready (rs := [11]) (by kernel_rfl) (by simp) ?_
  refine AllReadyH.cons rfl (fun K1 hK1 => ?_) AllReadyH.nil
  obtain ⟨⟨vv, c1⟩, f1⟩ := HA1.out.cell (show 12 < 26 by omega)
  go_simp
  have HA2 := hide (HA1.out.set 12 (-5))
  have SB := SW.setCell (X := fun k => k = cb) (p := ⟨cb, 12, none⟩) rfl (.int .i64 (-5))
  refine hK1.out _ _ SB (fun SW => ?_)
  clear hK1 K1 c1 f1 SB HA1
  generalize v1.setCell ⟨cb, 12, none⟩ (.int .i64 (-5)) = v2 at SW HA2 ⊢
  go_simp
  refine wpAnyH_ready (rs := [12]) (by kernel_rfl) (by simp) ?_
  refine AllReadyH.cons rfl (fun K1 hK1 => ?_) AllReadyH.nil
  go_simp
  refine hK1.out _ _ SW (fun SW => ?_)
  clear hK1 K1
  go_simp
  refine wpAnyH_ready (rs := [13]) (by kernel_rfl) (by simp) ?_
  refine AllReadyH.cons rfl (fun K1 hK1 => ?_) AllReadyH.nil
  obtain ⟨⟨vv, c1⟩, f1⟩ := HA2.out.cell (show 17 < 26 by omega)
  go_simp
  have HA3 := hide (HA2.out.set 17 (-3))
  have SB := SW.setCell (X := fun k => k = cb) (p := ⟨cb, 17, none⟩) rfl (.int .i64 (-3))
  refine hK1.out _ _ SB (fun SW => ?_)
  clear hK1 K1 c1 f1 SB HA2
  generalize v2.setCell ⟨cb, 17, none⟩ (.int .i64 (-3)) = v3 at SW HA3 ⊢
  go_simp
  refine wpAnyH_ready (rs := [14]) (by kernel_rfl) (by simp) ?_
  refine AllReadyH.cons rfl (fun K1 hK1 => ?_) AllReadyH.nil
  go_simp
  refine hK1.out _ _ SW (fun SW => ?_)
  clear hK1 K1
  go_simp
  refine wpAnyH_ready (rs := [15]) (by kernel_rfl) (by simp) ?_
  refine AllReadyH.cons rfl (fun K1 hK1 => ?_) AllReadyH.nil
  obtain ⟨⟨vv, c1⟩, f1⟩ := HA3.out.cell (show 19 < 26 by omega)
  go_simp
  have HA4 := hide (HA3.out.set 19 (-5))
  have SB := SW.setCell (X := fun k => k = cb) (p := ⟨cb, 19, none⟩) rfl (.int .i64 (-5))
  refine hK1.out _ _ SB (fun SW => ?_)
  clear hK1 K1 c1 f1 SB HA3
  generalize v3.setCell ⟨cb, 19, none⟩ (.int .i64 (-5)) = v4 at SW HA4 ⊢
  go_simp
  refine wpAnyH_done (by kernel_rfl) ?_ _
  have P6 := HA4
  clear SW HFC HP0 HA4
  obtain ⟨w6, hW1⟩ : ∃ w6, v4 = w6 := ⟨_, rfl⟩
  rw [hW1] at P6 ⊢
  clear hW1
  have G6 := HG.out.keeps P6.out.k hgc
  have Z6 := HZ4.out.keeps P6.out.k (by show ¬ w.heap.size = cb; omega)
  clear HPK
  go_wp2_with (first
    | refine wpList_load_gm rfl (.tmp 1) rfl gb rfl G6 ?_
    | (refine wpList_store_gm rfl (.tmp 0) (.tmp 28) rfl w.heap.size rfl rfl Z6 ?_; intro w7 k7 kk7))
  refine bodyPost_ret (results_gm rfl _ _ w.heap.size rfl k7) rfl ⟨cb, 26, rfl, ?_, ?_⟩
  · exact Rd.of_own (own_base (own_blk P6.out.o (fun g hg => kk7.block g (P6.out.o.lt g hg).2 (fun e => by
      simp only [Value.ownBlock, Option.some.injEq] at hg
      omega))) (Nat.zero_le _))
  · exact HB4.out.trans (((P6.out.k.mono (Y := fun q => w.heap.size ≤ q) (fun q _ e => by omega)).trans (kk7.mono (fun q _ e => by omega))).below (B := w.heap.size) HB4.out.size (fun q hq e => by omega))

end Go.Proofs.Ytmboikpcbkiepaa
