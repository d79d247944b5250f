/-
  At which places a sign stands, and at which not; the neighbours of a place; the group of a stone. No conditions beyond those that each theorem bears.
-/
import Derived.Test.YtafiaimlmdflnaaSp
namespace Go.Proofs.Ytafiaimlmdflnaa
open Go.RowKit Go.Shelf

/-- What such a question has captured: the board and the sign; the board's signs. -/
structure HsR (b s W H cb co N bc : Nat) (v : Int) (Z : List Int) (V : World) : Prop where
  b : Hb V b W H (some ⟨cb, co, none⟩) N bc
  s : V.cell? ⟨s, 0, none⟩ = some (.int .i64 v)
  r : Rd V (some ⟨cb, co, none⟩) N bc Z

theorem HsR.keeps {b s W H cb co N bc : Nat} {v : Int} {Z : List Int} {X : Nat → Prop} {V V' : World} (h : HsR b s W H cb co N bc v Z V) (hk : Keeps X V V') (h1 : ¬ X b) (h2 : ¬ X s) (h3 : ¬ X cb) : HsR b s W H cb co N bc v Z V' :=
  ⟨h.b.keeps hk h1, hk.cell h.s h2, h.r.keeps hk (fun b off e => by
    simp only [Option.some.injEq, Addr.mk.injEq] at e
    rw [← e.1]
    exact h3)⟩

theorem HsR.mono {b s W H cb co N bc : Nat} {v : Int} {Z : List Int} {V V' : World} (h : HsR b s W H cb co N bc v Z V) (hk : Below V.heap.size V V') : HsR b s W H cb co N bc v Z V' :=
  h.keeps (X := fun _ => False) (Keeps.of_all hk) (fun h => h) (fun h => h) (fun h => h)

theorem HsR.lt {b s W H cb co N bc : Nat} {v : Int} {Z : List Int} {V : World} (h : HsR b s W H cb co N bc v Z V) (hN : 0 < N) : b < V.heap.size ∧ s < V.heap.size ∧ cb < V.heap.size :=
  ⟨h.b.lt, World.block_lt_of_cell? V _ h.s, h.r.blt hN⟩

theorem has_any (W H : Nat) (a : Option Addr) (N c : Nat) (v : Int) (w : World) : Calls Try.prog 49 #[.agg (gdA W H a N c), .int .i64 v] w fun e w' => e = .returned (.func (.func 74) #[] #[.pointer (some ⟨w.heap.size, 0, none⟩), .pointer (some ⟨w.heap.size + 1, 0, none⟩)]) ∧ w' = (w.alloc (.cells (gdA W H a N c) 54)).alloc (.cells #[.int .i64 v] 3) := by
  go_enter Try.func49, Try.ntmps49
  go_wp2
  go_ret
  exact ⟨rfl, rfl⟩

theorem hasNot_any (W H : Nat) (a : Option Addr) (N c : Nat) (v : Int) (w : World) : Calls Try.prog 64 #[.agg (gdA W H a N c), .int .i64 v] w fun e w' => e = .returned (.func (.func 82) #[] #[.pointer (some ⟨w.heap.size, 0, none⟩), .pointer (some ⟨w.heap.size + 1, 0, none⟩)]) ∧ w' = (w.alloc (.cells (gdA W H a N c) 54)).alloc (.cells #[.int .i64 v] 3) := by
  go_enter Try.func64, Try.ntmps64
  go_wp2
  go_ret
  exact ⟨rfl, rfl⟩

theorem HsR.new (W H cb co N bc : Nat) (v : Int) (Z : List Int) (w : World) (hR : Rd w (some ⟨cb, co, none⟩) N bc Z) : HsR w.heap.size (w.heap.size + 1) W H cb co N bc v Z ((w.alloc (.cells (gdA W H (some ⟨cb, co, none⟩) N bc) 54)).alloc (.cells #[.int .i64 v] 3)) := by
  refine ⟨(Hb.new w W H _ N bc).old _, ?_, (hR.alloc _).alloc _⟩
  have := new_cell (w.alloc (.cells (gdA W H (some ⟨cb, co, none⟩) N bc) 54)) (.int .i64 v) 3
  rwa [World.size_alloc] at this

set_option maxHeartbeats 1000000 in
theorem has1_any (b s W H cb co N bc : Nat) (v : Int) (Z : List Int) (q : Nat) (V : World) (hq : q < N) (h : HsR b s W H cb co N bc v Z V) :
    Calls Try.prog 74 #[.int .i64 q, .pointer (some ⟨b, 0, none⟩), .pointer (some ⟨s, 0, none⟩)] V fun e w' => e = .returned (.bool (decide (Z.getD q 0 = v))) ∧ Below V.heap.size V w' := by
  obtain ⟨-, -, g2⟩ := h.b.cells
  have cs := h.s
  have cz := (h.r.cell hq).2
  have hc := h.r.cap
  have hm : bc ≤ 9223372036854775807 := by have := h.r.max; unfold maxLen at this; omega
  obtain ⟨z, hz⟩ : ∃ z, Z.getD q 0 = z := ⟨_, rfl⟩
  rw [hz] at cz ⊢
  clear hz h
  go_enter Try.func74, Try.ntmps74
  go_upto_region 1 with fail
  go_quiet (fail)
  go_wp2_with fail
  go_ret
  refine ⟨ret_bool ?_, drewN_below _ _ _⟩
  rw [Bool.eq_iff_iff]
  simp

set_option maxHeartbeats 1000000 in
theorem hasNot1_any (b s W H cb co N bc : Nat) (v : Int) (Z : List Int) (q : Nat) (V : World) (hq : q < N) (h : HsR b s W H cb co N bc v Z V) :
    Calls Try.prog 82 #[.int .i64 q, .pointer (some ⟨b, 0, none⟩), .pointer (some ⟨s, 0, none⟩)] V fun e w' => e = .returned (.bool (decide (Z.getD q 0 ≠ v))) ∧ Below V.heap.size V w' := by
  obtain ⟨-, -, g2⟩ := h.b.cells
  have cs := h.s
  have cz := (h.r.cell hq).2
  have hc := h.r.cap
  have hm : bc ≤ 9223372036854775807 := by have := h.r.max; unfold maxLen at this; omega
  obtain ⟨z, hz⟩ : ∃ z, Z.getD q 0 = z := ⟨_, rfl⟩
  rw [hz] at cz ⊢
  clear hz h
  go_enter Try.func82, Try.ntmps82
  go_upto_region 1 with fail
  go_quiet (fail)
  go_wp2_with fail
  go_ret
  refine ⟨ret_bool ?_, drewN_below _ _ _⟩
  rw [Bool.eq_iff_iff]
  simp

theorem has_may {b s W H cb co N bc : Nat} {v : Int} {Z : List Int} {w : World} (h : HsR b s W H cb co N bc v Z w) : MayQ 74 #[.pointer (some ⟨b, 0, none⟩), .pointer (some ⟨s, 0, none⟩)] N (fun q => Z.getD q 0 = v) (fun _ => True) w :=
  ⟨enters_of Try.func74 (by kernel_rfl) rfl, fun q V hq _ hb => has1_any b s W H cb co N bc v Z q V hq (h.mono hb)⟩

theorem hasNot_may {b s W H cb co N bc : Nat} {v : Int} {Z : List Int} {w : World} (h : HsR b s W H cb co N bc v Z w) : MayQ 82 #[.pointer (some ⟨b, 0, none⟩), .pointer (some ⟨s, 0, none⟩)] N (fun q => Z.getD q 0 ≠ v) (fun _ => True) w :=
  ⟨enters_of Try.func82 (by kernel_rfl) rfl, fun q V hq _ hb => hasNot1_any b s W H cb co N bc v Z q V hq (h.mono hb)⟩

/-- The group of a stone, rising. -/
noncomputable def grp (W H : Nat) (Z : List Int) (p : Nat) : List Nat := spr (W * H) (nb4 W H) (fun q => Z.getD q 0 = Z.getD p 0) p

attribute [local irreducible] D4 spr grp

set_option maxRecDepth 100000 in
set_option maxHeartbeats 8000000 in
theorem neighbours_any (p W H N bc cb co : Nat) (w : World) : Calls Try.prog 76 #[.agg (gdA W H (some ⟨cb, co, none⟩) N bc), .int .i64 p] w fun e w' => ∃ gb db, e = .returned (.func (.func 87) #[] #[.pointer (some ⟨gb + 2, 0, none⟩), .pointer (some ⟨gb + 1, 0, none⟩), .pointer (some ⟨gb, 0, none⟩)]) ∧ NbR gb (gb + 1) (gb + 2) db p W H (some ⟨cb, co, none⟩) N bc w' ∧ w.heap.size ≤ gb ∧ w.heap.size ≤ db ∧ Below w.heap.size w w' := by
  obtain ⟨w1, hw1⟩ : ∃ w1, w.alloc (.cells (gdA W H (some ⟨cb, co, none⟩) N bc) 54) = w1 := ⟨_, rfl⟩
  have B1 : Below w.heap.size w w1 := by rw [← hw1]; exact (Below.refl _ _).alloc (Nat.le_refl _) _
  have H1 : Hb w1 w.heap.size W H (some ⟨cb, co, none⟩) N bc := by rw [← hw1]; exact Hb.new w W H _ N bc
  have HGR : Hid (∀ W4, Below w1.heap.size w1 W4 → W4.rangeAt w.heap.size 0 [.int .i64 W, .int .i64 H, .slice (some ⟨cb, co, none⟩) N bc]) := hide (fun W4 hb => (H1.below hb H1.lt).range)
  have HB1 := hide B1
  clear B1 H1
  go_enter Try.func76, Try.ntmps76
  go_upto_region 1 with fail
  clear hw1
  refine wp_calm ?_
  refine wp_region_held (S := fun W4 => Below w1.heap.size w1 W4) (by kernel_rfl) ?_
  change wpAnyH _ _ _ _ _ _ _ _ (World.drew _)
  have SW : Below w1.heap.size w1 w1.drew := (Below.refl _ w1).drew
  refine wpAnyH_take (i := 0) (v := .pointer (some ⟨w.heap.size, 0, none⟩)) rfl (by kernel_rfl) (by kernel_rfl) (by kernel_rfl) (fun _ _ _ h => h) (Or.inl ⟨by rfl, ?_⟩) SW ?_
  · intro W4 hW4
    go_simp <;> first | done | rfl | (rw [IntKind.wrap_i64]; omega) | omega
  go_simp
  refine wpAnyH_take (i := 1) (v := .agg (gdA W H (some ⟨cb, co, none⟩) N bc)) rfl (by kernel_rfl) (by kernel_rfl) (by kernel_rfl) (fun _ _ _ h => h) (yieldsIf_load_mid (by rfl) 24 _ rfl w.heap.size 0 (by rfl) [.int .i64 W, .int .i64 H, .slice (some ⟨cb, co, none⟩) N bc] _ (fun W4 hW4 => HGR.out W4 hW4) Try.underlying24 rfl size24) SW ?_
  go_simp
  refine wpAnyH_take (i := 2) (v := .int .i64 p) rfl (by kernel_rfl) (by kernel_rfl) (by kernel_rfl) (fun _ _ _ h => h) (Or.inl ⟨by rfl, ?_⟩) SW ?_
  · intro W4 hW4
    go_simp <;> first | done | rfl | (rw [IntKind.wrap_i64]; omega) | omega
  go_simp
  refine wpAnyH_ready (rs := [3]) (by kernel_rfl) (by simp) ?_
  refine AllReadyH.cons rfl (fun K1 hK1 => ?_) AllReadyH.nil
  go_simp
  refine (around_any _).mono ?_
  rintro e w2 ⟨rfl, hw2⟩
  have B2 : Below w1.heap.size w1 w2 := by rw [hw2]; exact SW.alloc (by simp) _
  have D2 : Blk w2 w1.heap.size 37 D4 := by rw [hw2]; exact Blk.new w1.drew 37 D4 _ rfl
  have s2 : w2.heap.size = w1.heap.size + 1 := by rw [hw2]; simp
  refine hK1.out _ _ B2 (fun SW => ?_)
  clear hw2 hK1 K1
  refine wpAnyH_ready (rs := [4]) (by kernel_rfl) (by simp) ?_
  refine AllReadyH.cons rfl (fun K1 hK1 => ?_) AllReadyH.nil
  go_simp
  refine (Beside_any p W H _ N bc (db := w1.heap.size) _ rfl _).mono ?_
  rintro e w3 ⟨rfl, hw3⟩
  have B3 : Below w1.heap.size w1 w3 := by rw [hw3]; exact ((SW.alloc (by omega) _).alloc (by simp; omega) _).alloc (by simp; omega) _
  have R3 := hide (NbR.new p W H (some ⟨cb, co, none⟩) N bc w1.heap.size w2 D2)
  rw [← hw3, s2] at R3
  refine hK1.out _ _ B3 (fun SW => ?_)
  clear hw3 hK1 K1
  go_simp
  refine wpAnyH_take (i := 5) (v := .func (.func 87) #[] #[.pointer (some ⟨w1.heap.size + 1 + 2, 0, none⟩), .pointer (some ⟨w1.heap.size + 1 + 1, 0, none⟩), .pointer (some ⟨w1.heap.size + 1, 0, none⟩)]) rfl (by kernel_rfl) (by kernel_rfl) (by kernel_rfl) (fun _ _ _ h => h) (Or.inl ⟨by rfl, ?_⟩) SW ?_
  · intro W4 hW4
    go_simp <;> first | done | rfl | (rw [IntKind.wrap_i64]; omega) | omega
  go_simp
  refine wpAnyH_done (by kernel_rfl) ?_ _
  go_wp2_with fail
  go_ret
  have := HB1.out.size
  exact ⟨w1.heap.size + 1, w1.heap.size, rfl, R3.out, by omega, by omega, HB1.out.trans (B3.mono HB1.out.size)⟩

set_option maxRecDepth 100000 in
set_option maxHeartbeats 8000000 in
theorem group_any (p W H N bc cb co : Nat) (Z : List Int) (w : World) (hW : 1 ≤ W ∧ W ≤ 10) (hH : 1 ≤ H ∧ H ≤ 10) (hN : W * H = N) (hp : p < N) (hR : Rd w (some ⟨cb, co, none⟩) N bc Z) :
    Calls Try.prog 32 #[.agg (gdA W H (some ⟨cb, co, none⟩) N bc), .int .i64 p] w fun e w' => ∃ a c, e = .returned (.slice a (grp W H Z p).length c) ∧ w'.ownsRow w.heap.size 3 1 (.slice a (grp W H Z p).length c) (grp W H Z p).length ((toI (grp W H Z p)).map (Value.int .i64)) ∧ Below w.heap.size w w' := by
  obtain ⟨w1, hw1⟩ : ∃ w1, w.alloc (.cells (gdA W H (some ⟨cb, co, none⟩) N bc) 54) = w1 := ⟨_, rfl⟩
  have B1 : Below w.heap.size w w1 := by rw [← hw1]; exact (Below.refl _ _).alloc (Nat.le_refl _) _
  have H1 : Hb w1 w.heap.size W H (some ⟨cb, co, none⟩) N bc := by rw [← hw1]; exact Hb.new w W H _ N bc
  have R1 := hR.mono B1
  have hc := hR.cap
  have hm : bc ≤ 9223372036854775807 := by have := hR.max; unfold maxLen at this; omega
  have HGR : Hid (∀ W4, Below w1.heap.size w1 W4 → W4.rangeAt w.heap.size 0 [.int .i64 W, .int .i64 H, .slice (some ⟨cb, co, none⟩) N bc]) := hide (fun W4 hb => (H1.below hb H1.lt).range)
  have HGC : Hid (∀ W4, Below w1.heap.size w1 W4 → W4.cell? ⟨w.heap.size, 2, none⟩ = some (.slice (some ⟨cb, co, none⟩) N bc)) := hide (fun W4 hb => (H1.below hb H1.lt).cells.2.2)
  have HCZ : Hid (∀ W4, Below w1.heap.size w1 W4 → W4.cell? ⟨cb, co + p, none⟩ = some (.int .i64 (Z.getD p 0))) := hide (fun W4 hb => ((R1.mono hb).cell hp).2)
  have HRR : Hid (∀ W4, Below w1.heap.size w1 W4 → Rd W4 (some ⟨cb, co, none⟩) N bc Z) := hide (fun W4 hb => R1.mono hb)
  have HGE : Hid (grp W H Z p = spr N (nb4 W H) (fun q => Z.getD q 0 = Z.getD p 0) p) := hide (by rw [grp, hN])
  have HB1 := hide B1
  rw [HGE.out]
  have FIN : Hid (∀ (hb sb db : Nat) (W4 : World), HsR hb sb W H cb co N bc (Z.getD p 0) Z W4 → Blk W4 db 37 D4 → Calls Try.prog 48 #[.agg (gdA W H (some ⟨cb, co, none⟩) N bc), .int .i64 p, .func (.func 74) #[] #[.pointer (some ⟨hb, 0, none⟩), .pointer (some ⟨sb, 0, none⟩)], .slice (some ⟨db, 0, none⟩) 4 4] W4 fun e w' => ∃ a c, e = .returned (.slice a (spr N (nb4 W H) (fun q => Z.getD q 0 = Z.getD p 0) p).length c) ∧ w'.ownsRow W4.heap.size 3 1 (.slice a (spr N (nb4 W H) (fun q => Z.getD q 0 = Z.getD p 0) p).length c) (spr N (nb4 W H) (fun q => Z.getD q 0 = Z.getD p 0) p).length ((toI (spr N (nb4 W H) (fun q => Z.getD q 0 = Z.getD p 0) p)).map (Value.int .i64)) ∧ Below W4.heap.size W4 w') := hide (fun hb sb db W4 h1 h2 => Spread_any W H N bc p db 74 _ _ _ W4 hW hH hN hp rfl h2 (fun _ => True) (fun _ _ _ _ => trivial) (has_may h1))
  generalize spr N (nb4 W H) (fun q => Z.getD q 0 = Z.getD p 0) p = L at *
  obtain ⟨zp, hzp⟩ : ∃ zp, Z.getD p 0 = zp := ⟨_, rfl⟩
  rw [hzp] at HCZ FIN
  clear B1 H1 R1 HGE hR hzp
  go_enter Try.func32, Try.ntmps32
  go_upto_region 1 with fail
  clear hw1
  refine wp_calm ?_
  refine wp_region_held (S := fun W4 => Below w1.heap.size w1 W4) (by kernel_rfl) ?_
  change wpAnyH _ _ _ _ _ _ _ _ (World.drew _)
  have SW : Below w1.heap.size w1 w1.drew := (Below.refl _ w1).drew
  refine wpAnyH_take (i := 0) (v := .pointer (some ⟨w.heap.size, 0, none⟩)) rfl (by kernel_rfl) (by kernel_rfl) (by kernel_rfl) (fun _ _ _ h => h) (Or.inl ⟨by rfl, ?_⟩) SW ?_
  · intro W4 hW4
    go_simp <;> first | done | rfl | (rw [IntKind.wrap_i64]; omega) | omega
  go_simp
  refine wpAnyH_take (i := 1) (v := .agg (gdA W H (some ⟨cb, co, none⟩) N bc)) rfl (by kernel_rfl) (by kernel_rfl) (by kernel_rfl) (fun _ _ _ h => h) (yieldsIf_load_mid (by rfl) 24 _ rfl w.heap.size 0 (by rfl) [.int .i64 W, .int .i64 H, .slice (some ⟨cb, co, none⟩) N bc] _ (fun W4 hW4 => HGR.out W4 hW4) Try.underlying24 rfl size24) SW ?_
  go_simp
  refine wpAnyH_take (i := 2) (v := .int .i64 p) rfl (by kernel_rfl) (by kernel_rfl) (by kernel_rfl) (fun _ _ _ h => h) (Or.inl ⟨by rfl, ?_⟩) SW ?_
  · intro W4 hW4
    go_simp <;> first | done | rfl | (rw [IntKind.wrap_i64]; omega) | omega
  go_simp
  refine wpAnyH_take (i := 3) (v := .agg (gdA W H (some ⟨cb, co, none⟩) N bc)) rfl (by kernel_rfl) (by kernel_rfl) (by kernel_rfl) (fun _ _ _ h => h) (yieldsIf_load_mid (by rfl) 54 _ rfl w.heap.size 0 (by rfl) [.int .i64 W, .int .i64 H, .slice (some ⟨cb, co, none⟩) N bc] _ (fun W4 hW4 => HGR.out W4 hW4) Try.underlying54 rfl size54) SW ?_
  go_simp
  refine wpAnyH_take (i := 4) (v := .pointer (some ⟨w.heap.size, 0, none⟩)) rfl (by kernel_rfl) (by kernel_rfl) (by kernel_rfl) (fun _ _ _ h => h) (Or.inl ⟨by rfl, ?_⟩) SW ?_
  · intro W4 hW4
    go_simp <;> first | done | rfl | (rw [IntKind.wrap_i64]; omega) | omega
  go_simp
  refine wpAnyH_take (i := 5) (v := .pointer (some ⟨w.heap.size, 2, none⟩)) rfl (by kernel_rfl) (by kernel_rfl) (by kernel_rfl) (fun _ _ _ h => h) (Or.inl ⟨by rfl, ?_⟩) SW ?_
  · intro W4 hW4
    go_simp <;> first | done | rfl | (rw [IntKind.wrap_i64]; omega) | omega
  go_simp
  refine wpAnyH_take (i := 6) (v := .slice (some ⟨cb, co, none⟩) N bc) rfl (by kernel_rfl) (by kernel_rfl) (by kernel_rfl) (fun _ _ _ h => h) (Or.inl ⟨by rfl, ?_⟩) SW ?_
  · intro W4 hW4
    have x0 := HGC.out W4 hW4
    go_simp <;> first | done | rfl | (rw [IntKind.wrap_i64]; omega) | omega
  go_simp
  refine wpAnyH_take (i := 7) (v := .int .i64 p) rfl (by kernel_rfl) (by kernel_rfl) (by kernel_rfl) (fun _ _ _ h => h) (Or.inl ⟨by rfl, ?_⟩) SW ?_
  · intro W4 hW4
    go_simp <;> first | done | rfl | (rw [IntKind.wrap_i64]; omega) | omega
  go_simp
  refine wpAnyH_take (i := 8) (v := .pointer (some ⟨cb, co + p, none⟩)) rfl (by kernel_rfl) (by kernel_rfl) (by kernel_rfl) (fun _ _ _ h => h) (Or.inl ⟨by rfl, ?_⟩) SW ?_
  · intro W4 hW4
    go_simp <;> first | done | rfl | (rw [IntKind.wrap_i64]; omega) | omega
  go_simp
  refine wpAnyH_take (i := 9) (v := .int .i64 zp) rfl (by kernel_rfl) (by kernel_rfl) (by kernel_rfl) (fun _ _ _ h => h) (Or.inl ⟨by rfl, ?_⟩) SW ?_
  · intro W4 hW4
    have x0 := HCZ.out W4 hW4
    go_simp <;> first | done | rfl | (rw [IntKind.wrap_i64]; omega) | omega
  go_simp
  refine wpAnyH_ready (rs := [10]) (by kernel_rfl) (by simp) ?_
  refine AllReadyH.cons rfl (fun K1 hK1 => ?_) AllReadyH.nil
  · go_simp
    refine (has_any W H _ N bc zp _).mono ?_
    rintro e w2 ⟨rfl, hw2⟩
    have B2 : Below w1.heap.size w1 w2 := by rw [hw2]; exact (SW.alloc (by have := SW.size; omega) _).alloc (by have := SW.size; simp) _
    have R2 := hide (HsR.new W H cb co N bc zp Z _ (HRR.out _ SW))
    rw [← hw2] at R2
    refine hK1.out _ _ B2 (fun SW => ?_)
    clear hw2 hK1 K1
    refine wpAnyH_ready (rs := [11]) (by kernel_rfl) (by simp) ?_
    refine AllReadyH.cons rfl (fun K1 hK1 => ?_) AllReadyH.nil
    go_simp
    refine (around_any _).mono ?_
    rintro e w3 ⟨rfl, hw3⟩
    have B3 : Below w1.heap.size w1 w3 := by rw [hw3]; exact SW.alloc (by have := SW.size; omega) _
    have D3 : Hid (Blk w3 w2.heap.size 37 D4) := hide (by rw [hw3]; exact Blk.new w2 37 D4 _ rfl)
    have R3 := hide (R2.out.mono (show Below w2.heap.size w2 w3 by rw [hw3]; exact (Below.refl _ _).alloc (Nat.le_refl _) _))
    refine hK1.out _ _ B3 (fun SW => ?_)
    clear hw3 hK1 K1 R2
    refine wpAnyH_ready (rs := [12]) (by kernel_rfl) (by simp) ?_
    refine AllReadyH.cons rfl (fun K1 hK1 => ?_) AllReadyH.nil
    go_simp
    refine (FIN.out _ _ _ _ R3.out D3.out).mono ?_
    rintro e w4 ⟨a, c, rfl, hO, hb4⟩
    have B4 : Below w1.heap.size w1 w4 := SW.trans (hb4.mono SW.size)
    have HO : Hid (w4.ownsRow w.heap.size 3 1 (.slice a L.length c) L.length ((toI L).map (Value.int .i64))) := hide (own_base hO (Nat.le_trans HB1.out.size SW.size))
    refine hK1.out _ _ B4 (fun SW => ?_)
    clear hK1 K1 hO hb4 R3 D3
    refine wpAnyH_take (i := 13) (v := .slice a L.length c) rfl (by kernel_rfl) (by kernel_rfl) (by kernel_rfl) (fun _ _ _ h => h) (Or.inl ⟨by rfl, ?_⟩) SW ?_
    · intro W4 hW4
      go_simp <;> first | done | rfl | (rw [IntKind.wrap_i64]; omega) | omega
    go_simp
    refine wpAnyH_done (by kernel_rfl) ?_ _
    go_wp2_with fail
    go_ret
    exact ⟨a, c, rfl, HO.out, HB1.out.trans (B4.mono HB1.out.size)⟩

end Go.Proofs.Ytafiaimlmdflnaa
