/-
  How package gammon orders boards: the closure of Moves. No conditions beyond those that each theorem bears.
-/
import Derived.Test.YtmboikpcbkiepaaCmp
import Derived.Test.YtmboikpcbkiepaaPut
namespace Go.Proofs.Ytmboikpcbkiepaa
open Go.RowKit

def or3 (x y z : Int) : Int := if x ≠ 0 then x else if y ≠ 0 then y else z

attribute [local irreducible] cI cL

set_option maxRecDepth 100000 in
set_option maxHeartbeats 2000000 in
theorem or_any (x y z : Int) (b : Nat) (w : World) (h : Rd w (some ⟨b, 0, none⟩) 3 3 [x, y, z]) :
    Calls Try.prog 40 #[.slice (some ⟨b, 0, none⟩) 3 3] w fun e w' => e = .returned (.int .i64 (or3 x y z)) ∧ w' = w := by
  obtain ⟨b', off, he, hc⟩ := h.cells (by omega)
  simp only [Option.some.injEq, Addr.mk.injEq] at he
  obtain ⟨rfl, rfl, _⟩ := he
  have c0 := hc 0 (by omega)
  have c1 := hc 1 (by omega)
  have c2 := hc 2 (by omega)
  simp only [List.getD_cons_zero, List.getD_cons_succ] at c0 c1 c2
  clear hc h
  by_cases hx : x = 0
  · have hxb : (x != 0) = false := by simp [hx]
    by_cases hy : y = 0
    · have hyb : (y != 0) = false := by simp [hy]
      by_cases hz : z = 0
      · have hzb : (z != 0) = false := by simp [hz]
        have HR : Hid (or3 x y z = 0) := hide (by unfold or3; rw [if_neg (by omega), if_neg (by omega), hz])
        rw [HR.out]
        clear hx hy hz HR
        go_enter Try.func40, Try.ntmps40
        go_wp2_with fail
        refine wp_loop_rounds 4 ?_
        rw [rounds_succ]
        go_wp2_with fail
        rw [rounds_succ]
        go_wp2_with fail
        rw [rounds_succ]
        go_wp2_with fail
        rw [rounds_succ]
        go_wp2_with fail
        go_ret
        exact ⟨rfl, rfl⟩
      · have hzb : (z != 0) = true := by simpa using hz
        have HR : Hid (or3 x y z = z) := hide (by unfold or3; rw [if_neg (by omega), if_neg (by omega)])
        rw [HR.out]
        clear hx hy hz HR
        go_enter Try.func40, Try.ntmps40
        go_wp2_with fail
        refine wp_loop_rounds 4 ?_
        rw [rounds_succ]
        go_wp2_with fail
        rw [rounds_succ]
        go_wp2_with fail
        rw [rounds_succ]
        go_wp2_with fail
        go_ret
        exact ⟨rfl, rfl⟩
    · have hyb : (y != 0) = true := by simpa using hy
      have HR : Hid (or3 x y z = y) := hide (by unfold or3; rw [if_neg (by omega), if_pos hy])
      rw [HR.out]
      clear hx hy HR
      go_enter Try.func40, Try.ntmps40
      go_wp2_with fail
      refine wp_loop_rounds 4 ?_
      rw [rounds_succ]
      go_wp2_with fail
      rw [rounds_succ]
      go_wp2_with fail
      go_ret
      exact ⟨rfl, rfl⟩
  · have hxb : (x != 0) = true := by simpa using hx
    have HR : Hid (or3 x y z = x) := hide (by unfold or3; rw [if_pos hx])
    rw [HR.out]
    clear hx HR
    go_enter Try.func40, Try.ntmps40
    go_wp2_with fail
    refine wp_loop_rounds 4 ?_
    rw [rounds_succ]
    go_wp2_with fail
    go_ret
    exact ⟨rfl, rfl⟩

/-- The closure's answer. -/
def cB (x y : Bo) : Int := or3 (cL x.P y.P) (cI x.W y.W) (cI x.B y.B)

attribute [local irreducible] or3

set_option maxRecDepth 100000 in
set_option maxHeartbeats 4000000 in
theorem closure_any (g c g2 c2 : Nat) (x y : Bo) (T T2 : Int) (w : World) (hx : Rd w (some ⟨g, 0, none⟩) 26 c x.P) (hy : Rd w (some ⟨g2, 0, none⟩) 26 c2 y.P) :
    Calls Try.prog 39 #[.agg (gmA (some ⟨g, 0, none⟩) 26 c x.W x.B T), .agg (gmA (some ⟨g2, 0, none⟩) 26 c2 y.W y.B T2)] w fun e w' => e = .returned (.int .i64 (cB x y)) ∧ ∃ o1 o2 o3, w' = (((w.alloc o1).alloc o2).alloc o3).drew := by
  obtain ⟨R, hR⟩ : ∃ R, cB x y = R := ⟨_, rfl⟩
  rw [hR]
  unfold cB at hR
  obtain ⟨p1, hp1⟩ : ∃ p, cL x.P y.P = p := ⟨_, rfl⟩
  obtain ⟨p2, hp2⟩ : ∃ p, cI x.W y.W = p := ⟨_, rfl⟩
  obtain ⟨p3, hp3⟩ : ∃ p, cI x.B y.B = p := ⟨_, rfl⟩
  rw [hp1, hp2, hp3] at hR
  obtain ⟨w1, hw1⟩ : ∃ w1, (w.alloc (.cells (gmA (some ⟨g, 0, none⟩) 26 c x.W x.B T) 24)).alloc (.cells (gmA (some ⟨g2, 0, none⟩) 26 c2 y.W y.B T2) 24) = w1 := ⟨_, rfl⟩
  have B1 : Below w.heap.size w w1 := by rw [← hw1]; exact ((Below.refl _ w).alloc (Nat.le_refl _) _).alloc (by simp) _
  have K1 : Gm w1 w.heap.size (some ⟨g, 0, none⟩) 26 c x.W x.B T := by rw [← hw1]; exact (Gm.new w _ _ _ _ _ _).old _
  have K2 : Gm w1 (w.heap.size + 1) (some ⟨g2, 0, none⟩) 26 c2 y.W y.B T2 := by
    rw [← hw1]
    have := Gm.new (w.alloc (.cells (gmA (some ⟨g, 0, none⟩) 26 c x.W x.B T) 24)) (some ⟨g2, 0, none⟩) 26 c2 y.W y.B T2
    rw [World.size_alloc] at this
    exact this
  have HQ : Hid (∀ W5, Below w1.heap.size w1 W5 → W5.cell? ⟨w.heap.size, 0, none⟩ = some (.slice (some ⟨g, 0, none⟩) 26 c) ∧ W5.cell? ⟨w.heap.size, 1, none⟩ = some (.int .i64 x.W) ∧ W5.cell? ⟨w.heap.size, 2, none⟩ = some (.int .i64 x.B) ∧ W5.cell? ⟨w.heap.size + 1, 0, none⟩ = some (.slice (some ⟨g2, 0, none⟩) 26 c2) ∧ W5.cell? ⟨w.heap.size + 1, 1, none⟩ = some (.int .i64 y.W) ∧ W5.cell? ⟨w.heap.size + 1, 2, none⟩ = some (.int .i64 y.B)) := hide (fun W5 h5 => by
    obtain ⟨a0, a1, a2, _⟩ := (K1.below h5 K1.lt).cells
    obtain ⟨b0, b1, b2, _⟩ := (K2.below h5 K2.lt).cells
    exact ⟨a0, a1, a2, b0, b1, b2⟩)
  have HC1 : Hid (∀ W5, Below w1.heap.size w1 W5 → Calls Try.prog 41 #[.slice (some ⟨g, 0, none⟩) 26 c, .slice (some ⟨g2, 0, none⟩) 26 c2] W5 fun e w' => e = .returned (.int .i64 p1) ∧ w' = W5) := hide (fun W5 h5 => by
    rw [← hp1]
    exact compareL_any _ _ c c2 x.P y.P W5 ((hx.mono B1).mono h5) ((hy.mono B1).mono h5))
  have HC2 : Hid (∀ W5, Calls Try.prog 42 #[.int .i64 x.W, .int .i64 y.W] W5 fun e w' => e = .returned (.int .i64 p2) ∧ w' = W5) := hide (fun W5 => by rw [← hp2]; exact compare_any _ _ W5)
  have HC3 : Hid (∀ W5, Calls Try.prog 42 #[.int .i64 x.B, .int .i64 y.B] W5 fun e w' => e = .returned (.int .i64 p3) ∧ w' = W5) := hide (fun W5 => by rw [← hp3]; exact compare_any _ _ W5)
  have HC4 : Hid (Calls Try.prog 40 #[.slice (some ⟨w1.drew.heap.size, 0, none⟩) 3 3] (w1.drew.alloc (.cells #[.int .i64 p1, .int .i64 p2, .int .i64 p3] 3)) fun e w' => e = .returned (.int .i64 R) ∧ w' = w1.drew.alloc (.cells #[.int .i64 p1, .int .i64 p2, .int .i64 p3] 3)) := hide (by
    rw [← hR]
    exact or_any p1 p2 p3 _ _ (Rd.of_blk (Blk.new w1.drew 3 [p1, p2, p3] _ rfl) rfl (by decide)))
  have HW1 := hide hw1
  have SW : Below w1.heap.size w1 w1.drew := (Below.refl _ w1).drew
  clear hp1 hp2 hp3 hR hx hy B1 K1 K2
  go_enter Try.func39, Try.ntmps39
  go_upto_region 1 with fail
  clear hw1
  refine wp_region_held (S := fun W5 => Below w1.heap.size w1 W5) (by kernel_rfl) ?_
  change wpAnyH _ _ _ _ _ _ _ _ (World.drew _)
  refine wpAnyH_take (i := 0) (v := .pointer (some ⟨w.heap.size, 0, none⟩)) rfl (by kernel_rfl) (by kernel_rfl) (by kernel_rfl) (fun _ _ _ h => h) (Or.inl ⟨by rfl, ?_⟩) SW ?_
  · intro W _
    go_simp <;> first | done | rfl | (rw [IntKind.wrap_i64]; omega) | (intro hh; exfalso; omega)
  go_simp
  refine wpAnyH_take (i := 1) (v := .slice (some ⟨g, 0, none⟩) 26 c) rfl (by kernel_rfl) (by kernel_rfl) (by kernel_rfl) (fun _ _ _ h => h) (Or.inl ⟨by rfl, ?_⟩) SW ?_
  · intro W5 hW5
    obtain ⟨q0, q1, q2, r0, r1, r2⟩ := HQ.out W5 hW5
    go_simp <;> first | done | rfl
  go_simp
  refine wpAnyH_take (i := 2) (v := .pointer (some ⟨w.heap.size + 1, 0, none⟩)) rfl (by kernel_rfl) (by kernel_rfl) (by kernel_rfl) (fun _ _ _ h => h) (Or.inl ⟨by rfl, ?_⟩) SW ?_
  · intro W _
    go_simp <;> first | done | rfl | (rw [IntKind.wrap_i64]; omega) | (intro hh; exfalso; omega)
  go_simp
  refine wpAnyH_take (i := 3) (v := .slice (some ⟨g2, 0, none⟩) 26 c2) rfl (by kernel_rfl) (by kernel_rfl) (by kernel_rfl) (fun _ _ _ h => h) (Or.inl ⟨by rfl, ?_⟩) SW ?_
  · intro W5 hW5
    obtain ⟨q0, q1, q2, r0, r1, r2⟩ := HQ.out W5 hW5
    go_simp <;> first | done | rfl
  go_simp
  refine wpAnyH_take (i := 5) (v := .pointer (some ⟨w.heap.size, 1, none⟩)) rfl (by kernel_rfl) (by kernel_rfl) (by kernel_rfl) (fun _ _ _ h => h) (Or.inl ⟨by rfl, ?_⟩) SW ?_
  · intro W _
    go_simp <;> first | done | rfl | (rw [IntKind.wrap_i64]; omega) | (intro hh; exfalso; omega)
  go_simp
  refine wpAnyH_take (i := 6) (v := .int .i64 x.W) rfl (by kernel_rfl) (by kernel_rfl) (by kernel_rfl) (fun _ _ _ h => h) (Or.inl ⟨by rfl, ?_⟩) SW ?_
  · intro W5 hW5
    obtain ⟨q0, q1, q2, r0, r1, r2⟩ := HQ.out W5 hW5
    go_simp <;> first | done | rfl
  go_simp
  refine wpAnyH_take (i := 7) (v := .pointer (some ⟨w.heap.size + 1, 1, none⟩)) rfl (by kernel_rfl) (by kernel_rfl) (by kernel_rfl) (fun _ _ _ h => h) (Or.inl ⟨by rfl, ?_⟩) SW ?_
  · intro W _
    go_simp <;> first | done | rfl | (rw [IntKind.wrap_i64]; omega) | (intro hh; exfalso; omega)
  go_simp
  refine wpAnyH_take (i := 8) (v := .int .i64 y.W) rfl (by kernel_rfl) (by kernel_rfl) (by kernel_rfl) (fun _ _ _ h => h) (Or.inl ⟨by rfl, ?_⟩) SW ?_
  · intro W5 hW5
    obtain ⟨q0, q1, q2, r0, r1, r2⟩ := HQ.out W5 hW5
    go_simp <;> first | done | rfl
  go_simp
  refine wpAnyH_take (i := 10) (v := .pointer (some ⟨w.heap.size, 2, none⟩)) rfl (by kernel_rfl) (by kernel_rfl) (by kernel_rfl) (fun _ _ _ h => h) (Or.inl ⟨by rfl, ?_⟩) SW ?_
  · intro W _
    go_simp <;> first | done | rfl | (rw [IntKind.wrap_i64]; omega) | (intro hh; exfalso; omega)
  go_simp
  refine wpAnyH_take (i := 11) (v := .int .i64 x.B) rfl (by kernel_rfl) (by kernel_rfl) (by kernel_rfl) (fun _ _ _ h => h) (Or.inl ⟨by rfl, ?_⟩) SW ?_
  · intro W5 hW5
    obtain ⟨q0, q1, q2, r0, r1, r2⟩ := HQ.out W5 hW5
    go_simp <;> first | done | rfl
  go_simp
  refine wpAnyH_take (i := 12) (v := .pointer (some ⟨w.heap.size + 1, 2, none⟩)) rfl (by kernel_rfl) (by kernel_rfl) (by kernel_rfl) (fun _ _ _ h => h) (Or.inl ⟨by rfl, ?_⟩) SW ?_
  · intro W _
    go_simp <;> first | done | rfl | (rw [IntKind.wrap_i64]; omega) | (intro hh; exfalso; omega)
  go_simp
  refine wpAnyH_take (i := 13) (v := .int .i64 y.B) rfl (by kernel_rfl) (by kernel_rfl) (by kernel_rfl) (fun _ _ _ h => h) (Or.inl ⟨by rfl, ?_⟩) SW ?_
  · intro W5 hW5
    obtain ⟨q0, q1, q2, r0, r1, r2⟩ := HQ.out W5 hW5
    go_simp <;> first | done | rfl
  go_simp
  refine wpAnyH_ready (rs := [4]) (by kernel_rfl) (by simp) ?_
  refine AllReadyH.cons rfl (fun K1 hK1 => ?_) AllReadyH.nil
  go_simp
  refine (HC1.out _ SW).mono ?_
  rintro e w6 ⟨rfl, h6⟩
  subst w6
  refine hK1.out _ _ SW (fun SW => ?_)
  clear hK1 K1
  go_simp
  refine wpAnyH_ready (rs := [9]) (by kernel_rfl) (by simp) ?_
  refine AllReadyH.cons rfl (fun K1 hK1 => ?_) AllReadyH.nil
  go_simp
  refine (HC2.out _).mono ?_
  rintro e w6 ⟨rfl, h6⟩
  subst w6
  refine hK1.out _ _ SW (fun SW => ?_)
  clear hK1 K1
  go_simp
  refine wpAnyH_ready (rs := [14]) (by kernel_rfl) (by simp) ?_
  refine AllReadyH.cons rfl (fun K1 hK1 => ?_) AllReadyH.nil
  go_simp
  refine (HC3.out _).mono ?_
  rintro e w6 ⟨rfl, h6⟩
  subst w6
  refine hK1.out _ _ SW (fun SW => ?_)
  clear hK1 K1
  go_simp
  refine wpAnyH_ready (rs := [15]) (by kernel_rfl) (by simp) ?_
  refine AllReadyH.cons rfl (fun K1 hK1 => ?_) AllReadyH.nil
  go_simp
  refine hK1.out _ _ (SW.alloc SW.size (.cells #[.int .i64 p1, .int .i64 p2, .int .i64 p3] 3)) (fun SW => ?_)
  clear hK1 K1
  go_simp
  refine wpAnyH_ready (rs := [16]) (by kernel_rfl) (by simp) ?_
  refine AllReadyH.cons rfl (fun K1 hK1 => ?_) AllReadyH.nil
  go_simp
  refine (HC4.out).mono ?_
  rintro e w6 ⟨rfl, h6⟩
  subst w6
  refine hK1.out _ _ SW (fun SW => ?_)
  clear hK1 K1
  go_simp
  refine wpAnyH_take (i := 17) (v := .int .i64 R) rfl (by kernel_rfl) (by kernel_rfl) (by kernel_rfl) (fun _ _ _ h => h) (Or.inl ⟨by rfl, ?_⟩) SW ?_
  · intro W _
    go_simp <;> first | done | rfl | (rw [IntKind.wrap_i64]; omega) | (intro hh; exfalso; omega)
  go_simp
  refine wpAnyH_done (by kernel_rfl) ?_ _
  go_wp2_with fail
  go_ret
  refine ⟨rfl, .cells (gmA (some ⟨g, 0, none⟩) 26 c x.W x.B T) 24, .cells (gmA (some ⟨g2, 0, none⟩) 26 c2 y.W y.B T2) 24, .cells #[.int .i64 p1, .int .i64 p2, .int .i64 p3] 3, ?_⟩
  rw [HW1.out]

end Go.Proofs.Ytmboikpcbkiepaa
