/-
  Whether two places are neighbours, as the document asks it. No conditions beyond those that each theorem bears.
-/
import Derived.Test.YtafiaimlmdflnaaHs
namespace Go.Proofs.Ytafiaimlmdflnaa
open Go.RowKit Go.Shelf

theorem kwrap_small {n : Nat} (h : n ≤ 1000) : IntKind.i64.wrap (n : Int) = n := by rw [IntKind.wrap_i64]; omega

theorem wrap_small {n : Nat} (h : n ≤ 1000) : wrap64 (n : Int) = n := by unfold wrap64; omega

set_option maxRecDepth 100000 in
set_option maxHeartbeats 8000000 in
theorem besideR_any (W H : Nat) (a : Option Addr) (N c p q : Nat) (w : World) (hW : 1 ≤ W ∧ W ≤ 10) (hp : p ≤ 100) (hq : q ≤ 100) :
    Calls Try.prog 58 #[.agg (gdA W H a N c), .int .i64 p, .int .i64 q] w fun e w' => e = .returned (.bool (decide (adj W p q))) ∧ Below w.heap.size w w' := by
  obtain ⟨w1, hw1⟩ : ∃ w1, w.alloc (.cells (gdA W H a N c) 24) = w1 := ⟨_, rfl⟩
  have B1 : Below w.heap.size w w1 := by rw [← hw1]; exact (Below.refl _ _).alloc (Nat.le_refl _) _
  obtain ⟨g0, -, -⟩ := (show Gd w1 w.heap.size W H a N c by rw [← hw1]; exact Gd.new w W H a N c).cells
  have HBN : Hid (Below w.heap.size w w1.drew) := hide (B1.drew)
  obtain ⟨q1, q2, q3, q4⟩ := quo_rem (p := p) (n := W)
  obtain ⟨r1, r2, r3, r4⟩ := quo_rem (p := q) (n := W)
  have hwn : ¬ (W : Int) = 0 := by omega
  have HWN : Hid (¬ W = 0) := hide (by omega)
  have x1 : p % W ≤ 100 := Nat.le_trans (Nat.mod_le _ _) hp
  have x2 : q % W ≤ 100 := Nat.le_trans (Nat.mod_le _ _) hq
  have x3 : p / W ≤ 100 := Nat.le_trans (Nat.div_le_self _ _) hp
  have x4 : q / W ≤ 100 := Nat.le_trans (Nat.div_le_self _ _) hq
  have HAD : Hid (adj W p q ↔ p % W = q % W ∧ (p / W = q / W + 1 ∨ q / W = p / W + 1) ∨ p / W = q / W ∧ (p % W = q % W + 1 ∨ q % W = p % W + 1)) := hide Iff.rfl
  generalize p % W = px at *
  generalize p / W = py at *
  generalize q % W = qx at *
  generalize q / W = qy at *
  have hw3 : wrap64 (py : Int) = py := wrap_small (Nat.le_trans x3 (by decide))
  have hw4 : wrap64 (qy : Int) = qy := wrap_small (Nat.le_trans x4 (by decide))
  have HK3 : Hid (IntKind.i64.wrap (py : Int) = py) := hide (kwrap_small (Nat.le_trans x3 (by decide)))
  have HK4 : Hid (IntKind.i64.wrap (qy : Int) = qy) := hide (kwrap_small (Nat.le_trans x4 (by decide)))
  obtain ⟨X, hX⟩ : ∃ X : Int, (px : Int) - (qx : Int) = X := ⟨_, rfl⟩
  obtain ⟨Y, hY⟩ : ∃ Y : Int, (py : Int) - (qy : Int) = Y := ⟨_, rfl⟩
  have hXb : -100 ≤ X ∧ X ≤ 100 := by clear q1 q2 q3 q4 r1 r2 r3 r4 hw3 hw4 HAD hwn g0; omega
  have hYb : -100 ≤ Y ∧ Y ≤ 100 := by clear q1 q2 q3 q4 r1 r2 r3 r4 hw3 hw4 HAD hwn g0; omega
  have HAX : Hid (adj W p q ↔ X = 0 ∧ (Y = 1 ∨ Y = -1) ∨ Y = 0 ∧ (X = 1 ∨ X = -1)) := hide (by
    rw [HAD.out]
    clear q1 q2 q3 q4 r1 r2 r3 r4 hw3 hw4 hXb hYb hp hq hW hwn g0
    constructor
    · rintro (⟨h1, h2 | h2⟩ | ⟨h1, h2 | h2⟩)
      · exact .inl ⟨by omega, .inl (by omega)⟩
      · exact .inl ⟨by omega, .inr (by omega)⟩
      · exact .inr ⟨by omega, .inl (by omega)⟩
      · exact .inr ⟨by omega, .inr (by omega)⟩
    · rintro (⟨h1, h2 | h2⟩ | ⟨h1, h2 | h2⟩)
      · exact .inl ⟨by omega, .inl (by omega)⟩
      · exact .inl ⟨by omega, .inr (by omega)⟩
      · exact .inr ⟨by omega, .inl (by omega)⟩
      · exact .inr ⟨by omega, .inr (by omega)⟩)
  clear B1 HAD
  go_enter Try.func58, Try.ntmps58
  go_upto_region 1 with fail
  clear hw1
  refine wp_calm ?_
  refine wp_region_held (S := fun W4 => W4.cell? ⟨w.heap.size, 0, none⟩ = some (.int .i64 W)) (by kernel_rfl) ?_
  change wpAnyH _ _ _ _ _ _ _ _ (World.drew _)
  have SW : w1.drew.cell? ⟨w.heap.size, 0, none⟩ = some (.int .i64 W) := g0
  refine wpAnyH_take (i := 0) (v := .int .i64 p) rfl (by kernel_rfl) (by kernel_rfl) (by kernel_rfl) (fun _ _ _ h => h) (Or.inl ⟨by rfl, ?_⟩) SW ?_
  · intro W4 hW4
    go_simp <;> first | done | rfl | (rw [if_neg HWN.out, HK3.out]) | (rw [if_neg HWN.out, HK4.out]) | (rw [IntKind.wrap_i64]; omega) | omega
  go_simp
  refine wpAnyH_take (i := 1) (v := .pointer (some ⟨w.heap.size, 0, none⟩)) rfl (by kernel_rfl) (by kernel_rfl) (by kernel_rfl) (fun _ _ _ h => h) (Or.inl ⟨by rfl, ?_⟩) SW ?_
  · intro W4 hW4
    go_simp <;> first | done | rfl | (rw [if_neg HWN.out, HK3.out]) | (rw [if_neg HWN.out, HK4.out]) | (rw [IntKind.wrap_i64]; omega) | omega
  go_simp
  refine wpAnyH_take (i := 2) (v := .int .i64 W) rfl (by kernel_rfl) (by kernel_rfl) (by kernel_rfl) (fun _ _ _ h => h) (Or.inl ⟨by rfl, ?_⟩) SW ?_
  · intro W4 hW4
    have x0 : W4.cell? ⟨w.heap.size, 0, none⟩ = some (.int .i64 W) := hW4
    go_simp <;> first | done | rfl | (rw [if_neg HWN.out, HK3.out]) | (rw [if_neg HWN.out, HK4.out]) | (rw [IntKind.wrap_i64]; omega) | omega
  go_simp
  refine wpAnyH_take (i := 3) (v := .int .i64 px) rfl (by kernel_rfl) (by kernel_rfl) (by kernel_rfl) (fun _ _ _ h => h) (Or.inl ⟨by rfl, ?_⟩) SW ?_
  · intro W4 hW4
    go_simp <;> first | done | rfl | (rw [if_neg HWN.out, HK3.out]) | (rw [if_neg HWN.out, HK4.out]) | (rw [IntKind.wrap_i64]; omega) | omega
  go_simp
  refine wpAnyH_take (i := 4) (v := .int .i64 q) rfl (by kernel_rfl) (by kernel_rfl) (by kernel_rfl) (fun _ _ _ h => h) (Or.inl ⟨by rfl, ?_⟩) SW ?_
  · intro W4 hW4
    go_simp <;> first | done | rfl | (rw [if_neg HWN.out, HK3.out]) | (rw [if_neg HWN.out, HK4.out]) | (rw [IntKind.wrap_i64]; omega) | omega
  go_simp
  refine wpAnyH_take (i := 5) (v := .pointer (some ⟨w.heap.size, 0, none⟩)) rfl (by kernel_rfl) (by kernel_rfl) (by kernel_rfl) (fun _ _ _ h => h) (Or.inl ⟨by rfl, ?_⟩) SW ?_
  · intro W4 hW4
    go_simp <;> first | done | rfl | (rw [if_neg HWN.out, HK3.out]) | (rw [if_neg HWN.out, HK4.out]) | (rw [IntKind.wrap_i64]; omega) | omega
  go_simp
  refine wpAnyH_take (i := 6) (v := .int .i64 W) rfl (by kernel_rfl) (by kernel_rfl) (by kernel_rfl) (fun _ _ _ h => h) (Or.inl ⟨by rfl, ?_⟩) SW ?_
  · intro W4 hW4
    have x0 : W4.cell? ⟨w.heap.size, 0, none⟩ = some (.int .i64 W) := hW4
    go_simp <;> first | done | rfl | (rw [if_neg HWN.out, HK3.out]) | (rw [if_neg HWN.out, HK4.out]) | (rw [IntKind.wrap_i64]; omega) | omega
  go_simp
  refine wpAnyH_take (i := 7) (v := .int .i64 qx) rfl (by kernel_rfl) (by kernel_rfl) (by kernel_rfl) (fun _ _ _ h => h) (Or.inl ⟨by rfl, ?_⟩) SW ?_
  · intro W4 hW4
    go_simp <;> first | done | rfl | (rw [if_neg HWN.out, HK3.out]) | (rw [if_neg HWN.out, HK4.out]) | (rw [IntKind.wrap_i64]; omega) | omega
  go_simp
  refine wpAnyH_take (i := 8) (v := .int .i64 X) rfl (by kernel_rfl) (by kernel_rfl) (by kernel_rfl) (fun _ _ _ h => h) (Or.inl ⟨by rfl, ?_⟩) SW ?_
  · intro W4 hW4
    go_simp <;> first | done | rfl | (rw [if_neg HWN.out, HK3.out]) | (rw [if_neg HWN.out, HK4.out]) | (rw [IntKind.wrap_i64]; omega) | omega
  go_simp
  refine wpAnyH_take (i := 9) (v := .int .i64 p) rfl (by kernel_rfl) (by kernel_rfl) (by kernel_rfl) (fun _ _ _ h => h) (Or.inl ⟨by rfl, ?_⟩) SW ?_
  · intro W4 hW4
    go_simp <;> first | done | rfl | (rw [if_neg HWN.out, HK3.out]) | (rw [if_neg HWN.out, HK4.out]) | (rw [IntKind.wrap_i64]; omega) | omega
  go_simp
  refine wpAnyH_take (i := 10) (v := .pointer (some ⟨w.heap.size, 0, none⟩)) rfl (by kernel_rfl) (by kernel_rfl) (by kernel_rfl) (fun _ _ _ h => h) (Or.inl ⟨by rfl, ?_⟩) SW ?_
  · intro W4 hW4
    go_simp <;> first | done | rfl | (rw [if_neg HWN.out, HK3.out]) | (rw [if_neg HWN.out, HK4.out]) | (rw [IntKind.wrap_i64]; omega) | omega
  go_simp
  refine wpAnyH_take (i := 11) (v := .int .i64 W) rfl (by kernel_rfl) (by kernel_rfl) (by kernel_rfl) (fun _ _ _ h => h) (Or.inl ⟨by rfl, ?_⟩) SW ?_
  · intro W4 hW4
    have x0 : W4.cell? ⟨w.heap.size, 0, none⟩ = some (.int .i64 W) := hW4
    go_simp <;> first | done | rfl | (rw [if_neg HWN.out, HK3.out]) | (rw [if_neg HWN.out, HK4.out]) | (rw [IntKind.wrap_i64]; omega) | omega
  go_simp
  refine wpAnyH_take (i := 12) (v := .int .i64 py) rfl (by kernel_rfl) (by kernel_rfl) (by kernel_rfl) (fun _ _ _ h => h) (Or.inl ⟨by rfl, ?_⟩) SW ?_
  · intro W4 hW4
    go_simp <;> first | done | rfl | (rw [if_neg HWN.out, HK3.out]) | (rw [if_neg HWN.out, HK4.out]) | (rw [IntKind.wrap_i64]; omega) | omega
  go_simp
  refine wpAnyH_take (i := 13) (v := .int .i64 q) rfl (by kernel_rfl) (by kernel_rfl) (by kernel_rfl) (fun _ _ _ h => h) (Or.inl ⟨by rfl, ?_⟩) SW ?_
  · intro W4 hW4
    go_simp <;> first | done | rfl | (rw [if_neg HWN.out, HK3.out]) | (rw [if_neg HWN.out, HK4.out]) | (rw [IntKind.wrap_i64]; omega) | omega
  go_simp
  refine wpAnyH_take (i := 14) (v := .pointer (some ⟨w.heap.size, 0, none⟩)) rfl (by kernel_rfl) (by kernel_rfl) (by kernel_rfl) (fun _ _ _ h => h) (Or.inl ⟨by rfl, ?_⟩) SW ?_
  · intro W4 hW4
    go_simp <;> first | done | rfl | (rw [if_neg HWN.out, HK3.out]) | (rw [if_neg HWN.out, HK4.out]) | (rw [IntKind.wrap_i64]; omega) | omega
  go_simp
  refine wpAnyH_take (i := 15) (v := .int .i64 W) rfl (by kernel_rfl) (by kernel_rfl) (by kernel_rfl) (fun _ _ _ h => h) (Or.inl ⟨by rfl, ?_⟩) SW ?_
  · intro W4 hW4
    have x0 : W4.cell? ⟨w.heap.size, 0, none⟩ = some (.int .i64 W) := hW4
    go_simp <;> first | done | rfl | (rw [if_neg HWN.out, HK3.out]) | (rw [if_neg HWN.out, HK4.out]) | (rw [IntKind.wrap_i64]; omega) | omega
  go_simp
  refine wpAnyH_take (i := 16) (v := .int .i64 qy) rfl (by kernel_rfl) (by kernel_rfl) (by kernel_rfl) (fun _ _ _ h => h) (Or.inl ⟨by rfl, ?_⟩) SW ?_
  · intro W4 hW4
    go_simp <;> first | done | rfl | (rw [if_neg HWN.out, HK3.out]) | (rw [if_neg HWN.out, HK4.out]) | (rw [IntKind.wrap_i64]; omega) | omega
  go_simp
  refine wpAnyH_take (i := 17) (v := .int .i64 Y) rfl (by kernel_rfl) (by kernel_rfl) (by kernel_rfl) (fun _ _ _ h => h) (Or.inl ⟨by rfl, ?_⟩) SW ?_
  · intro W4 hW4
    go_simp <;> first | done | rfl | (rw [if_neg HWN.out, HK3.out]) | (rw [if_neg HWN.out, HK4.out]) | (rw [IntKind.wrap_i64]; omega) | omega
  go_simp
  refine wpAnyH_take (i := 18) (v := .int .i64 X) rfl (by kernel_rfl) (by kernel_rfl) (by kernel_rfl) (fun _ _ _ h => h) (Or.inl ⟨by rfl, ?_⟩) SW ?_
  · intro W4 hW4
    go_simp <;> first | done | rfl | (rw [if_neg HWN.out, HK3.out]) | (rw [if_neg HWN.out, HK4.out]) | (rw [IntKind.wrap_i64]; omega) | omega
  go_simp
  refine wpAnyH_take (i := 19) (v := .int .i64 Y) rfl (by kernel_rfl) (by kernel_rfl) (by kernel_rfl) (fun _ _ _ h => h) (Or.inl ⟨by rfl, ?_⟩) SW ?_
  · intro W4 hW4
    go_simp <;> first | done | rfl | (rw [if_neg HWN.out, HK3.out]) | (rw [if_neg HWN.out, HK4.out]) | (rw [IntKind.wrap_i64]; omega) | omega
  go_simp
  refine wpAnyH_done (by kernel_rfl) ?_ _
  clear g0 q1 q2 q3 q4 r1 r2 r3 r4 hw3 hw4 hX hY SW
  generalize w1.drew = w2 at *
  go_upto_region 2 with fail
  by_cases x0 : X = 0
  · subst x0
    by_cases y1 : Y = 1
    · subst y1
      have HD : Hid (decide (adj W p q) = true) := hide (decide_eq_true (HAX.out.2 (by omega)))
      go_wp2_with fail
      go_ret
      exact ⟨ret_bool HD.out.symm, HBN.out⟩
    · have b1 : (Y == 1) = false := by simpa using y1
      by_cases y2 : Y = -1
      · subst y2
        have HD : Hid (decide (adj W p q) = true) := hide (decide_eq_true (HAX.out.2 (by omega)))
        go_wp2_with fail
        go_ret
        exact ⟨ret_bool HD.out.symm, HBN.out⟩
      · have b2 : (Y == -1) = false := by simpa using y2
        have HD : Hid (decide (adj W p q) = false) := hide (decide_eq_false (fun h => by have := HAX.out.1 h; omega))
        by_cases y3 : Y = 0
        · subst y3
          go_wp2_with fail
          go_ret
          exact ⟨ret_bool HD.out.symm, HBN.out⟩
        · have b3 : (Y == 0) = false := by simpa using y3
          go_wp2_with fail
          go_ret
          exact ⟨ret_bool HD.out.symm, HBN.out⟩
  · have b0 : (X == 0) = false := by simpa using x0
    by_cases y3 : Y = 0
    · subst y3
      by_cases x1 : X = 1
      · subst x1
        have HD : Hid (decide (adj W p q) = true) := hide (decide_eq_true (HAX.out.2 (by omega)))
        go_wp2_with fail
        go_ret
        exact ⟨ret_bool HD.out.symm, HBN.out⟩
      · have b1 : (X == 1) = false := by simpa using x1
        by_cases x2 : X = -1
        · subst x2
          have HD : Hid (decide (adj W p q) = true) := hide (decide_eq_true (HAX.out.2 (by omega)))
          go_wp2_with fail
          go_ret
          exact ⟨ret_bool HD.out.symm, HBN.out⟩
        · have b2 : (X == -1) = false := by simpa using x2
          have HD : Hid (decide (adj W p q) = false) := hide (decide_eq_false (fun h => by have := HAX.out.1 h; omega))
          go_wp2_with fail
          go_ret
          exact ⟨ret_bool HD.out.symm, HBN.out⟩
    · have b3 : (Y == 0) = false := by simpa using y3
      have HD : Hid (decide (adj W p q) = false) := hide (decide_eq_false (fun h => by have := HAX.out.1 h; omega))
      go_wp2_with fail
      go_ret
      exact ⟨ret_bool HD.out.symm, HBN.out⟩

end Go.Proofs.Ytafiaimlmdflnaa
