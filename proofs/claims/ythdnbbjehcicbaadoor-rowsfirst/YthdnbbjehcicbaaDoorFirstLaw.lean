/-
  Who begins on an empty board never has the worse of it, as rows.Solve tells. No conditions beyond those that each theorem bears.
-/
import Derived.Test.YthdnbbjehcicbaaDoorFh
import Derived.Test.YthdnbbjehcicbaaDoorFTab
import Derived.Test.YthdnbbjehcicbaaDoorSolve
namespace Go.Proofs.YthdnbbjehcicbaaDoor
open Go.RowKit

theorem okF_use {a b k : Nat} (h : okF a b k = true) : mvO (zer (a * b)) = 1 ∧ (emp (zer (a * b)) (a * b)).length ≤ 9 ∧ wn (sg (zer (a * b)) (prt a b (zer (a * b)) k (a * b))) = 0
    ∧ 0 ≤ (bsj a b k (val a b k (emp (zer (a * b)) (a * b)) ((emp (zer (a * b)) (a * b)).length - 1)) (emp (zer (a * b)) (a * b)) (zer (a * b)) 1 (emp (zer (a * b)) (a * b)).length).1
    ∧ 1 ≤ (bsj a b k (val a b k (emp (zer (a * b)) (a * b)) ((emp (zer (a * b)) (a * b)).length - 1)) (emp (zer (a * b)) (a * b)) (zer (a * b)) 1 (emp (zer (a * b)) (a * b)).length).2.length := by
  simp only [okF, Bool.and_eq_true, beq_iff_eq, decide_eq_true_eq, and_assoc] at h
  exact h

theorem zer_may (A B : Nat) (hA : 1 ≤ A ∧ A ≤ 3) (hB : 1 ≤ B ∧ B ≤ 3) : mayP A B (zer (A * B)) := by
  refine ⟨by omega, by omega, by omega, by omega, ?_, ?_⟩
  · rw [zer_len]; simp
  · intro z hz
    have := List.eq_of_mem_replicate (show z ∈ List.replicate (A * B) 0 from hz)
    omega

attribute [local irreducible] inR val nE mvr ky Mp mvv bsj cnt emp mvO prt sg wn zer

set_option maxHeartbeats 1000000 in
theorem Solve_zero (A B k : Nat) (hA : 1 ≤ A ∧ A ≤ 3) (hB : 1 ≤ B ∧ B ≤ 3) (hAB : A * B ≤ 6) (hk : 1 ≤ k ∧ k ≤ 4) (a : Option Addr) (n c : Nat) (hn : A * B = n) (w : World) (hT : Tab w) (h : Rd w a n c (zer n)) :
    Calls Tryd.prog 12 #[.agg (gdA A B a n c), .int .i64 k] w fun e w' => ∃ (v : Int) (a' : Option Addr) (m c' : Nat), e = .returned (.tuple #[.int .i64 v, .slice a' m c', .int .i64 0]) ∧ 0 ≤ v ∧ 1 ≤ m ∧ Below w.heap.size w w' := by
  subst hn
  have hs : (A, B) ∈ sizes := by
    rcases (show A = 1 ∨ A = 2 ∨ A = 3 by omega) with rfl | rfl | rfl <;> rcases (show B = 1 ∨ B = 2 ∨ B = 3 by omega) with rfl | rfl | rfl <;> first | (exfalso; omega) | decide
  obtain ⟨h1, h2, h3, h4, h5⟩ := okF_use (okF_all hs hk)
  refine (Solve_game A B a (A * B) c (zer (A * B)) k (zer_may A B hA hB) (by omega) w hT h (by omega) h2 h3).mono ?_
  rintro e w' ⟨a', c', rfl, hR, hb⟩
  rw [h1]
  exact ⟨_, a', _, c', rfl, h4, h5, hb⟩

set_option maxRecDepth 100000 in
set_option maxHeartbeats 2000000 in
theorem first_any (x y z : Int) (w : World) (hT : Tab w) (hx : -9223372036854775808 ≤ x ∧ x ≤ 9223372036854775807) (hy : -9223372036854775808 ≤ y ∧ y ≤ 9223372036854775807) (hz : -9223372036854775808 ≤ z ∧ z ≤ 9223372036854775807) :
    Calls Tryd.prog 6 #[.int .i64 x, .int .i64 y, .int .i64 z] w fun e w' => e = .returned (.bool true) ∧ Below w.heap.size w w' := by
  have H1 := hide (picked_any x 3 w hx.1 hx.2 (by omega) (by omega))
  have H2 := hide (picked_any y 3 w hy.1 hy.2 (by omega) (by omega))
  have H3 := hide (fun w1 => picked_any z 4 w1 hz.1 hz.2 (by omega) (by omega))
  have l1 := pk_lt x 3 (by omega)
  have l2 := pk_lt y 3 (by omega)
  have l3 := pk_lt z 4 (by omega)
  generalize pk x 3 = p1 at *
  generalize pk y 3 = p2 at *
  generalize pk z 4 = p3 at *
  clear hx hy hz
  have hk : 1 ≤ 1 + p3 ∧ 1 + p3 ≤ 4 := by omega
  have e3 : (1 : Int) + (p3 : Int) = ((1 + p3 : Nat) : Int) := by omega
  have fin : ∀ (A B : Nat), 1 ≤ A ∧ A ≤ 3 → 1 ≤ B ∧ B ≤ 3 → A * B ≤ 6 → True := fun _ _ _ _ _ => trivial
  clear fin
  generalize hK : 1 + p3 = k at *
  clear hK
  have HT := hide hT
  clear hT
  rcases (show p1 = 0 ∨ p1 = 1 ∨ p1 = 2 by omega) with rfl | rfl | rfl <;> rcases (show p2 = 0 ∨ p2 = 1 ∨ p2 = 2 by omega) with rfl | rfl | rfl
  · have HG := hide (grid_zero 1 1 (by omega) (by omega) w)
    have HS := hide (fun a c w1 (hT1 : Tab w1) h => Solve_zero 1 1 k (by omega) (by omega) (by omega) hk a 1 c rfl w1 hT1 h)
    go_enter Tryd.func6, Tryd.ntmps6
    go_wp2_with fail
    refine H1.out.mono ?_
    rintro e w1 ⟨rfl, h1⟩
    subst w1
    go_wp2_with fail
    refine H2.out.mono ?_
    rintro e w1 ⟨rfl, h1⟩
    subst w1
    go_wp2_with fail
    refine HG.out.mono ?_
    rintro e w2 ⟨a2, c2, rfl, hR2, hb2⟩
    have HSo := hide (HS.out a2 c2 w2 (HT.out.mono hb2) hR2)
    have HB2 := hide hb2
    clear hR2 hb2 HG HS H1 H2 HT
    go_wp2_with fail
    refine (H3.out w2).mono ?_
    rintro e w3 ⟨rfl, h3⟩
    subst w3
    clear H3
    go_wp2_with fail
    refine HSo.out.mono ?_
    rintro e w3 ⟨v, a3, m3, c3, rfl, hv, hm, hb3⟩
    have HB3 := hide (HB2.out.trans (hb3.mono HB2.out.size))
    clear hb3 HB2 HSo
    have hm' : (1 : Int) ≤ (m3 : Int) := by omega
    go_wp2_with fail
    go_ret
    exact ⟨rfl, HB3.out⟩
  · have HG := hide (grid_zero 1 2 (by omega) (by omega) w)
    have HS := hide (fun a c w1 (hT1 : Tab w1) h => Solve_zero 1 2 k (by omega) (by omega) (by omega) hk a 2 c rfl w1 hT1 h)
    go_enter Tryd.func6, Tryd.ntmps6
    go_wp2_with fail
    refine H1.out.mono ?_
    rintro e w1 ⟨rfl, h1⟩
    subst w1
    go_wp2_with fail
    refine H2.out.mono ?_
    rintro e w1 ⟨rfl, h1⟩
    subst w1
    go_wp2_with fail
    refine HG.out.mono ?_
    rintro e w2 ⟨a2, c2, rfl, hR2, hb2⟩
    have HSo := hide (HS.out a2 c2 w2 (HT.out.mono hb2) hR2)
    have HB2 := hide hb2
    clear hR2 hb2 HG HS H1 H2 HT
    go_wp2_with fail
    refine (H3.out w2).mono ?_
    rintro e w3 ⟨rfl, h3⟩
    subst w3
    clear H3
    go_wp2_with fail
    refine HSo.out.mono ?_
    rintro e w3 ⟨v, a3, m3, c3, rfl, hv, hm, hb3⟩
    have HB3 := hide (HB2.out.trans (hb3.mono HB2.out.size))
    clear hb3 HB2 HSo
    have hm' : (1 : Int) ≤ (m3 : Int) := by omega
    go_wp2_with fail
    go_ret
    exact ⟨rfl, HB3.out⟩
  · have HG := hide (grid_zero 1 3 (by omega) (by omega) w)
    have HS := hide (fun a c w1 (hT1 : Tab w1) h => Solve_zero 1 3 k (by omega) (by omega) (by omega) hk a 3 c rfl w1 hT1 h)
    go_enter Tryd.func6, Tryd.ntmps6
    go_wp2_with fail
    refine H1.out.mono ?_
    rintro e w1 ⟨rfl, h1⟩
    subst w1
    go_wp2_with fail
    refine H2.out.mono ?_
    rintro e w1 ⟨rfl, h1⟩
    subst w1
    go_wp2_with fail
    refine HG.out.mono ?_
    rintro e w2 ⟨a2, c2, rfl, hR2, hb2⟩
    have HSo := hide (HS.out a2 c2 w2 (HT.out.mono hb2) hR2)
    have HB2 := hide hb2
    clear hR2 hb2 HG HS H1 H2 HT
    go_wp2_with fail
    refine (H3.out w2).mono ?_
    rintro e w3 ⟨rfl, h3⟩
    subst w3
    clear H3
    go_wp2_with fail
    refine HSo.out.mono ?_
    rintro e w3 ⟨v, a3, m3, c3, rfl, hv, hm, hb3⟩
    have HB3 := hide (HB2.out.trans (hb3.mono HB2.out.size))
    clear hb3 HB2 HSo
    have hm' : (1 : Int) ≤ (m3 : Int) := by omega
    go_wp2_with fail
    go_ret
    exact ⟨rfl, HB3.out⟩
  · have HG := hide (grid_zero 2 1 (by omega) (by omega) w)
    have HS := hide (fun a c w1 (hT1 : Tab w1) h => Solve_zero 2 1 k (by omega) (by omega) (by omega) hk a 2 c rfl w1 hT1 h)
    go_enter Tryd.func6, Tryd.ntmps6
    go_wp2_with fail
    refine H1.out.mono ?_
    rintro e w1 ⟨rfl, h1⟩
    subst w1
    go_wp2_with fail
    refine H2.out.mono ?_
    rintro e w1 ⟨rfl, h1⟩
    subst w1
    go_wp2_with fail
    refine HG.out.mono ?_
    rintro e w2 ⟨a2, c2, rfl, hR2, hb2⟩
    have HSo := hide (HS.out a2 c2 w2 (HT.out.mono hb2) hR2)
    have HB2 := hide hb2
    clear hR2 hb2 HG HS H1 H2 HT
    go_wp2_with fail
    refine (H3.out w2).mono ?_
    rintro e w3 ⟨rfl, h3⟩
    subst w3
    clear H3
    go_wp2_with fail
    refine HSo.out.mono ?_
    rintro e w3 ⟨v, a3, m3, c3, rfl, hv, hm, hb3⟩
    have HB3 := hide (HB2.out.trans (hb3.mono HB2.out.size))
    clear hb3 HB2 HSo
    have hm' : (1 : Int) ≤ (m3 : Int) := by omega
    go_wp2_with fail
    go_ret
    exact ⟨rfl, HB3.out⟩
  · have HG := hide (grid_zero 2 2 (by omega) (by omega) w)
    have HS := hide (fun a c w1 (hT1 : Tab w1) h => Solve_zero 2 2 k (by omega) (by omega) (by omega) hk a 4 c rfl w1 hT1 h)
    go_enter Tryd.func6, Tryd.ntmps6
    go_wp2_with fail
    refine H1.out.mono ?_
    rintro e w1 ⟨rfl, h1⟩
    subst w1
    go_wp2_with fail
    refine H2.out.mono ?_
    rintro e w1 ⟨rfl, h1⟩
    subst w1
    go_wp2_with fail
    refine HG.out.mono ?_
    rintro e w2 ⟨a2, c2, rfl, hR2, hb2⟩
    have HSo := hide (HS.out a2 c2 w2 (HT.out.mono hb2) hR2)
    have HB2 := hide hb2
    clear hR2 hb2 HG HS H1 H2 HT
    go_wp2_with fail
    refine (H3.out w2).mono ?_
    rintro e w3 ⟨rfl, h3⟩
    subst w3
    clear H3
    go_wp2_with fail
    refine HSo.out.mono ?_
    rintro e w3 ⟨v, a3, m3, c3, rfl, hv, hm, hb3⟩
    have HB3 := hide (HB2.out.trans (hb3.mono HB2.out.size))
    clear hb3 HB2 HSo
    have hm' : (1 : Int) ≤ (m3 : Int) := by omega
    go_wp2_with fail
    go_ret
    exact ⟨rfl, HB3.out⟩
  · have HG := hide (grid_zero 2 3 (by omega) (by omega) w)
    have HS := hide (fun a c w1 (hT1 : Tab w1) h => Solve_zero 2 3 k (by omega) (by omega) (by omega) hk a 6 c rfl w1 hT1 h)
    go_enter Tryd.func6, Tryd.ntmps6
    go_wp2_with fail
    refine H1.out.mono ?_
    rintro e w1 ⟨rfl, h1⟩
    subst w1
    go_wp2_with fail
    refine H2.out.mono ?_
    rintro e w1 ⟨rfl, h1⟩
    subst w1
    go_wp2_with fail
    refine HG.out.mono ?_
    rintro e w2 ⟨a2, c2, rfl, hR2, hb2⟩
    have HSo := hide (HS.out a2 c2 w2 (HT.out.mono hb2) hR2)
    have HB2 := hide hb2
    clear hR2 hb2 HG HS H1 H2 HT
    go_wp2_with fail
    refine (H3.out w2).mono ?_
    rintro e w3 ⟨rfl, h3⟩
    subst w3
    clear H3
    go_wp2_with fail
    refine HSo.out.mono ?_
    rintro e w3 ⟨v, a3, m3, c3, rfl, hv, hm, hb3⟩
    have HB3 := hide (HB2.out.trans (hb3.mono HB2.out.size))
    clear hb3 HB2 HSo
    have hm' : (1 : Int) ≤ (m3 : Int) := by omega
    go_wp2_with fail
    go_ret
    exact ⟨rfl, HB3.out⟩
  · have HG := hide (grid_zero 3 1 (by omega) (by omega) w)
    have HS := hide (fun a c w1 (hT1 : Tab w1) h => Solve_zero 3 1 k (by omega) (by omega) (by omega) hk a 3 c rfl w1 hT1 h)
    go_enter Tryd.func6, Tryd.ntmps6
    go_wp2_with fail
    refine H1.out.mono ?_
    rintro e w1 ⟨rfl, h1⟩
    subst w1
    go_wp2_with fail
    refine H2.out.mono ?_
    rintro e w1 ⟨rfl, h1⟩
    subst w1
    go_wp2_with fail
    refine HG.out.mono ?_
    rintro e w2 ⟨a2, c2, rfl, hR2, hb2⟩
    have HSo := hide (HS.out a2 c2 w2 (HT.out.mono hb2) hR2)
    have HB2 := hide hb2
    clear hR2 hb2 HG HS H1 H2 HT
    go_wp2_with fail
    refine (H3.out w2).mono ?_
    rintro e w3 ⟨rfl, h3⟩
    subst w3
    clear H3
    go_wp2_with fail
    refine HSo.out.mono ?_
    rintro e w3 ⟨v, a3, m3, c3, rfl, hv, hm, hb3⟩
    have HB3 := hide (HB2.out.trans (hb3.mono HB2.out.size))
    clear hb3 HB2 HSo
    have hm' : (1 : Int) ≤ (m3 : Int) := by omega
    go_wp2_with fail
    go_ret
    exact ⟨rfl, HB3.out⟩
  · have HG := hide (grid_zero 3 2 (by omega) (by omega) w)
    have HS := hide (fun a c w1 (hT1 : Tab w1) h => Solve_zero 3 2 k (by omega) (by omega) (by omega) hk a 6 c rfl w1 hT1 h)
    go_enter Tryd.func6, Tryd.ntmps6
    go_wp2_with fail
    refine H1.out.mono ?_
    rintro e w1 ⟨rfl, h1⟩
    subst w1
    go_wp2_with fail
    refine H2.out.mono ?_
    rintro e w1 ⟨rfl, h1⟩
    subst w1
    go_wp2_with fail
    refine HG.out.mono ?_
    rintro e w2 ⟨a2, c2, rfl, hR2, hb2⟩
    have HSo := hide (HS.out a2 c2 w2 (HT.out.mono hb2) hR2)
    have HB2 := hide hb2
    clear hR2 hb2 HG HS H1 H2 HT
    go_wp2_with fail
    refine (H3.out w2).mono ?_
    rintro e w3 ⟨rfl, h3⟩
    subst w3
    clear H3
    go_wp2_with fail
    refine HSo.out.mono ?_
    rintro e w3 ⟨v, a3, m3, c3, rfl, hv, hm, hb3⟩
    have HB3 := hide (HB2.out.trans (hb3.mono HB2.out.size))
    clear hb3 HB2 HSo
    have hm' : (1 : Int) ≤ (m3 : Int) := by omega
    go_wp2_with fail
    go_ret
    exact ⟨rfl, HB3.out⟩
  · have HG := hide (grid_zero 3 2 (by omega) (by omega) w)
    have HS := hide (fun a c w1 (hT1 : Tab w1) h => Solve_zero 3 2 k (by omega) (by omega) (by omega) hk a 6 c rfl w1 hT1 h)
    go_enter Tryd.func6, Tryd.ntmps6
    go_wp2_with fail
    refine H1.out.mono ?_
    rintro e w1 ⟨rfl, h1⟩
    subst w1
    go_wp2_with fail
    refine H2.out.mono ?_
    rintro e w1 ⟨rfl, h1⟩
    subst w1
    go_wp2_with fail
    refine HG.out.mono ?_
    rintro e w2 ⟨a2, c2, rfl, hR2, hb2⟩
    have HSo := hide (HS.out a2 c2 w2 (HT.out.mono hb2) hR2)
    have HB2 := hide hb2
    clear hR2 hb2 HG HS H1 H2 HT
    go_wp2_with fail
    refine (H3.out w2).mono ?_
    rintro e w3 ⟨rfl, h3⟩
    subst w3
    clear H3
    go_wp2_with fail
    refine HSo.out.mono ?_
    rintro e w3 ⟨v, a3, m3, c3, rfl, hv, hm, hb3⟩
    have HB3 := hide (HB2.out.trans (hb3.mono HB2.out.size))
    clear hb3 HB2 HSo
    have hm' : (1 : Int) ≤ (m3 : Int) := by omega
    go_wp2_with fail
    go_ret
    exact ⟨rfl, HB3.out⟩

end Go.Proofs.YthdnbbjehcicbaaDoor
