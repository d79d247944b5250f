/-
  What poker.classByTimes, poker.topOfStraight, poker.isFlush and poker.classByLine answer. No conditions beyond those that each theorem bears.
-/
import Derived.Test.YtdhacmcdbpojlaaFives
import Derived.BigRegion
import Derived.Deep.RegionWith
namespace Go.Proofs.Ytdhacmcdbpojlaa
open Go.RowKit Go.Shelf

theorem und51 : Try.prog.underlying 48 = some (.array 5 3) := by kernel_rfl
theorem run_idx0 (v0 v1 v2 v3 v4 : Int) (w : World) : (Instr.index 48 (.agg #[.int .i64 v0, .int .i64 v1, .int .i64 v2, .int .i64 v3, .int .i64 v4]) (.int .i64 0)).run Try.prog w = .ok (.int .i64 v0) w := by
  simp [Instr.index, run_underlying und51, asIntOf, part, go_sem]
theorem run_idx1 (v0 v1 v2 v3 v4 : Int) (w : World) : (Instr.index 48 (.agg #[.int .i64 v0, .int .i64 v1, .int .i64 v2, .int .i64 v3, .int .i64 v4]) (.int .i64 1)).run Try.prog w = .ok (.int .i64 v1) w := by
  simp [Instr.index, run_underlying und51, asIntOf, part, go_sem]
theorem run_idx2 (v0 v1 v2 v3 v4 : Int) (w : World) : (Instr.index 48 (.agg #[.int .i64 v0, .int .i64 v1, .int .i64 v2, .int .i64 v3, .int .i64 v4]) (.int .i64 2)).run Try.prog w = .ok (.int .i64 v2) w := by
  simp [Instr.index, run_underlying und51, asIntOf, part, go_sem]
theorem run_idx3 (v0 v1 v2 v3 v4 : Int) (w : World) : (Instr.index 48 (.agg #[.int .i64 v0, .int .i64 v1, .int .i64 v2, .int .i64 v3, .int .i64 v4]) (.int .i64 3)).run Try.prog w = .ok (.int .i64 v3) w := by
  simp [Instr.index, run_underlying und51, asIntOf, part, go_sem]
theorem run_idx4 (v0 v1 v2 v3 v4 : Int) (w : World) : (Instr.index 48 (.agg #[.int .i64 v0, .int .i64 v1, .int .i64 v2, .int .i64 v3, .int .i64 v4]) (.int .i64 4)).run Try.prog w = .ok (.int .i64 v4) w := by
  simp [Instr.index, run_underlying und51, asIntOf, part, go_sem]

attribute [local go_sem] run_idx0 run_idx1 run_idx2 run_idx3 run_idx4

def byTimes (n most : Nat) : Nat :=
  if most = 4 then 7 else if most = 3 ∧ n = 2 then 6 else if most = 3 then 3 else if most = 2 ∧ n = 3 then 2 else if most = 2 then 1 else 0

set_option maxHeartbeats 400000 in
theorem byTimes_any (n most : Nat) (w : World) :
    Calls Try.prog 41 #[.int .i64 n, .int .i64 most] w fun e w' => e = .returned (.int .i64 (byTimes n most)) ∧ w' = w := by
  by_cases h4 : most = 4
  · subst h4
    go_enter Try.func41, Try.ntmps41
    go_wp2
    go_ret
    exact ⟨rfl, rfl⟩
  · by_cases h3 : most = 3
    · subst h3
      by_cases h2 : n = 2
      · subst h2
        go_enter Try.func41, Try.ntmps41
        go_wp2
        go_ret
        exact ⟨rfl, rfl⟩
      · have hb : ((n : Int) == 2) = false := by simp; omega
        go_enter Try.func41, Try.ntmps41
        go_wp2
        go_ret
        exact ⟨by simp [byTimes, h2], rfl⟩
    · by_cases h2 : most = 2
      · subst h2
        by_cases hn : n = 3
        · subst hn
          go_enter Try.func41, Try.ntmps41
          go_wp2
          go_ret
          exact ⟨rfl, rfl⟩
        · have hb : ((n : Int) == 3) = false := by simp; omega
          go_enter Try.func41, Try.ntmps41
          go_wp2
          go_ret
          exact ⟨by simp [byTimes, hn], rfl⟩
      · have hb1 : ((most : Int) == 4) = false := by simp; omega
        have hb2 : ((most : Int) == 3) = false := by simp; omega
        have hb3 : ((most : Int) == 2) = false := by simp; omega
        go_enter Try.func41, Try.ntmps41
        go_wp2
        go_ret
        exact ⟨by simp [byTimes, h4, h3, h2], rfl⟩

/-- Five numbers as an array's value. -/
def arrN (a b c d e : Nat) : Value := .agg #[.int .i64 a, .int .i64 b, .int .i64 c, .int .i64 d, .int .i64 e]

def topS (a b e : Nat) : Nat := if a = e + 4 then a else if a = 12 ∧ b = 3 then 3 else 0

set_option maxHeartbeats 400000 in
theorem top_any (a b c d e : Nat) (ha : a < 1000) (hb : b < 1000) (he : e < 1000) (w : World) :
    Calls Try.prog 43 #[arrN a b c d e] w fun r w' => r = .returned (.int .i64 (topS a b e)) ∧ w' = w.alloc (Obj.cells #[.int .i64 a, .int .i64 b, .int .i64 c, .int .i64 d, .int .i64 e] 48) := by
  unfold arrN
  by_cases h1 : a = e + 4
  · have hq : (a : Int) - (e : Int) = 4 := by omega
    have H1 := hide h1
    clear h1
    go_enter Try.func43, Try.ntmps43
    go_wp2
    go_ret
    exact ⟨by rw [topS, if_pos H1.out]; rfl, rfl⟩
  · have hq : ¬ (a : Int) - (e : Int) = 4 := by omega
    have H1 := hide h1
    clear h1
    by_cases h2 : a = 12
    · subst h2
      by_cases h3 : b = 3
      · subst h3
        go_enter Try.func43, Try.ntmps43
        go_wp2
        go_ret
        exact ⟨by rw [topS, if_neg H1.out]; rfl, rfl⟩
      · have hq2 : ((b : Int) == 3) = false := by simp; omega
        go_enter Try.func43, Try.ntmps43
        go_wp2
        go_ret
        exact ⟨by rw [topS, if_neg H1.out, if_neg (by omega)]; rfl, rfl⟩
    · have hq2 : ((a : Int) == 12) = false := by simp; omega
      go_enter Try.func43, Try.ntmps43
      go_wp2
      go_ret
      exact ⟨by rw [topS, if_neg H1.out, if_neg (by omega)]; rfl, rfl⟩

def flN (a b c d e : Nat) : Bool := decide (b % 4 = a % 4 ∧ c % 4 = a % 4 ∧ d % 4 = a % 4 ∧ e % 4 = a % 4)

theorem tmod4 (a : Nat) : Int.tmod (a : Int) 4 = ((a % 4 : Nat) : Int) := by
  rw [Int.tmod_eq_emod_of_nonneg (by omega)]; omega

set_option maxRecDepth 100000 in
set_option maxHeartbeats 1600000 in
theorem flush_any (a b c d e : Nat) (ha : a < 52) (hb : b < 52) (hc : c < 52) (hd : d < 52) (he : e < 52) (w : World) :
    Calls Try.prog 50 #[arrN a b c d e] w fun r w' => r = .returned (.bool (flN a b c d e)) ∧ w' = w.alloc (Obj.cells #[.int .i64 a, .int .i64 b, .int .i64 c, .int .i64 d, .int .i64 e] 48) := by
  unfold arrN
  go_enter Try.func50, Try.ntmps50
  go_wp2
  refine wp_loop_rounds 6 ?_
  rw [rounds_succ]
  go_wp2
  rw [rounds_succ]
  by_cases hb' : b % 4 = a % 4
  · have qb : (b : Int) % 4 = (a : Int) % 4 := by omega
    have Hb := hide hb'
    clear hb'
    go_wp2
    rw [rounds_succ]
    by_cases hc' : c % 4 = a % 4
    · have qc : (c : Int) % 4 = (a : Int) % 4 := by omega
      have Hc := hide hc'
      clear hc'
      go_wp2
      rw [rounds_succ]
      by_cases hd' : d % 4 = a % 4
      · have qd : (d : Int) % 4 = (a : Int) % 4 := by omega
        have Hd := hide hd'
        clear hd'
        go_wp2
        rw [rounds_succ]
        by_cases he' : e % 4 = a % 4
        · have qe : (e : Int) % 4 = (a : Int) % 4 := by omega
          have He := hide he'
          clear he'
          go_wp2
          rw [rounds_succ]
          go_wp2
          go_ret
          exact ⟨ret_bool (by symm; rw [flN, decide_eq_true_iff]; exact ⟨Hb.out, Hc.out, Hd.out, He.out⟩), rfl⟩
        · have qe : ¬ (e : Int) % 4 = (a : Int) % 4 := by omega
          go_wp2
          go_ret
          exact ⟨ret_bool (by symm; rw [flN, decide_eq_false_iff_not]; rintro ⟨h1, h2, h3, h4⟩; omega), rfl⟩
      · have qd : ¬ (d : Int) % 4 = (a : Int) % 4 := by omega
        go_wp2
        go_ret
        exact ⟨ret_bool (by symm; rw [flN, decide_eq_false_iff_not]; rintro ⟨h1, h2, h3, h4⟩; omega), rfl⟩
    · have qc : ¬ (c : Int) % 4 = (a : Int) % 4 := by omega
      go_wp2
      go_ret
      exact ⟨ret_bool (by symm; rw [flN, decide_eq_false_iff_not]; rintro ⟨h1, h2, h3, h4⟩; omega), rfl⟩
  · have qb : ¬ (b : Int) % 4 = (a : Int) % 4 := by omega
    go_wp2
    go_ret
    exact ⟨ret_bool (by symm; rw [flN, decide_eq_false_iff_not]; rintro ⟨h1, h2, h3, h4⟩; omega), rfl⟩

def byLine (fl : Bool) (top : Nat) : Nat := if 0 < top ∧ fl = true then 8 else if fl = true then 5 else if 0 < top then 4 else 0

end Go.Proofs.Ytdhacmcdbpojlaa
