/-
  Pieces in turned order. No conditions beyond those that each theorem bears.
-/
import Derived.Test.YtjcglpnpdalcjaaHz
import Derived.BigRegion
namespace Go.Proofs.Ytjcglpnpdalcjaa
open Go.RowKit
attribute [local go_sem] build35 run_eq35 guard35

/-- The first k and the last k have changed places. -/
def revK (ps : List Pc) (k : Nat) : List Pc := (List.range ps.length).map fun t => if t < k ∨ ps.length - k ≤ t then ps.getD (ps.length - 1 - t) (0, 0) else ps.getD t (0, 0)

theorem revK_length (ps : List Pc) (k : Nat) : (revK ps k).length = ps.length := by simp [revK]
theorem revK_get (ps : List Pc) (k t : Nat) (ht : t < ps.length) : (revK ps k).getD t (0, 0) = if t < k ∨ ps.length - k ≤ t then ps.getD (ps.length - 1 - t) (0, 0) else ps.getD t (0, 0) := by
  simp [revK, List.getD, ht]

theorem flat_set (ps : List Pc) (i : Nat) (a b : Int) (h : i < ps.length) : flat (ps.set i (a, b)) = ((flat ps).set (i * 2) (.int .i64 a)).set (i * 2 + 1) (.int .i64 b) := by
  induction ps generalizing i with
  | nil => simp at h
  | cons p ps ih =>
    cases i with
    | zero => rfl
    | succ i =>
      rw [List.set_cons_succ, flat_cons, flat_cons, ih i (by simpa using h), show (i + 1) * 2 = i * 2 + 1 + 1 by omega, show i * 2 + 1 + 1 + 1 = (i * 2 + 1) + 1 + 1 by omega]
      simp

theorem own_set {w : World} {base g n cap : Nat} {ps : List Pc} (h : w.ownsRow base 35 2 (.slice (some ⟨g, 0, none⟩) n cap) n (flat ps)) {i : Nat} (hi : i < n) (a b : Int) :
    ((w.setCell ⟨g, i * 2, none⟩ (.int .i64 a)).setCell ⟨g, i * 2 + 1, none⟩ (.int .i64 b)).ownsRow base 35 2 (.slice (some ⟨g, 0, none⟩) n cap) n (flat (ps.set i (a, b))) := by
  have hl := h.1
  rw [flat_length] at hl
  refine ⟨by rw [flat_length, List.length_set]; omega, ?_⟩
  rcases h.2 with ⟨hv, _⟩ | ⟨g', cap', cur, hv, hb, hg, h1, h2, h3, h4⟩
  · simp at hv
  · simp only [Value.slice.injEq, Option.some.injEq, Addr.mk.injEq, and_true, true_and] at hv
    obtain ⟨rfl, rfl⟩ := hv
    refine .inr ⟨g, cap, (cur.setIfInBounds (i * 2) (.int .i64 a)).setIfInBounds (i * 2 + 1) (.int .i64 b), rfl, hb, ?_, h1, h2, by simp [h3], ?_⟩
    · simp [World.setCell, Array.getElem?_modify, hg]
    · rw [flat_set ps i a b (by omega), ← h4]
      simp [Array.toList_setIfInBounds, List.take_set]

theorem own_get {w : World} {base g n cap : Nat} {ps : List Pc} (h : w.ownsRow base 35 2 (.slice (some ⟨g, 0, none⟩) n cap) n (flat ps)) {i : Nat} (hi : i < n) :
    w.cell? ⟨g, i * 2, none⟩ = some (.int .i64 (ps.getD i (0, 0)).1) ∧ w.cell? ⟨g, i * 2 + 1, none⟩ = some (.int .i64 (ps.getD i (0, 0)).2) ∧ w.frozen? ⟨g, i * 2, none⟩ = false ∧ w.frozen? ⟨g, i * 2 + 1, none⟩ = false := by
  have hl := h.1
  rw [flat_length] at hl
  refine ⟨?_, ?_, ?_, ?_⟩
  · rw [h.cellAt (i * 2) (by omega), flat_get0 ps i (by omega)]
  · rw [h.cellAt (i * 2 + 1) (by omega), flat_get1 ps i (by omega)]
  all_goals
    rcases h.2 with ⟨hv, _⟩ | ⟨g', cap', cur, hv, hb, hg, _⟩
    · simp at hv
    · simp only [Value.slice.injEq, Option.some.injEq, Addr.mk.injEq, and_true, true_and] at hv
      obtain ⟨rfl, rfl⟩ := hv
      simp [World.frozen?, hg]

theorem revK_step (ps : List Pc) (k : Nat) (hk : k + k + 1 < ps.length) :
    ((revK ps k).set k ((revK ps k).getD (ps.length - 1 - k) (0, 0))).set (ps.length - 1 - k) ((revK ps k).getD k (0, 0)) = revK ps (k + 1) := by
  apply List.ext_getElem (by simp [revK_length])
  intro t h1 h2
  have ht : t < ps.length := by simpa [revK_length] using h2
  have e2 : (revK ps (k + 1))[t] = (revK ps (k + 1)).getD t (0, 0) := by simp [List.getD, h2]
  have e1 : ∀ (h : t < (revK ps k).length), (revK ps k)[t] = (revK ps k).getD t (0, 0) := fun h => by simp [List.getD, h]
  rw [e2, revK_get ps (k + 1) t ht, List.getElem_set, List.getElem_set]
  by_cases c1 : ps.length - 1 - k = t
  · rw [if_pos c1, if_pos (by omega), revK_get ps k k (by omega), if_neg (by omega)]
    congr 1; omega
  · rw [if_neg c1]
    by_cases c2 : k = t
    · rw [if_pos c2, if_pos (by omega), revK_get ps k _ (by omega), if_neg (by omega), c2]
    · rw [if_neg c2, e1, revK_get ps k t ht]
      by_cases c3 : t < k ∨ ps.length - k ≤ t
      · rw [if_pos c3, if_pos (by omega)]
      · rw [if_neg c3, if_neg (by omega)]

theorem revK_zero (ps : List Pc) : revK ps 0 = ps := by
  apply List.ext_getElem (by simp [revK_length])
  intro t h1 h2
  have e1 : (revK ps 0)[t] = (revK ps 0).getD t (0, 0) := by simp [List.getD, h1]
  rw [e1, revK_get ps 0 t h2, if_neg (by omega)]
  simp [List.getD, h2]

theorem revK_end (ps : List Pc) (k : Nat) (hk : ps.length ≤ k + k + 1) (hk2 : k + k ≤ ps.length) : revK ps k = ps.reverse := by
  apply List.ext_getElem (by simp [revK_length])
  intro t h1 h2
  have ht : t < ps.length := by simpa using h2
  have e1 : (revK ps k)[t] = (revK ps k).getD t (0, 0) := by simp [List.getD, h1]
  rw [e1, revK_get ps k t ht, List.getElem_reverse]
  by_cases c : t < k ∨ ps.length - k ≤ t
  · rw [if_pos c]; simp [List.getD, show ps.length - 1 - t < ps.length by omega]
  · rw [if_neg c]
    have : ps.length - 1 - t = t := by omega
    simp [List.getD, ht, this]

theorem grown_set {w w' : World} {g i : Nat} (h : w.grownBy w' (some g)) (x : Value) : w.grownBy (w'.setCell ⟨g, i, none⟩ x) (some g) :=
  ⟨h.os, h.tape, h.output, by simpa [World.setCell] using h.size, fun k hk hne => (setCell_other _ _ _ _ _ (fun e => hne (by rw [e]))).trans (h.block k hk hne)⟩

set_option maxHeartbeats 8000000 in
theorem Reverse_any (g n cap base : Nat) (ps : List Pc) (w : World) (h : w.ownsRow base 35 2 (.slice (some ⟨g, 0, none⟩) n cap) n (flat ps)) (hn : n ≤ 1000) :
    Calls Try.prog 37 #[.slice (some ⟨g, 0, none⟩) n cap] w fun e w' => e = .returned (.tuple #[]) ∧ w'.ownsRow base 35 2 (.slice (some ⟨g, 0, none⟩) n cap) n (flat ps.reverse) ∧ w.grownBy w' (some g) := by
  have hln : ps.length = n := by have := h.1; rw [flat_length] at this; omega
  have HH := hide h
  clear h
  have HLN := hide hln
  clear hln
  go_enter Try.func37, Try.ntmps37
  go_wp2_with fail
  go_loopw [2, 3] (fun u v wr => ∃ k : Nat, k + k ≤ n ∧ u = .int .i64 k ∧ v = .int .i64 ((n : Int) - 1 - k) ∧ Hid (wr.ownsRow base 35 2 (.slice (some ⟨g, 0, none⟩) n cap) n (flat (revK ps k))) ∧ Hid (w.grownBy wr (some g))) (fun u _ _ => n - (intOf u).toNat)
  case atStart => exact ⟨0, by omega, rfl, by go_num, hide (by rw [revK_zero]; exact HH.out), hide (World.grownBy.refl _ _)⟩
  case round =>
    obtain ⟨k, hk, rfl, rfl, HO, HG⟩ := hrel
    by_cases hlt : k + k + 1 < n
    · obtain ⟨j, hj⟩ : ∃ j, j = n - 1 - k := ⟨_, rfl⟩
      have hjn : (n : Int) - 1 - (k : Int) = (j : Int) := by omega
      rw [hjn]
      have hkj : (k : Int) < (j : Int) := by omega
      have hkn : (k : Int) < (n : Int) := by omega
      have hjn' : (j : Int) < (n : Int) := by omega
      obtain ⟨r1, r2, r3, r4⟩ := own_get HO.out (i := k) (by omega)
      obtain ⟨s1, s2, s3, s4⟩ := own_get HO.out (i := j) (by omega)
      obtain ⟨p1, hp1⟩ : ∃ p, (revK ps k).getD k (0, 0) = p := ⟨_, rfl⟩
      obtain ⟨p2, hp2⟩ : ∃ p, (revK ps k).getD j (0, 0) = p := ⟨_, rfl⟩
      rw [hp1] at r1 r2
      rw [hp2] at s1 s2
      have HSTEP : Hid (((revK ps k).set k p2).set j p1 = revK ps (k + 1)) := hide (by
        have := revK_step ps k (by rw [HLN.out]; omega)
        rw [HLN.out, ← hj, hp1, hp2] at this
        exact this)
      have HO2 := hide (own_set (own_set HO.out (i := k) (by omega) p2.1 p2.2) (i := j) (by omega) p1.1 p1.2)
      have HJ := hide hj
      clear hp1 hp2 hj hjn
      obtain ⟨x, y⟩ := p1
      obtain ⟨x', y'⟩ := p2
      simp only at r1 r2 s1 s2 HO2
      have d1 : ¬ k * 2 = j * 2 := by omega
      have d2 : ¬ k * 2 + 1 = j * 2 := by omega
      have d3 : ¬ k * 2 = j * 2 + 1 := by omega
      have d4 : ¬ k * 2 + 1 = j * 2 + 1 := by omega
      have d5 : ¬ j * 2 = k * 2 := by omega
      have d6 : ¬ j * 2 + 1 = k * 2 := by omega
      have d7 : ¬ j * 2 = k * 2 + 1 := by omega
      have d8 : ¬ k = j := by omega
      have d9 : ¬ j = k := by omega
      go_wp2_with fail
      go_region
      rw [HSTEP.out] at HO2
      have HG2 : Hid (w.grownBy ((((wr.setCell ⟨g, k * 2, none⟩ (.int .i64 x')).setCell ⟨g, k * 2 + 1, none⟩ (.int .i64 y')).setCell ⟨g, j * 2, none⟩ (.int .i64 x)).setCell ⟨g, j * 2 + 1, none⟩ (.int .i64 y)).drew (some g)) :=
        hide (grown_trans (grown_set (grown_set (grown_set (grown_set HG.out _) _) _) _) (grown_drew _ _))
      have HO3 : Hid (((((wr.setCell ⟨g, k * 2, none⟩ (.int .i64 x')).setCell ⟨g, k * 2 + 1, none⟩ (.int .i64 y')).setCell ⟨g, j * 2, none⟩ (.int .i64 x)).setCell ⟨g, j * 2 + 1, none⟩ (.int .i64 y)).drew.ownsRow base 35 2 (.slice (some ⟨g, 0, none⟩) n cap) n (flat (revK ps (k + 1)))) := HO2
      generalize ((((wr.setCell ⟨g, k * 2, none⟩ (.int .i64 x')).setCell ⟨g, k * 2 + 1, none⟩ (.int .i64 y')).setCell ⟨g, j * 2, none⟩ (.int .i64 x)).setCell ⟨g, j * 2 + 1, none⟩ (.int .i64 y)).drew = w5 at *
      clear r1 r2 r3 r4 s1 s2 s3 s4 d1 d2 d3 d4 d5 d6 d7 d8 d9 HO HG HO2
      go_wp2_with fail
      go_roundw
      case rel => exact ⟨k + 1, by omega, by go_num, by have := HJ.out; simp only [Value.int.injEq, true_and]; omega, HO3, HG2⟩
      case measure => simp [intOf]; omega
    · have hlt' : ¬ (k : Int) < (n : Int) - 1 - (k : Int) := by omega
      have HE : Hid (revK ps k = ps.reverse) := hide (revK_end ps k (by rw [HLN.out]; omega) (by rw [HLN.out]; omega))
      go_wp2_with fail
      go_end0
      exact ⟨rfl, by rw [← HE.out]; exact HO.out, HG.out⟩

/-- An empty one, nil or not. -/
theorem Reverse_nil (a : Option Addr) (c : Nat) (w : World) : Calls Try.prog 37 #[.slice a 0 c] w fun e w' => e = .returned (.tuple #[]) ∧ w' = w := by
  go_enter Try.func37, Try.ntmps37
  go_wp2_with fail
  go_loop [2, 3] (fun u v => u = .int .i64 0 ∧ v = .int .i64 (-1)) (fun _ _ => 0)
  case atStart => exact ⟨rfl, rfl⟩
  case round =>
    obtain ⟨rfl, rfl⟩ := hrel
    go_wp2_with fail
    go_end0
    exact ⟨rfl, rfl⟩

end Go.Proofs.Ytjcglpnpdalcjaa
