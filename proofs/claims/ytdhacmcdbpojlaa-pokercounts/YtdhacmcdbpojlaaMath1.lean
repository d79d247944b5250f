/-
  The value of a hand, told by the program's way and by the reference's way, is the same. No conditions beyond those that each theorem bears.
-/
import Derived.Test.YtdhacmcdbpojlaaRefDef
namespace Go.Proofs.Ytdhacmcdbpojlaa
open Go.RowKit Go.Shelf

/-- How often each rank is there, of ranks. -/
def mnyR (rs : List Nat) : List Nat := (List.range 13).map (fun r => rs.count r)
def wsR (rs : List Nat) : List Nat := isort (rs.map (fun r => rs.count r * 13 + r))

theorem wsOf_eq (h : List Nat) : wsOf h = wsR (h.map (· / 4)) := by
  simp only [wsOf, wsR, List.map_map]
  rfl

theorem wsR_perm {a b : List Nat} (h : a.Perm b) : wsR a = wsR b := by
  apply isort_of_perm
  have : (a.map (fun r => a.count r * 13 + r)).Perm (b.map (fun r => a.count r * 13 + r)) := h.map _
  refine this.trans (List.Perm.of_eq ?_)
  apply List.map_congr_left
  intro r _
  rw [h.count_eq]

theorem mnyR_perm {a b : List Nat} (h : a.Perm b) : mnyR a = mnyR b := by
  simp only [mnyR]
  apply List.map_congr_left
  intro r _
  exact h.count_eq r

/-- All sorted lists of k ranks from lo on. -/
def sortedFrom : Nat → Nat → List (List Nat)
  | 0, _ => [[]]
  | k + 1, lo => ((List.range 13).filter (fun r => lo ≤ r)).flatMap (fun r => (sortedFrom k r).map (r :: ·))

theorem mem_sortedFrom : ∀ (l : List Nat) (lo : Nat), l.Pairwise (· ≤ ·) → (∀ x ∈ l, lo ≤ x ∧ x < 13) → l ∈ sortedFrom l.length lo := by
  intro l
  induction l with
  | nil => intro lo _ _; simp [sortedFrom]
  | cons x l ih =>
    intro lo hp hb
    rw [List.pairwise_cons] at hp
    have hx := hb x (by simp)
    simp only [List.length_cons, sortedFrom, List.mem_flatMap, List.mem_filter, List.mem_range, decide_eq_true_eq]
    refine ⟨x, ⟨hx.2, hx.1⟩, List.mem_map.2 ⟨l, ih x hp.2 (fun y hy => ⟨hp.1 y hy, (hb y (by simp [hy])).2⟩), rfl⟩⟩

def goodB (T : List Nat) : Bool :=
  decide (T.length = 13) && T.all (fun m => decide (m ≤ 5)) && decide (0 < (sgUp T 4).length) && decide ((sgUp T 4).length ≤ 5) &&
    (decide (1 < (sgUp T 4).length) || !(decide (T.getD ((sgUp T 4).getD 0 0) 0 = 3) || decide (T.getD ((sgUp T 4).getD 0 0) 0 = 2))) && (sgUp T 4).all (fun s => decide (s < 13))

theorem good_of {T : List Nat} (h : goodB T = true) : GoodT T := by
  simp only [goodB, Bool.and_eq_true, decide_eq_true_eq, List.all_eq_true, Bool.or_eq_true, Bool.not_eq_true', Bool.or_eq_false_iff, decide_eq_false_iff_not] at h
  obtain ⟨⟨⟨⟨⟨h1, h2⟩, h3⟩, h4⟩, h5⟩, h6⟩ := h
  refine ⟨h1, fun r => ?_, h3, h4, fun h => ?_, h6⟩
  · by_cases hr : r < T.length
    · simp only [List.getD, hr, List.getElem?_eq_getElem, Option.getD_some]
      exact h2 _ (List.getElem_mem hr)
    · simp [List.getD, hr]
  · rcases h5 with h5 | ⟨h5, h7⟩
    · exact h5
    · rcases h with h | h
      · exact absurd h h5
      · exact absurd h h7

def distB : List Nat → Bool
  | [] => true
  | x :: l => !(l.contains x) && distB l

def valR (fl : Bool) (rs : List Nat) : Nat := valF fl (stepS (wsR rs) 5).2 (stepS (wsR rs) 5).1 ((wsR rs).getD 4 0 / 13)

def checkR (rs : List Nat) : Bool :=
  decide (rs.count (rs.getD 0 0) = 5) || (goodB (mnyR rs) && decide (valR false rs = refF false (mnyR rs)) && (!(distB rs) || decide (valR true rs = refF true (mnyR rs))))


end Go.Proofs.Ytdhacmcdbpojlaa
