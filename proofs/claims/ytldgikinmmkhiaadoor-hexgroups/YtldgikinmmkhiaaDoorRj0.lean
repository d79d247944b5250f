/-
  The document's own answer who has joined its sides, and where. No conditions beyond those that each theorem bears.
-/
import Derived.Test.YtldgikinmmkhiaaDoorRg
namespace Go.Proofs.YtldgikinmmkhiaaDoor
open Go.RowKit Go.Shelf

/-- Which places are marked. -/
def ibL (N : Nat) (Q : List Nat) : List Value := (List.range N).map fun q => Value.bool (decide (q ∈ Q))
theorem ibL_at {N : Nat} {Q : List Nat} {q : Nat} (hq : q < N) : (ibL N Q)[q]? = some (.bool (decide (q ∈ Q))) := by
  unfold ibL
  rw [List.getElem?_map, List.getElem?_range hq]
  rfl
theorem ibL_set {N : Nat} {Q : List Nat} {r : Nat} : (ibL N Q).set r (.bool true) = ibL N (Q ++ [r]) := by
  apply List.ext_getElem?
  intro i
  by_cases hi : i < N
  · rw [ibL_at hi, List.getElem?_set]
    by_cases e : r = i
    · subst e
      have : r < (ibL N Q).length := by simp [ibL]; exact hi
      simp [this]
    · rw [if_neg e, ibL_at hi]
      have : i ≠ r := fun h => e h.symm
      simp [this]
  · rw [List.getElem?_eq_none (by simp [ibL]; omega), List.getElem?_eq_none (by simp [ibL]; omega)]

theorem own_vb {w : World} {base e g n : Nat} {xs : List Value} (h : w.ownsRow base e 1 (.slice (some ⟨g, 0, none⟩) n n) n xs) : Vb w g e xs := by
  rcases h.2 with ⟨hv, _⟩ | ⟨g', cap, cur, hv, hb, hg, hnc, hcm, hcs, ht⟩
  · simp at hv
  · simp only [Value.slice.injEq, Option.some.injEq, Addr.mk.injEq, and_true, true_and] at hv
    obtain ⟨rfl, rfl⟩ := hv
    have e : cur = xs.toArray := by
      rw [← ht, List.take_of_length_le (by simp [hcs])]
    rw [Vb, hg, e]

theorem made_bools (n : Nat) : (madeCells #[Value.bool false] n).toList = ibL n [] := by
  rw [toList_madeCells_one]
  unfold ibL
  apply List.ext_getElem?
  intro i
  by_cases hi : i < n
  · simp [hi]
  · simp [hi]

theorem Tryd.info4 : (Tryd.prog.info? 4).map (fun i => (i.zero, i.size, i.bytes)) = some (some (.bool false), 1, 1) := by kernel_rfl

theorem jnA_succ {n m : Nat} {x : List Nat} {k : Nat} (hk : k < x.length) : jnA n m (x.take (k + 1)) = (jnA n m (x.take k) || decide (ln n m (x.getD k 0) = 0)) := by
  unfold jnA
  rw [List.take_succ_eq_append_getElem hk, List.any_append]
  simp [List.getD, hk]
theorem jnZ_succ {n m : Nat} {x : List Nat} {k : Nat} (hk : k < x.length) : jnZ n m (x.take (k + 1)) = (jnZ n m (x.take k) || decide (ln n m (x.getD k 0) + 1 = n)) := by
  unfold jnZ
  rw [List.take_succ_eq_append_getElem hk, List.any_append]
  simp [List.getD, hk]

/-- The marked places up to k. -/
def mkd (Q : List Nat) (k : Nat) : List Nat := (List.range k).filter fun q => decide (q ∈ Q)
theorem mkd_zero (Q : List Nat) : mkd Q 0 = [] := rfl
theorem mkd_succ (Q : List Nat) (k : Nat) : mkd Q (k + 1) = mkd Q k ++ (if k ∈ Q then [k] else []) := by
  unfold mkd
  rw [List.range_succ, List.filter_append]
  congr 1
  by_cases h : k ∈ Q
  · rw [if_pos h, List.filter_cons, decide_eq_true h]; rfl
  · rw [if_neg h, List.filter_cons, decide_eq_false h]; rfl
theorem mkd_len (Q : List Nat) (k : Nat) : (mkd Q k).length ≤ k := by unfold mkd; exact Nat.le_trans (List.length_filter_le _ _) (by simp)
theorem mkd_pls {n m : Nat} {Z : List Int} : mkd (fl n m (grps n Z m)) (n * n) = pls n (jnP n Z m) := by
  unfold mkd pls
  refine List.filter_congr fun q hq => ?_
  rw [Bool.eq_iff_iff, decide_eq_true_iff, @decide_eq_true_iff _ (Classical.propDecidable _), fl_mem]
  exact ⟨fun h => h.2, fun h => ⟨List.mem_range.1 hq, h⟩⟩

theorem fl_take {n m : Nat} {L : List (List Nat)} {j : Nat} (hj : j < L.length) : fl n m (L.take (j + 1)) = fl n m (L.take j) ++ (if jnB n m (L.getD j []) then L.getD j [] else []) := by
  rw [List.take_succ_eq_append_getElem hj, fl_snoc]
  simp [List.getD, hj]

end Go.Proofs.YtldgikinmmkhiaaDoor
