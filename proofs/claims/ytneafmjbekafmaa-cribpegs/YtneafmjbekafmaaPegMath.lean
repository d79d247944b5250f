/-
  Plain facts on the last cards that are put down: alike, or in a row. No conditions beyond those that each theorem bears.
-/
import Derived.Test.YtneafmjbekafmaaWays
namespace Go.Proofs.Ytneafmjbekafmaa
open Go.RowKit Go.Shelf

/-- The points of the first k cards. -/
def sumP (L : List Nat) : Nat → Nat
  | 0 => 0
  | k + 1 => sumP L k + ptC (L.getD k 0)

theorem sumP_le (L : List Nat) (k : Nat) : sumP L k ≤ 10 * k := by
  induction k with
  | zero => simp [sumP]
  | succ k ih => have := (ptC_bd (L.getD k 0)).2; rw [sumP]; omega

/-- The rank of the card that lies k places ahead of the last. -/
def rkE (L : List Nat) (k : Nat) : Nat := rkC (L.getD (L.length - 1 - k) 0)

/-- The last k cards have one rank. -/
def sameE (L : List Nat) (k : Nat) : Prop := ∀ j, j < k → rkE L j = rkE L 0

/-- Where the first rank is that is there. -/
def fstI (T : List Nat) : Nat := T.findIdx (fun t => decide (0 < t))

/-- Do these cards make a row? -/
def rowB (S : List Nat) : Bool := decide (fstI (tms S) + S.length ≤ 13 ∧ ∀ i, i < S.length → (tms S).getD (fstI (tms S) + i) 0 = 1)

/-- How many of the last cards make a row, at most n. -/
def rowTo (L : List Nat) : Nat → Nat
  | 0 => 0
  | n + 1 => if n + 1 < 3 then 0 else if rowB (L.drop (L.length - (n + 1))) = true then n + 1 else rowTo L n

theorem rowTo_small (L : List Nat) (n : Nat) (h : n < 3) : rowTo L n = 0 := by
  cases n with
  | zero => rfl
  | succ n => rw [rowTo, if_pos h]
theorem rowTo_yes (L : List Nat) (n : Nat) (h : 3 ≤ n) (hb : rowB (L.drop (L.length - n)) = true) : rowTo L n = n := by
  cases n with
  | zero => omega
  | succ n => rw [rowTo, if_neg (by omega), if_pos hb]
theorem rowTo_no (L : List Nat) (n : Nat) (h : 3 ≤ n) (hb : rowB (L.drop (L.length - n)) = false) : rowTo L n = rowTo L (n - 1) := by
  cases n with
  | zero => omega
  | succ n => rw [rowTo, if_neg (by omega), hb]; simp

theorem rowTo_le (L : List Nat) (n : Nat) : rowTo L n ≤ n := by
  induction n with
  | zero => simp [rowTo]
  | succ n ih => unfold rowTo; split
                 · omega
                 · split <;> omega

theorem tms_pos (S : List Nat) (h : 0 < S.length) : fstI (tms S) < 13 ∧ 0 < (tms S).getD (fstI (tms S)) 0 := by
  have hx : ∃ t ∈ tms S, decide (0 < t) = true := by
    have hm := mem_getD S 0 h
    have hr := rkC_lt (S.getD 0 0)
    refine ⟨(tms S).getD (rkC (S.getD 0 0)) 0, mem_getD _ _ (by rw [tms_length]; exact hr), ?_⟩
    rw [tms_getD S _ hr, decide_eq_true_eq]
    exact List.count_pos_iff.2 (List.mem_map.2 ⟨_, hm, rfl⟩)
  have h1 : fstI (tms S) < (tms S).length := List.findIdx_lt_length_of_exists hx
  refine ⟨by rwa [tms_length] at h1, ?_⟩
  have h2 := List.findIdx_getElem (w := h1)
  simp only [fstI] at h1 ⊢
  simp only [List.getD, List.getElem?_eq_getElem h1, Option.getD_some]
  simpa using h2

theorem fst_min (S : List Nat) (r : Nat) (h : r < fstI (tms S)) : (tms S).getD r 0 = 0 := by
  have h1 := List.not_of_lt_findIdx h
  have h2 : r < (tms S).length := Nat.lt_of_lt_of_le h List.findIdx_le_length
  simp only [List.getD, List.getElem?_eq_getElem h2, Option.getD_some]
  simpa using h1

/-- The lowest rank of the first k cards, told from 13 down. -/
def lowTo (S : List Nat) : Nat → Nat
  | 0 => 13
  | k + 1 => if rkC (S.getD k 0) < lowTo S k then rkC (S.getD k 0) else lowTo S k

theorem lowTo_le (S : List Nat) (k : Nat) : lowTo S k ≤ 13 := by
  induction k with
  | zero => exact Nat.le_refl _
  | succ k ih => unfold lowTo; split <;> omega

theorem lowTo_bound (S : List Nat) (k : Nat) : ∀ i, i < k → lowTo S k ≤ rkC (S.getD i 0) := by
  induction k with
  | zero => intro i h; omega
  | succ k ih =>
    intro i h
    unfold lowTo
    by_cases e : i = k
    · subst e; split <;> omega
    · have := ih i (by omega)
      split <;> omega

theorem lowTo_mem (S : List Nat) (k : Nat) (hk : 0 < k) : ∃ i, i < k ∧ lowTo S k = rkC (S.getD i 0) := by
  induction k with
  | zero => omega
  | succ k ih =>
    unfold lowTo
    split
    · exact ⟨k, by omega, rfl⟩
    · rename_i h
      by_cases h0 : k = 0
      · subst h0
        have := rkC_lt (S.getD 0 0)
        exact absurd this h
      · obtain ⟨i, hi, e⟩ := ih (by omega)
        exact ⟨i, by omega, e⟩

theorem low_fst (S : List Nat) (h : 0 < S.length) : lowTo S S.length = fstI (tms S) := by
  obtain ⟨hf, hp⟩ := tms_pos S h
  obtain ⟨i, hi, e⟩ := lowTo_mem S S.length h
  apply Nat.le_antisymm
  · rw [tms_getD S _ hf] at hp
    obtain ⟨x, hx, e2⟩ := List.mem_map.1 (List.count_pos_iff.1 hp)
    obtain ⟨j, hj, e3⟩ := List.mem_iff_getElem.1 hx
    have := lowTo_bound S S.length j hj
    rw [show S.getD j 0 = x by simp [List.getD, hj, e3], e2] at this
    exact this
  · rw [e]
    apply Classical.byContradiction
    intro hlt
    have h0 := fst_min S (rkC (S.getD i 0)) (by omega)
    rw [tms_getD S _ (rkC_lt _)] at h0
    have h1 : 0 < (S.map rkC).count (rkC (S.getD i 0)) := List.count_pos_iff.2 (List.mem_map.2 ⟨_, mem_getD S i hi, rfl⟩)
    omega

theorem prT_one (T : List Nat) (lo n : Nat) : prT T lo n = 1 ↔ ∀ i, i < n → T.getD (lo + i) 0 = 1 := by
  induction n with
  | zero => simp [prT]
  | succ n ih =>
    rw [prT]
    constructor
    · intro h
      have h1 : prT T lo n = 1 ∧ T.getD (lo + n) 0 = 1 := ⟨Nat.dvd_one.1 ⟨_, h.symm⟩, Nat.dvd_one.1 ⟨_, by rw [Nat.mul_comm]; exact h.symm⟩⟩
      intro i hi
      by_cases e : i = n
      · subst e; exact h1.2
      · exact ih.1 h1.1 i (by omega)
    · intro h
      rw [ih.2 (fun i hi => h i (by omega)), h n (by omega)]

/-- A row, as the reference tells it. -/
theorem rowB_ref (S : List Nat) (h : 0 < S.length) : rowB S = (decide (lowTo S S.length + S.length ≤ 13) && decide (prT (tms S) (lowTo S S.length) S.length = 1)) := by
  rw [low_fst S h, rowB, Bool.eq_iff_iff, Bool.and_eq_true, decide_eq_true_eq, decide_eq_true_eq, decide_eq_true_eq, prT_one]

/-- What the last card brings, more than two for the sum. -/
def brings (L : List Nat) (K : Nat) : Nat := if 1 < K then K * (K - 1) else rowTo L L.length

def two (s : Nat) : Nat := if s = 15 ∨ s = 31 then 2 else 0

/-- So many of the last cards are alike, and no more. -/
structure Alike (L : List Nat) (K : Nat) : Prop where
  pos : 1 ≤ K
  le : K ≤ L.length
  same : sameE L K
  more : K < L.length → ¬ rkE L K = rkE L 0

theorem Alike.unique {L : List Nat} {K K' : Nat} (h : Alike L K) (h' : Alike L K') : K = K' := by
  rcases Nat.lt_trichotomy K K' with e | e | e
  · exact absurd (h'.same K e) (h.more (by have := h'.le; omega))
  · exact e
  · exact absurd (h.same K' e) (h'.more (by have := h.le; omega))

theorem nodup_getD {L : List Nat} (hn : L.Nodup) {i j : Nat} (hi : i < L.length) (hj : j < L.length) (h : L.getD i 0 = L.getD j 0) : i = j := by
  have e1 : L.getD i 0 = L[i] := by simp [List.getD, hi]
  have e2 : L.getD j 0 = L[j] := by simp [List.getD, hj]
  rw [e1, e2] at h
  have hp := List.pairwise_iff_getElem.1 hn
  rcases Nat.lt_trichotomy i j with e | e | e
  · exact absurd h (hp i j hi hj e)
  · exact e
  · exact absurd h.symm (hp j i hj hi e)

theorem Alike.four {L : List Nat} {K : Nat} (h : Alike L K) (hn : L.Nodup) (hlt : ∀ x ∈ L, x < 52) : K ≤ 4 := by
  apply Classical.byContradiction
  intro hK
  have hle := h.le
  have key : ∀ j, j < 5 → L.getD (L.length - 1 - j) 0 / 4 = L.getD (L.length - 1 - 0) 0 / 4 := by
    intro j hj
    have hs := h.same j (by omega)
    unfold rkE rkC at hs
    have l1 := hlt _ (mem_getD L (L.length - 1 - j) (by omega))
    have l0 := hlt _ (mem_getD L (L.length - 1 - 0) (by omega))
    omega
  have ne : ∀ i j, i < j → j < 5 → ¬ L.getD (L.length - 1 - i) 0 = L.getD (L.length - 1 - j) 0 := by
    intro i j hij hj e
    have := nodup_getD hn (by omega) (by omega) e
    omega
  have k1 := key 1 (by omega)
  have k2 := key 2 (by omega)
  have k3 := key 3 (by omega)
  have k4 := key 4 (by omega)
  have n01 := ne 0 1 (by omega) (by omega)
  have n02 := ne 0 2 (by omega) (by omega)
  have n03 := ne 0 3 (by omega) (by omega)
  have n04 := ne 0 4 (by omega) (by omega)
  have n12 := ne 1 2 (by omega) (by omega)
  have n13 := ne 1 3 (by omega) (by omega)
  have n14 := ne 1 4 (by omega) (by omega)
  have n23 := ne 2 3 (by omega) (by omega)
  have n24 := ne 2 4 (by omega) (by omega)
  have n34 := ne 3 4 (by omega) (by omega)
  clear key ne h hn hlt
  generalize L.getD (L.length - 1 - 0) 0 = a at *
  generalize L.getD (L.length - 1 - 1) 0 = b at *
  generalize L.getD (L.length - 1 - 2) 0 = c at *
  generalize L.getD (L.length - 1 - 3) 0 = d at *
  generalize L.getD (L.length - 1 - 4) 0 = e at *
  omega

end Go.Proofs.Ytneafmjbekafmaa
