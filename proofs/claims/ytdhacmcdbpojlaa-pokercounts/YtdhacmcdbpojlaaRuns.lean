/-
  All sets of k of n places, in the order of their lists, are what poker.sets hands out one behind another. No conditions beyond those that each theorem bears.
-/
import Derived.Test.YtdhacmcdbpojlaaFaces
namespace Go.Proofs.Ytdhacmcdbpojlaa
open Go.RowKit Go.Shelf

/-- From s one behind another through r to t. -/
def Lk (n K : Nat) : List Nat → List (List Nat) → List Nat → Prop
  | s, [], t => s = t
  | s, s' :: r, t => nextSet n K s = some s' ∧ Lk n K s' r t

theorem Lk_append {n K : Nat} {u v : List Nat} {r' : List (List Nat)} : ∀ (r : List (List Nat)) (s t : List Nat), Lk n K s r t → nextSet n K t = some u → Lk n K u r' v → Lk n K s (r ++ u :: r') v := by
  intro r
  induction r with
  | nil => intro s t h1 h2 h3; subst h1; exact ⟨h2, h3⟩
  | cons s' r ih => intro s t h1 h2 h3; exact ⟨h1.1, ih s' t h1.2 h2 h3⟩

theorem Lk_run {n K : Nat} : ∀ (r : List (List Nat)) (s t : List Nat), Lk n K s r t → nextSet n K t = none → Run n K s r := by
  intro r
  induction r with
  | nil => intro s t h1 h2; subst h1; exact h2
  | cons s' r ih => intro s t h1 h2; exact ⟨h1.1, ih s' t h1.2 h2⟩

theorem lastOf_skip (n K : Nat) (s : List Nat) (j : Nat) : ∀ d, (∀ i, j ≤ i → i < j + d → s.getD i 0 = n - K + i) → lastOf n K s (j + d) = lastOf n K s j := by
  intro d
  induction d with
  | zero => intro _; rfl
  | succ d ih =>
    intro h
    rw [← Nat.add_assoc, lastOf, if_pos (h (j + d) (by omega) (by omega))]
    exact ih (fun i h1 h2 => h i h1 (by omega))

theorem fromto (x k i : Nat) (h : i < k) : (List.range' x k).getD i 0 = x + i := by
  simp [List.getD, h]

/-- The last list that begins so: nothing of its end can go up. -/
theorem next_up (n k x : Nat) (pre : List Nat) (h : x + (k + 1) < n) (hp : pre.length ≤ x) :
    nextSet n (pre.length + (k + 1)) (pre ++ [x] ++ List.range' (n - k) k) = some (pre ++ List.range' (x + 1) (k + 1)) := by
  obtain ⟨s, hs⟩ : ∃ s, pre ++ [x] ++ List.range' (n - k) k = s := ⟨_, rfl⟩
  have g0 : s.getD pre.length 0 = x := by rw [← hs]; simp [List.getD]
  have g1 : ∀ i, pre.length + 1 ≤ i → i < pre.length + 1 + k → s.getD i 0 = n - (pre.length + (k + 1)) + i := by
    intro i h1 h2
    rw [← hs]
    simp only [List.getD]
    rw [List.getElem?_append_right (by simp; omega)]
    have := fromto (n - k) k (i - (pre ++ [x]).length) (by simp; omega)
    simp only [List.getD] at this
    rw [this]
    have hlen : (pre ++ [x]).length = pre.length + 1 := by simp
    omega
  have hl : lastOf n (pre.length + (k + 1)) s (pre.length + (k + 1)) = pre.length + 1 := by
    rw [show pre.length + (k + 1) = pre.length + 1 + k by omega]
    rw [lastOf_skip n (pre.length + 1 + k) s (pre.length + 1) k (fun i h1 h2 => by rw [g1 i h1 h2]; omega)]
    rw [lastOf, if_neg (by rw [g0]; omega)]
  rw [hs, nextSet, hl]
  show some (fillFrom s pre.length (pre.length + (k + 1))) = _
  congr 1
  have hsl : s.length = pre.length + (k + 1) := by
    rw [← hs]
    simp only [List.length_append, List.length_cons, List.length_nil, List.length_range']
    omega
  apply list_ext
  · rw [fill_len s _ _ (by omega) (by omega), hsl]; simp
  · intro q hq
    rw [fill_len s _ _ (by omega) (by omega), hsl] at hq
    rw [fill_get s _ _ q (by omega) (by omega), g0]
    by_cases hq1 : q < pre.length
    · rw [if_pos hq1, ← hs]
      simp only [List.getD]
      rw [List.append_assoc, List.getElem?_append_left hq1, List.getElem?_append_left hq1]
    · rw [if_neg hq1, if_pos hq]
      simp only [List.getD]
      rw [List.getElem?_append_right (by omega)]
      have := fromto (x + 1) (k + 1) (q - pre.length) (by omega)
      simp only [List.getD] at this
      rw [this]

theorem next_none (n k : Nat) : nextSet n k (List.range' (n - k) k) = none := by
  have hl : lastOf n k (List.range' (n - k) k) k = 0 := by
    have := lastOf_skip n k (List.range' (n - k) k) 0 k (fun i _ h2 => fromto (n - k) k i (by omega))
    rw [Nat.zero_add] at this
    rw [this]; rfl
  rw [nextSet, hl]

/-- What is to come of lists that begin so. -/
def tg (k n : Nat) (pre : List Nat) (x : Nat) : List (List Nat) := (comb k (List.range' x (n - x))).map (pre ++ ·)

theorem comb_short : ∀ (l : List Nat) (k : Nat), l.length < k → comb k l = [] := by
  intro l
  induction l with
  | nil => intro k h; cases k with
    | zero => exact absurd h (by simp)
    | succ k => rfl
  | cons y l ih =>
    intro k h
    cases k with
    | zero => exact absurd h (by simp)
    | succ k =>
      simp only [List.length_cons] at h
      rw [comb, ih k (by omega), ih (k + 1) (by omega)]; rfl

theorem tg_step {k n : Nat} (pre : List Nat) {x : Nat} (h : x < n) : tg (k + 1) n pre x = tg k n (pre ++ [x]) (x + 1) ++ tg (k + 1) n pre (x + 1) := by
  simp only [tg]
  rw [show n - x = (n - (x + 1)) + 1 by omega, List.range'_succ]
  simp only [comb, List.map_append, List.map_map]
  congr 1
  apply List.map_congr_left
  intro l _
  simp

theorem tg_chain (n : Nat) : ∀ (k d x : Nat) (pre : List Nat), x + k + d = n → pre.length ≤ x →
    ∃ r, tg k n pre x = (pre ++ List.range' x k) :: r ∧ Lk n (pre.length + k) (pre ++ List.range' x k) r (pre ++ List.range' (n - k) k) := by
  intro k
  induction k with
  | zero =>
    intro d x pre h _
    refine ⟨[], by simp [tg, comb], ?_⟩
    show _ = _
    simp
  | succ k ih =>
    intro d
    induction d with
    | zero =>
      intro x pre h hp
      obtain ⟨r, e1, e2⟩ := ih 0 (x + 1) (pre ++ [x]) (by omega) (by simp; omega)
      have e3 : tg (k + 1) n pre (x + 1) = [] := by
        rw [tg, comb_short _ _ (by simp; omega)]; rfl
      refine ⟨r, ?_, ?_⟩
      · rw [tg_step pre (by omega), e1, e3, List.append_nil, List.range'_succ]
        simp
      · have h1 : pre ++ [x] ++ List.range' (x + 1) k = pre ++ List.range' x (k + 1) := by rw [List.range'_succ]; simp
        have h2 : pre ++ [x] ++ List.range' (n - k) k = pre ++ List.range' (n - (k + 1)) (k + 1) := by
          rw [show n - (k + 1) = x by omega, List.range'_succ, show n - k = x + 1 by omega]; simp
        rw [h1, h2] at e2
        have h3 : (pre ++ [x]).length + k = pre.length + (k + 1) := by simp; omega
        rw [h3] at e2
        exact e2
    | succ d ihd =>
      intro x pre h hp
      obtain ⟨r, e1, e2⟩ := ih (d + 1) (x + 1) (pre ++ [x]) (by omega) (by simp; omega)
      obtain ⟨r', e3, e4⟩ := ihd (x + 1) pre (by omega) (by omega)
      refine ⟨r ++ (pre ++ List.range' (x + 1) (k + 1)) :: r', ?_, ?_⟩
      · have h1 : pre ++ [x] ++ List.range' (x + 1) k = pre ++ List.range' x (k + 1) := by rw [List.range'_succ]; simp
        rw [tg_step pre (by omega), e1, e3, h1]
        simp
      · have h1 : pre ++ [x] ++ List.range' (x + 1) k = pre ++ List.range' x (k + 1) := by rw [List.range'_succ]; simp
        have h3 : (pre ++ [x]).length + k = pre.length + (k + 1) := by simp; omega
        rw [h1, h3] at e2
        exact Lk_append _ _ _ e2 (next_up n k x pre (by omega) hp) e4

/-- All sets of k of n places come one behind another. -/
theorem sets_run (n k : Nat) (h : k ≤ n) : ∃ rest, comb k (List.range n) = List.range k :: rest ∧ Run n k (List.range k) rest := by
  obtain ⟨r, e1, e2⟩ := tg_chain n k (n - k) 0 [] (by omega) (by simp)
  have e3 : tg k n [] 0 = comb k (List.range n) := by
    rw [tg, Nat.sub_zero, ← List.range_eq_range']; simp
  rw [e3, List.nil_append, ← List.range_eq_range'] at e1
  rw [List.nil_append, List.nil_append, List.length_nil, Nat.zero_add, ← List.range_eq_range'] at e2
  exact ⟨r, e1, Lk_run _ _ _ e2 (next_none n k)⟩

theorem comb_mem : ∀ (l : List Nat) (k : Nat) (s : List Nat), s ∈ comb k l → s.length = k ∧ ∀ x ∈ s, x ∈ l := by
  intro l
  induction l with
  | nil =>
    intro k s hs
    cases k with
    | zero => simp [comb] at hs; subst hs; simp
    | succ k => simp [comb] at hs
  | cons y l ih =>
    intro k s hs
    cases k with
    | zero => simp [comb] at hs; subst hs; simp
    | succ k =>
      rw [comb, List.mem_append] at hs
      rcases hs with hs | hs
      · obtain ⟨t, ht, rfl⟩ := List.mem_map.1 hs
        obtain ⟨h1, h2⟩ := ih k t ht
        refine ⟨by simp [h1], fun x hx => ?_⟩
        rcases List.mem_cons.1 hx with rfl | hx
        · simp
        · exact List.mem_cons_of_mem _ (h2 x hx)
      · obtain ⟨h1, h2⟩ := ih (k + 1) s hs
        exact ⟨h1, fun x hx => List.mem_cons_of_mem _ (h2 x hx)⟩

theorem sets_ok (n k : Nat) (hn : 0 < n) : ∀ x ∈ comb k (List.range n), x.length = k ∧ ∀ i, x.getD i 0 < n := by
  intro x hx
  obtain ⟨h1, h2⟩ := comb_mem _ _ _ hx
  refine ⟨h1, fun i => ?_⟩
  by_cases hi : i < x.length
  · simp only [List.getD, hi, List.getElem?_eq_getElem, Option.getD_some]
    exact List.mem_range.1 (h2 _ (List.getElem_mem hi))
  · simp [List.getD, hi, hn]

end Go.Proofs.Ytdhacmcdbpojlaa
