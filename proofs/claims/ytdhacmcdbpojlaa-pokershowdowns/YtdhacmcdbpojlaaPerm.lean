/-
  A value hangs on no order of cards and on no change of suits; more cards make it no less. No conditions beyond those that each theorem bears.
-/
import Derived.Test.YtdhacmcdbpojlaaFaces
namespace Go.Proofs.Ytdhacmcdbpojlaa
open Go.RowKit Go.Shelf

/-- All of one suit. -/
def oneSuit (l : List Nat) : Prop := ∀ x ∈ l, ∀ y ∈ l, x % 4 = y % 4

theorem flN_iff (a b c d e : Nat) : flN a b c d e = true ↔ oneSuit [a, b, c, d, e] := by
  unfold flN oneSuit
  simp only [decide_eq_true_eq, List.mem_cons, List.not_mem_nil, or_false]
  constructor
  · rintro ⟨h1, h2, h3, h4⟩ x hx y hy
    rcases hx with rfl | rfl | rfl | rfl | rfl <;> rcases hy with rfl | rfl | rfl | rfl | rfl <;> omega
  · intro h
    exact ⟨h b (by simp) a (by simp), h c (by simp) a (by simp), h d (by simp) a (by simp), h e (by simp) a (by simp)⟩

theorem flN_eq {a b c d e a' b' c' d' e' : Nat} (h : oneSuit [a, b, c, d, e] ↔ oneSuit [a', b', c', d', e']) : flN a b c d e = flN a' b' c' d' e' := by
  rw [Bool.eq_iff_iff, flN_iff, flN_iff]
  exact h

theorem wsOf_perm {l l' : List Nat} (h : (l.map (· / 4)).Perm (l'.map (· / 4))) : wsOf l = wsOf l' := by
  have key : ∀ m : List Nat, wsOf m = isort ((m.map (· / 4)).map (fun r => (m.map (· / 4)).count r * 13 + r)) := by
    intro m
    simp only [wsOf, List.map_map]
    rfl
  rw [key, key]
  apply isort_of_perm
  have h1 : ((l.map (· / 4)).map (fun r => (l.map (· / 4)).count r * 13 + r)).Perm ((l'.map (· / 4)).map (fun r => (l.map (· / 4)).count r * 13 + r)) := h.map _
  refine h1.trans (List.Perm.of_eq ?_)
  apply List.map_congr_left
  intro r _
  rw [h.count_eq]

/-- The same ranks, and both of one suit or neither: the same value. -/
theorem valL_same {l l' : List Nat} (h5 : l.length = 5) (h5' : l'.length = 5) (h : (l.map (· / 4)).Perm (l'.map (· / 4))) (hs : oneSuit l ↔ oneSuit l') : valL l = valL l' := by
  match l, l', h5, h5' with
  | [a, b, c, d, e], [a', b', c', d', e'], _, _ =>
    show valN a b c d e = valN a' b' c' d' e'
    unfold valN
    rw [wsOf_perm h, flN_eq hs]

theorem valL_perm {l l' : List Nat} (h5 : l.length = 5) (h : l.Perm l') : valL l = valL l' :=
  valL_same h5 (by rw [← h.length_eq]; exact h5) (h.map _) ⟨fun hs x hx y hy => hs x (h.mem_iff.2 hx) y (h.mem_iff.2 hy), fun hs x hx y hy => hs x (h.mem_iff.1 hx) y (h.mem_iff.1 hy)⟩

/-- Cards with their suits changed. -/
def suited (f : Nat → Nat) (c : Nat) : Nat := c / 4 * 4 + f (c % 4)

theorem valL_suited (f : Nat → Nat) (hf : ∀ i, i < 4 → f i < 4) (hi : ∀ i j, i < 4 → j < 4 → f i = f j → i = j) {l : List Nat} (h5 : l.length = 5) : valL (l.map (suited f)) = valL l := by
  have hr : ∀ c, suited f c / 4 = c / 4 := fun c => by have := hf (c % 4) (by omega); unfold suited; omega
  have hm : ∀ c, suited f c % 4 = f (c % 4) := fun c => by have := hf (c % 4) (by omega); unfold suited; omega
  refine valL_same (by rw [List.length_map]; exact h5) h5 (List.Perm.of_eq ?_) ?_
  · rw [List.map_map]
    apply List.map_congr_left
    intro c _
    exact hr c
  · constructor
    · intro hs x hx y hy
      have := hs (suited f x) (List.mem_map.2 ⟨x, hx, rfl⟩) (suited f y) (List.mem_map.2 ⟨y, hy, rfl⟩)
      rw [hm, hm] at this
      exact hi _ _ (by omega) (by omega) this
    · intro hs x hx y hy
      obtain ⟨x', hx', rfl⟩ := List.mem_map.1 hx
      obtain ⟨y', hy', rfl⟩ := List.mem_map.1 hy
      rw [hm, hm, hs x' hx' y' hy']

theorem comb_map (f : Nat → Nat) : ∀ (l : List Nat) (k : Nat), comb k (l.map f) = (comb k l).map (List.map f) := by
  intro l
  induction l with
  | nil => intro k; cases k <;> rfl
  | cons x l ih =>
    intro k
    cases k with
    | zero => rfl
    | succ k =>
      simp only [List.map_cons, comb, List.map_append, List.map_map]
      rw [ih k, ih (k + 1), List.map_map]
      congr 1

/-- The fives of places, as cards, are the fives of the cards. -/
theorem comb_pick (zs : List Nat) (k : Nat) : (comb k (List.range zs.length)).map (pick zs) = comb k zs := by
  have h : (List.range zs.length).map (fun i => zs.getD i 0) = zs := by
    apply List.ext_getElem
    · simp
    · intro i h1 h2
      simp [List.getD, h2]
  have := comb_map (fun i => zs.getD i 0) (List.range zs.length) k
  rw [h] at this
  rw [this]
  rfl

theorem comb_perm {l l' : List Nat} (h : l.Perm l') : ∀ (k : Nat) (s : List Nat), s ∈ comb k l → ∃ s' ∈ comb k l', s.Perm s' := by
  induction h with
  | nil => intro k s hs; exact ⟨s, hs, List.Perm.refl _⟩
  | cons x _ ih =>
    intro k s hs
    cases k with
    | zero => exact ⟨s, hs, List.Perm.refl _⟩
    | succ k =>
      rw [comb, List.mem_append] at hs
      rcases hs with hs | hs
      · obtain ⟨t, ht, rfl⟩ := List.mem_map.1 hs
        obtain ⟨t', ht', hp⟩ := ih k t ht
        exact ⟨x :: t', by rw [comb, List.mem_append]; exact .inl (List.mem_map.2 ⟨t', ht', rfl⟩), hp.cons x⟩
      · obtain ⟨s', hs', hp⟩ := ih (k + 1) s hs
        exact ⟨s', by rw [comb, List.mem_append]; exact .inr hs', hp⟩
  | swap x y l =>
    intro k s hs
    cases k with
    | zero => exact ⟨s, hs, List.Perm.refl _⟩
    | succ k =>
      cases k with
      | zero =>
        simp only [comb, List.map_cons, List.map_nil, List.mem_append, List.mem_cons, List.not_mem_nil, or_false] at hs
        refine ⟨s, ?_, List.Perm.refl _⟩
        simp only [comb, List.map_cons, List.map_nil, List.mem_append, List.mem_cons, List.not_mem_nil, or_false]
        rcases hs with h | h | h
        · exact .inr (.inl h)
        · exact .inl h
        · exact .inr (.inr h)
      | succ k =>
        simp only [comb, List.map_append, List.map_map, List.mem_append] at hs
        rcases hs with (h | h) | (h | h)
        · obtain ⟨t, ht, rfl⟩ := List.mem_map.1 h
          refine ⟨x :: y :: t, ?_, List.Perm.swap x y t⟩
          simp only [comb, List.map_append, List.map_map, List.mem_append]
          exact .inl (.inl (List.mem_map.2 ⟨t, ht, rfl⟩))
        · obtain ⟨t, ht, rfl⟩ := List.mem_map.1 h
          refine ⟨y :: t, ?_, List.Perm.refl _⟩
          simp only [comb, List.map_append, List.map_map, List.mem_append]
          exact .inr (.inl (List.mem_map.2 ⟨t, ht, rfl⟩))
        · obtain ⟨t, ht, rfl⟩ := List.mem_map.1 h
          refine ⟨x :: t, ?_, List.Perm.refl _⟩
          simp only [comb, List.map_append, List.map_map, List.mem_append]
          exact .inl (.inr (List.mem_map.2 ⟨t, ht, rfl⟩))
        · refine ⟨s, ?_, List.Perm.refl _⟩
          simp only [comb, List.map_append, List.map_map, List.mem_append]
          exact .inr (.inr h)
  | trans _ _ ih1 ih2 =>
    intro k s hs
    obtain ⟨s1, h1, p1⟩ := ih1 k s hs
    obtain ⟨s2, h2, p2⟩ := ih2 k s1 h1
    exact ⟨s2, h2, p1.trans p2⟩

theorem comb_sub {l l' : List Nat} (h : l.Sublist l') : ∀ (k : Nat) (s : List Nat), s ∈ comb k l → s ∈ comb k l' := by
  induction h with
  | slnil => intro k s hs; exact hs
  | cons x _ ih =>
    intro k s hs
    cases k with
    | zero =>
      have h0 : ∀ m : List Nat, comb 0 m = [[]] := fun m => by cases m <;> rfl
      rw [h0] at hs ⊢
      exact hs
    | succ k => rw [comb, List.mem_append]; exact .inr (ih (k + 1) s hs)
  | cons_cons x _ ih =>
    intro k s hs
    cases k with
    | zero =>
      have h0 : ∀ m : List Nat, comb 0 m = [[]] := fun m => by cases m <;> rfl
      rw [h0] at hs ⊢
      exact hs
    | succ k =>
      rw [comb, List.mem_append] at hs ⊢
      rcases hs with hs | hs
      · obtain ⟨t, ht, rfl⟩ := List.mem_map.1 hs
        exact .inl (List.mem_map.2 ⟨t, ih k t ht, rfl⟩)
      · exact .inr (ih (k + 1) s hs)

theorem comb_len : ∀ (l : List Nat) (k : Nat) (s : List Nat), s ∈ comb k l → s.length = k := by
  intro l
  induction l with
  | nil => intro k s hs; cases k with
    | zero => simp [comb] at hs; subst hs; rfl
    | succ k => simp [comb] at hs
  | cons x l ih =>
    intro k s hs
    cases k with
    | zero => simp [comb] at hs; subst hs; rfl
    | succ k =>
      rw [comb, List.mem_append] at hs
      rcases hs with hs | hs
      · obtain ⟨t, ht, rfl⟩ := List.mem_map.1 hs
        rw [List.length_cons, ih k t ht]
      · exact ih (k + 1) s hs

/-- Best is the greatest, and one of the hands has it. -/
theorem best_max (hs : List (List Nat)) : (∀ h ∈ hs, (valL h : Int) ≤ (bestF hs).1) ∧ (hs ≠ [] → ∃ h ∈ hs, bestF hs = ((valL h : Int), h)) := by
  suffices ∀ (hs : List (List Nat)) (p : Int × List Nat), p.1 ≤ (hs.foldl bestS p).1 ∧ (∀ h ∈ hs, (valL h : Int) ≤ (hs.foldl bestS p).1) ∧ (hs.foldl bestS p = p ∨ ∃ h ∈ hs, hs.foldl bestS p = ((valL h : Int), h)) by
    obtain ⟨h1, h2, h3⟩ := this hs (-1, [0, 0, 0, 0, 0])
    refine ⟨h2, fun hne => ?_⟩
    rcases h3 with h3 | h3
    · exfalso
      cases hs with
      | nil => exact hne rfl
      | cons h hs =>
        have := h2 h (by simp)
        rw [h3] at this
        simp at this
        omega
    · exact h3
  intro hs
  induction hs with
  | nil => intro p; exact ⟨Int.le_refl _, (fun h hh => by simp at hh), .inl rfl⟩
  | cons h hs ih =>
    intro p
    rw [List.foldl_cons]
    obtain ⟨h1, h2, h3⟩ := ih (bestS p h)
    have h4 : p.1 ≤ (bestS p h).1 ∧ (valL h : Int) ≤ (bestS p h).1 ∧ (bestS p h = p ∨ bestS p h = ((valL h : Int), h)) := by
      unfold bestS
      split
      · exact ⟨Int.le_of_lt (by assumption), Int.le_refl _, .inr rfl⟩
      · exact ⟨Int.le_refl _, by omega, .inl rfl⟩
    refine ⟨Int.le_trans h4.1 h1, fun x hx => ?_, ?_⟩
    · rcases List.mem_cons.1 hx with rfl | hx
      · exact Int.le_trans h4.2.1 h1
      · exact h2 x hx
    · rcases h3 with h3 | ⟨x, hx, h3⟩
      · rcases h4.2.2 with h5 | h5
        · exact .inl (h3.trans h5)
        · exact .inr ⟨h, by simp, h3.trans h5⟩
      · exact .inr ⟨x, by simp [hx], h3⟩

/-- If each hand of the one has a like one among the other, the other's best is no less. -/
theorem best_le {hs hs' : List (List Nat)} (hne : hs ≠ []) (h : ∀ x ∈ hs, ∃ y ∈ hs', valL x = valL y) : (bestF hs).1 ≤ (bestF hs').1 := by
  obtain ⟨x, hx, e⟩ := (best_max hs).2 hne
  obtain ⟨y, hy, ev⟩ := h x hx
  rw [e]
  show (valL x : Int) ≤ _
  rw [ev]
  exact (best_max hs').1 y hy

end Go.Proofs.Ytdhacmcdbpojlaa
