/-
  What comes of hex, as mathematics: the shortest way is 0 just if the player has joined its sides, there is none just if the other has; a sign more makes it by one shorter at most. No conditions beyond those that each theorem bears.
-/
import Derived.Test.YtldgikinmmkhiaaDoorSr
namespace Go.Proofs.YtldgikinmmkhiaaDoor

/-- Signs of a board. -/
def Sgn (n : Nat) (Z : List Int) : Prop := ∀ q, q < n * n → Z.getD q 0 = 0 ∨ Z.getD q 0 = 1 ∨ Z.getD q 0 = 2

theorem shr_zero {n m : Nat} {Z : List Int} (hm : m = 1 ∨ m = 2) (hZ : Sgn n Z) : shr n Z m = 0 ↔ hasJ n Z m := by
  constructor
  · intro h
    have hs := shr_spec n Z m
    rw [h] at hs
    rcases hs with ⟨e, _⟩ | ⟨q, c, e, h1, h2, _⟩
    · omega
    · obtain ⟨a, ha, hw⟩ := h1.zero hm hZ (by omega)
      exact ⟨a, q, ha, h2, hw⟩
  · rintro ⟨a, b, h1, h2, h3⟩
    exact shr_eq (Or.inr ⟨b, 0, rfl, Wk.zero hm h1 h3, h2, fun _ _ _ _ => Nat.zero_le _⟩)

theorem shr_none {n m : Nat} {Z : List Int} (hn : 1 ≤ n) (hm : m = 1 ∨ m = 2) : shr n Z m = -1 ↔ hasJ n Z (3 - m) := by
  have key : (∀ q c, Wc n Z m q c → ln n m q + 1 ≠ n) ↔ hasJ n Z (3 - m) := by
    have h := hex_m hn hm (pas Z m)
    have e1 : Jp n m (pas Z m) ↔ ∃ q c, Wc n Z m q c ∧ ln n m q + 1 = n := by
      constructor
      · rintro ⟨a, b, h1, h2, h3⟩
        obtain ⟨c, hc⟩ := Wk.wc h1 h3
        exact ⟨b, c, hc, h2⟩
      · rintro ⟨q, c, h1, h2⟩
        obtain ⟨a, h3, h4⟩ := h1.wk
        exact ⟨a, q, h3, h2, h4⟩
    have e2 : Jp n (3 - m) (fun p => ¬ pas Z m p) ↔ hasJ n Z (3 - m) := by
      have e : (fun p => ¬ pas Z m p) = sg Z ((3 - m : Nat) : Int) := by
        funext p
        unfold pas sg
        exact propext Classical.not_not
      rw [e]
      exact Iff.rfl
    rw [← e2, ← Classical.not_not (a := Jp n (3 - m) _), ← h, e1]
    constructor
    · rintro h1 ⟨q, c, h2, h3⟩; exact h1 q c h2 h3
    · intro h1 q c h2 h3; exact h1 ⟨q, c, h2, h3⟩
  rw [← key]
  constructor
  · intro h
    have hs := shr_spec n Z m
    rw [h] at hs
    rcases hs with ⟨_, h1⟩ | ⟨q, c, e, _⟩
    · exact h1
    · omega
  · intro h
    exact shr_eq (Or.inl ⟨rfl, h⟩)

/-- Never do both. -/
theorem not_both {n m : Nat} {Z : List Int} (hn : 1 ≤ n) (hm : m = 1 ∨ m = 2) (hZ : Sgn n Z) (h : hasJ n Z m) : ¬ hasJ n Z (3 - m) := by
  intro k
  have h1 := (shr_zero hm hZ).2 h
  have h2 := (shr_none hn hm).2 k
  omega

theorem jw_iff {n m : Nat} {Z : List Int} (hn : 1 ≤ n) (hm : m = 1 ∨ m = 2) (hZ : Sgn n Z) : jw n Z = m ↔ hasJ n Z m := by
  have h1 := hasJ_iff (n := n) (Z := Z) (m := 1)
  have h2 := hasJ_iff (n := n) (Z := Z) (m := 2)
  have hb := not_both hn (m := 1) (Or.inl rfl) hZ
  by_cases a : pls n (jnP n Z 1) = []
  · have na : ¬ hasJ n Z 1 := fun h => h1.2 h a
    by_cases b : pls n (jnP n Z 2) = []
    · have nb : ¬ hasJ n Z 2 := fun h => h2.2 h b
      rw [(jw_none a b).1]
      rcases hm with rfl | rfl
      · exact ⟨fun h => absurd h (by omega), fun h => absurd h na⟩
      · exact ⟨fun h => absurd h (by omega), fun h => absurd h nb⟩
    · rw [(jw_second a b).1]
      rcases hm with rfl | rfl
      · exact ⟨fun h => absurd h (by omega), fun h => absurd h na⟩
      · exact ⟨fun _ => h2.1 b, fun _ => rfl⟩
  · rw [(jw_first a).1]
    rcases hm with rfl | rfl
    · exact ⟨fun _ => h1.1 a, fun _ => rfl⟩
    · exact ⟨fun h => absurd h (by omega), fun h => absurd h (hb (h1.1 a))⟩

theorem jl_jw {n m : Nat} {Z : List Int} (hm : m = 1 ∨ m = 2) (h : jw n Z = m) : jl n Z = pls n (jnP n Z m) := by
  by_cases a : pls n (jnP n Z 1) = []
  · by_cases b : pls n (jnP n Z 2) = []
    · rw [(jw_none a b).1] at h; omega
    · have e := jw_second a b
      rw [e.1] at h
      subst h
      exact e.2
  · have e := jw_first a
    rw [e.1] at h
    subst h
    exact e.2

/-- On a full board just one has joined its sides. -/
theorem full_one {n : Nat} {Z : List Int} (hn : 1 ≤ n) (hZ : ∀ q, q < n * n → Z.getD q 0 = 1 ∨ Z.getD q 0 = 2) : ∃ m, (m = 1 ∨ m = 2) ∧ jw n Z = m ∧ n ≤ (jl n Z).length ∧ shr n Z m = 0 ∧ shr n Z (3 - m) = -1 := by
  have hs : Sgn n Z := fun q hq => Or.inr (hZ q hq)
  have key : hasJ n Z 1 ∨ hasJ n Z 2 := by
    have h := hex_m hn (m := 1) (Or.inl rfl) (sg Z 1)
    by_cases h1 : hasJ n Z 1
    · exact Or.inl h1
    · right
      have : Jp n (3 - 1) (fun p => ¬ sg Z 1 p) := Classical.byContradiction fun h2 => h1 (h.2 h2)
      refine Jp.mono ?_ this
      intro q hq hne
      rcases hZ q hq with e | e
      · exact absurd e hne
      · exact e
  have fin : ∀ m, (m = 1 ∨ m = 2) → hasJ n Z m → ∃ m, (m = 1 ∨ m = 2) ∧ jw n Z = m ∧ n ≤ (jl n Z).length ∧ shr n Z m = 0 ∧ shr n Z (3 - m) = -1 := by
    intro m hm h
    have e := (jw_iff hn hm hs).2 h
    refine ⟨m, hm, e, ?_, (shr_zero hm hs).2 h, (shr_none hn (by omega)).2 ?_⟩
    · rw [jl_jw hm e]; exact jl_long h
    · rw [show 3 - (3 - m) = m by omega]; exact h
  rcases key with h | h
  · exact fin 1 (Or.inl rfl) h
  · exact fin 2 (Or.inr rfl) h

theorem getD_setI {Z : List Int} {k q : Nat} {x : Int} (hk : k < Z.length) : (Z.set k x).getD q 0 = if q = k then x else Z.getD q 0 := by
  by_cases e : q = k
  · subst e; simp [List.getD, hk]
  · have e' : ¬ k = q := fun h => e h.symm
    rw [if_neg e]; simp [List.getD, e']

/-- With a sign more. -/
theorem Wc.more {n m k : Nat} {Z : List Int} (hm : m = 1 ∨ m = 2) (hk : k < Z.length) {q c : Nat} (h : Wc n Z m q c) : ∃ c', c' ≤ c ∧ Wc n (Z.set k m) m q c' := by
  have ps : ∀ q, pas Z m q → pas (Z.set k m) m q := by
    intro q hq
    unfold pas at *
    rw [getD_setI hk]
    split
    · omega
    · exact hq
  have cs : ∀ q, cst (Z.set k m) q ≤ cst Z q := by
    intro q
    unfold cst
    rw [getD_setI hk]
    by_cases e : q = k
    · rw [if_pos e, if_neg (by omega)]; omega
    · rw [if_neg e]; exact Nat.le_refl _
  induction h with
  | @start q h1 h2 h3 => exact ⟨_, cs q, .start h1 h2 (ps q h3)⟩
  | @step p c q _ h1 h2 ih =>
    obtain ⟨c', h3, h4⟩ := ih
    exact ⟨_, Nat.add_le_add h3 (cs q), .step h4 h1 (ps q h2)⟩

theorem Wc.less {n m k : Nat} {Z : List Int} (hk : k < Z.length) (hz : Z.getD k 0 = 0) (hm : m = 1 ∨ m = 2) {q c : Nat} (h : Wc n (Z.set k m) m q c) : Wc n Z m q c ∨ ((∃ c', c' ≤ c + 1 ∧ Wc n Z m q c') ∧ ∃ c', c' ≤ c + 1 ∧ Wc n Z m k c') := by
  have ps : ∀ q, pas (Z.set k m) m q → pas Z m q := by
    intro q hq
    unfold pas at *
    rw [getD_setI hk] at hq
    by_cases e : q = k
    · subst e; rw [hz]; omega
    · rw [if_neg e] at hq; exact hq
  have cn : ∀ q, q ≠ k → cst (Z.set k m) q = cst Z q := by
    intro q e
    unfold cst
    rw [getD_setI hk, if_neg e]
  have c1 : cst Z k = 1 := by unfold cst; rw [if_pos hz]
  have c0 : cst (Z.set k m) k = 0 := by unfold cst; rw [getD_setI hk, if_pos rfl, if_neg (by omega)]
  induction h with
  | @start q h1 h2 h3 =>
    by_cases e : q = k
    · subst e
      right
      have := Wc.start (Z := Z) h1 h2 (ps q h3)
      rw [c1] at this
      rw [c0]
      exact ⟨⟨1, by omega, this⟩, 1, by omega, this⟩
    · left
      rw [cn q e]
      exact .start h1 h2 (ps q h3)
  | @step p c q _ h1 h2 ih =>
    by_cases e : q = k
    · subst e
      right
      rw [c0]
      rcases ih with h | ⟨_, h⟩
      · have := Wc.step h h1 (ps q h2)
        rw [c1] at this
        exact ⟨⟨_, Nat.le_refl _, this⟩, _, Nat.le_refl _, this⟩
      · exact ⟨h, h⟩
    · rw [cn q e]
      rcases ih with h | ⟨⟨c', h3, h4⟩, c'', h5, h6⟩
      · exact Or.inl (.step h h1 (ps q h2))
      · exact Or.inr ⟨⟨_, by omega, .step h4 h1 (ps q h2)⟩, c'', by omega, h6⟩

theorem shr_set {n m k : Nat} {Z : List Int} (hk : k < Z.length) (hz : Z.getD k 0 = 0) (hm : m = 1 ∨ m = 2) (h1 : 1 ≤ shr n Z m) : shr n (Z.set k m) m = shr n Z m ∨ shr n (Z.set k m) m = shr n Z m - 1 := by
  have hs := shr_spec n Z m
  have ht := shr_spec n (Z.set k m) m
  rcases hs with ⟨e, _⟩ | ⟨q, c, e, k1, k2, k3⟩
  · omega
  · obtain ⟨c', l1, l2⟩ := k1.more hm hk
    rcases ht with ⟨_, t1⟩ | ⟨p, d, e2, t1, t2, t3⟩
    · exact absurd k2 (t1 q c' l2)
    · have a1 := t3 q c' l2 k2
      have a2 : c ≤ d + 1 := by
        rcases t1.less hk hz hm with h | ⟨⟨d', h3, h4⟩, _⟩
        · have := k3 p d h t2
          omega
        · have := k3 p d' h4 t2
          omega
      omega

/-- On an empty board the shortest way of the first player has a place in each row. -/
theorem shr_empty {n : Nat} {Z : List Int} (hn : 1 ≤ n) (hZ : ∀ q, q < n * n → Z.getD q 0 = 0) : shr n Z 1 = n := by
  have cs : ∀ q, q < n * n → cst Z q = 1 := fun q hq => by unfold cst; rw [if_pos (hZ q hq)]
  have ps : ∀ q, q < n * n → pas Z 1 q := fun q hq => by unfold pas; rw [hZ q hq]; omega
  have low : ∀ q c, Wc n Z 1 q c → ln n 1 q + 1 ≤ c := by
    intro q c h
    induction h with
    | @start q h1 h2 h3 => rw [cs q h1]; omega
    | @step p c q hp h1 h2 ih =>
      rw [cs q (nbs_lt h1)]
      have hadj := (nbs_iff.1 h1).2
      have : ln n 1 q ≤ ln n 1 p + 1 := by
        unfold ln
        unfold adj at hadj
        simp only [if_true]
        omega
      omega
  have way : ∀ k, k < n → Wc n Z 1 (k * n) (k + 1) := by
    intro k
    induction k with
    | zero =>
      intro _
      have hl : 0 * n < n * n := by rw [Nat.zero_mul]; exact Nat.mul_pos (by omega) (by omega)
      have := Wc.start (n := n) (Z := Z) (m := 1) (q := 0 * n) hl (by unfold ln; simp) (ps _ hl)
      rw [cs _ hl] at this
      exact this
    | succ k ih =>
      intro hk
      have p1 := place_of (n := n) (x := 0) (y := k) (by omega) (by omega)
      have p2 := place_of (n := n) (x := 0) (y := k + 1) (by omega) hk
      rw [Nat.add_zero] at p1 p2
      have hnb : (k + 1) * n ∈ nbs n (k * n) := by
        rw [nbs_iff]
        refine ⟨p2.1, ?_⟩
        rw [p1.2.1, p1.2.2, p2.2.1, p2.2.2]
        unfold adj
        omega
      have := Wc.step (ih (by omega)) hnb (ps _ p2.1)
      rw [cs _ p2.1] at this
      exact this
  have hw := way (n - 1) (by omega)
  rw [show n - 1 + 1 = n by omega] at hw
  refine shr_eq (Or.inr ⟨_, n, rfl, hw, ?_, fun q' c' h1 h2 => ?_⟩)
  · have p1 := place_of (n := n) (x := 0) (y := n - 1) (by omega) (by omega)
    rw [Nat.add_zero] at p1
    unfold ln
    rw [if_pos rfl, p1.2.2]
    omega
  · have := low q' c' h1
    omega

end Go.Proofs.YtldgikinmmkhiaaDoor
