/-
  How the table of least costs is found: a place that has become nearer is looked at again. No conditions beyond those that each theorem bears.
-/
import Derived.Test.YtldgikinmmkhiaaDoorSh0
namespace Go.Proofs.YtldgikinmmkhiaaDoor

/-- A place is reached with so many signs. -/
def rch (Z : List Int) (m : Nat) (T RL : List Nat) (q c : Nat) : List Nat × List Nat :=
  if pas Z m q ∧ c + cst Z q < T.getD q 0 then (T.set q (c + cst Z q), RL ++ [q]) else (T, RL)

theorem getD_set_same {T : List Nat} {q x : Nat} (h : q < T.length) : (T.set q x).getD q 0 = x := by simp [List.getD, h]
theorem getD_set_ne' {T : List Nat} {q p x : Nat} (h : p ≠ q) : (T.set q x).getD p 0 = T.getD p 0 := by simp [List.getD, h.symm]

theorem sum_set : ∀ {T : List Nat} {q x : Nat}, q < T.length → (T.set q x).sum + T.getD q 0 = T.sum + x
  | [], q, x, h => by simp at h
  | t :: T, 0, x, _ => by simp; omega
  | t :: T, q + 1, x, h => by
    have := sum_set (T := T) (q := q) (x := x) (by simpa using h)
    simp [List.getD] at this ⊢
    omega

/-- What holds of the table and of the list of places reached. -/
structure St (n : Nat) (Z : List Int) (m : Nat) (T RL : List Nat) : Prop where
  len : T.length = n * n
  le : ∀ q, q < n * n → T.getD q 0 ≤ 101
  snd : ∀ q, q < n * n → T.getD q 0 ≤ 100 → Wc n Z m q (T.getD q 0)
  rl : ∀ p ∈ RL, p < n * n
  bd : RL.length + T.sum ≤ 101 * (n * n)
  r100 : ∀ p ∈ RL, T.getD p 0 ≤ 100

theorem St.begin (n : Nat) (Z : List Int) (m : Nat) : St n Z m (List.replicate (n * n) 101) [] := by
  refine ⟨by simp, fun q hq => ?_, fun q hq h => ?_, (fun p hp => by cases hp), ?_, (fun p hp => by cases hp)⟩
  · simp [List.getD, hq]
  · simp [List.getD, hq] at h
  · simp [Nat.mul_comm]

/-- What becomes of it. -/
structure Rch (n : Nat) (Z : List Int) (m : Nat) (T RL T' RL' : List Nat) (q c : Nat) : Prop where
  st : St n Z m T' RL'
  mono : ∀ p, T'.getD p 0 ≤ T.getD p 0
  other : ∀ p, p ≠ q → T'.getD p 0 = T.getD p 0
  near : pas Z m q → T'.getD q 0 ≤ c + cst Z q
  new : T'.getD q 0 = T.getD q 0 ∨ q ∈ RL'.drop RL.length
  pre : RL <+: RL'
  sum : RL'.length + T'.sum ≤ RL.length + T.sum

theorem St.reach {n : Nat} {Z : List Int} {m : Nat} {T RL : List Nat} (h : St n Z m T RL) {q c : Nat} (hq : q < n * n) (hc : pas Z m q → Wc n Z m q (c + cst Z q)) : Rch n Z m T RL (rch Z m T RL q c).1 (rch Z m T RL q c).2 q c := by
  unfold rch
  by_cases hh : pas Z m q ∧ c + cst Z q < T.getD q 0
  · rw [if_pos hh]
    have hql : q < T.length := by rw [h.len]; exact hq
    have hle := h.le q hq
    have hsum := sum_set (x := c + cst Z q) hql
    refine ⟨⟨by simp [h.len], fun p hp => ?_, fun p hp hp2 => ?_, fun p hp => ?_, ?_, fun p hp => ?_⟩, fun p => ?_, fun p hp => getD_set_ne' hp, fun _ => ?_, ?_, List.prefix_append _ _, ?_⟩
    · by_cases e : p = q
      · subst e; rw [getD_set_same hql]; omega
      · rw [getD_set_ne' e]; exact h.le p hp
    · by_cases e : p = q
      · subst e; rw [getD_set_same hql]; exact hc hh.1
      · rw [getD_set_ne' e] at hp2 ⊢; exact h.snd p hp hp2
    · rcases List.mem_append.1 hp with hp | hp
      · exact h.rl p hp
      · rw [List.mem_singleton.1 hp]; exact hq
    · have := h.bd
      simp
      omega
    · rcases List.mem_append.1 hp with hp | hp
      · by_cases e : p = q
        · subst e; rw [getD_set_same hql]; omega
        · rw [getD_set_ne' e]; exact h.r100 p hp
      · rw [List.mem_singleton.1 hp, getD_set_same hql]; omega
    · by_cases e : p = q
      · subst e; rw [getD_set_same hql]; omega
      · rw [getD_set_ne' e]; exact Nat.le_refl _
    · rw [getD_set_same hql]; exact Nat.le_refl _
    · right; simp
    · simp; omega
  · rw [if_neg hh]
    refine ⟨h, fun p => Nat.le_refl _, fun p _ => rfl, fun hp => ?_, Or.inl rfl, List.prefix_refl _, Nat.le_refl _⟩
    have : ¬ c + cst Z q < T.getD q 0 := fun h2 => hh ⟨hp, h2⟩
    show T.getD q 0 ≤ _
    omega

/-- From the place on nothing becomes nearer. -/
def rlx (n : Nat) (Z : List Int) (m : Nat) (T : List Nat) (p : Nat) : Prop := ∀ q ∈ nbs n p, pas Z m q → T.getD q 0 ≤ T.getD p 0 + cst Z q

/-- From each place on that is near nothing becomes nearer, or it will be looked at. -/
def Cl (n : Nat) (Z : List Int) (m : Nat) (T RL : List Nat) (i : Nat) : Prop := ∀ p, p < n * n → T.getD p 0 ≤ 100 → p ∈ RL.drop i ∨ rlx n Z m T p

/-- The first side has been reached, up to j. -/
def Sd (n : Nat) (Z : List Int) (m : Nat) (T : List Nat) (j : Nat) : Prop := ∀ q, q < j → ln n m q = 0 → pas Z m q → T.getD q 0 ≤ cst Z q

theorem mem_drop_prefix {RL RL' : List Nat} {i p : Nat} (h : RL <+: RL') (hp : p ∈ RL.drop i) : p ∈ RL'.drop i := by
  obtain ⟨t, rfl⟩ := h
  rw [List.drop_append]
  exact List.mem_append_left _ hp

theorem mem_drop_more {RL' : List Nat} {i k p : Nat} (hi : i ≤ k) (hp : p ∈ RL'.drop k) : p ∈ RL'.drop i := by
  obtain ⟨d, rfl⟩ := Nat.le.dest hi
  rw [← List.drop_drop] at hp
  exact List.mem_of_mem_drop hp

theorem Cl.begin (n : Nat) (Z : List Int) (m : Nat) : Cl n Z m (List.replicate (n * n) 101) [] 0 := fun p hp h => by simp [List.getD, hp] at h

/-- Reaching keeps what holds. -/
theorem Cl.reach {n : Nat} {Z : List Int} {m : Nat} {T RL T' RL' : List Nat} {q c i : Nat} (h : Cl n Z m T RL i) (hi : i ≤ RL.length) (hr : Rch n Z m T RL T' RL' q c) : Cl n Z m T' RL' i := by
  intro p hp h100
  by_cases e : T'.getD p 0 = T.getD p 0
  · rcases h p hp (by omega) with h1 | h1
    · exact Or.inl (mem_drop_prefix hr.pre h1)
    · exact Or.inr fun r hr1 hr2 => by rw [e]; exact Nat.le_trans (hr.mono r) (h1 r hr1 hr2)
  · have : p = q := Classical.byContradiction fun hne => e (hr.other p hne)
    subst this
    rcases hr.new with h1 | h1
    · exact absurd h1 e
    · exact Or.inl (mem_drop_more hi h1)

theorem Sd.reach {n : Nat} {Z : List Int} {m : Nat} {T RL T' RL' : List Nat} {q c j : Nat} (h : Sd n Z m T j) (hr : Rch n Z m T RL T' RL' q c) : Sd n Z m T' j := fun p hp h1 h2 => Nat.le_trans (hr.mono p) (h p hp h1 h2)

/-- While the neighbours of x are reached. -/
structure Rg (n : Nat) (Z : List Int) (m : Nat) (T RL : List Nat) (i x : Nat) (pre : List Nat) (T' RL' : List Nat) : Prop where
  st : St n Z m T' RL'
  pr : RL <+: RL'
  tx : T'.getD x 0 = T.getD x 0
  dn : ∀ r ∈ pre, pas Z m r → T'.getD r 0 ≤ T.getD x 0 + cst Z r
  cl : ∀ p, p < n * n → p ≠ x → T'.getD p 0 ≤ 100 → p ∈ RL'.drop (i + 1) ∨ rlx n Z m T' p
  sd : Sd n Z m T' (n * n)
  sum : RL'.length + T'.sum ≤ RL.length + T.sum

theorem Rg.begin {n : Nat} {Z : List Int} {m : Nat} {T RL : List Nat} {i x : Nat} (h : St n Z m T RL) (hc : Cl n Z m T RL i) (hs : Sd n Z m T (n * n)) (hi : i < RL.length) (hx : RL.getD i 0 = x) : Rg n Z m T RL i x [] T RL := by
  refine ⟨h, List.prefix_refl _, rfl, (fun r hr => by cases hr), fun p hp hne h1 => ?_, hs, Nat.le_refl _⟩
  rcases hc p hp h1 with h2 | h2
  · left
    rw [List.drop_eq_getElem_cons hi] at h2
    rcases List.mem_cons.1 h2 with e | h2
    · simp [List.getD, hi] at hx
      exact absurd (e.trans hx) hne
    · exact h2
  · exact Or.inr h2

theorem Rg.step {n : Nat} {Z : List Int} {m : Nat} {T RL : List Nat} {i x : Nat} {pre T' RL' T2 RL2 : List Nat} {r : Nat} (h : Rg n Z m T RL i x pre T' RL') (hi : i < RL.length) (hr : r ∈ nbs n x) (hh : Rch n Z m T' RL' T2 RL2 r (T.getD x 0)) : Rg n Z m T RL i x (pre ++ [r]) T2 RL2 := by
  refine ⟨hh.st, h.pr.trans hh.pre, (hh.other x (nbs_ne hr).symm).trans h.tx, fun s hs hp => ?_, fun p hp hne h1 => ?_, h.sd.reach hh, Nat.le_trans hh.sum h.sum⟩
  · rcases List.mem_append.1 hs with hs | hs
    · exact Nat.le_trans (hh.mono s) (h.dn s hs hp)
    · rw [List.mem_singleton.1 hs] at hp ⊢; exact hh.near hp
  · by_cases e : T2.getD p 0 = T'.getD p 0
    · rcases h.cl p hp hne (by omega) with h2 | h2
      · exact Or.inl (mem_drop_prefix hh.pre h2)
      · exact Or.inr fun q hq1 hq2 => by rw [e]; exact Nat.le_trans (hh.mono q) (h2 q hq1 hq2)
    · have : p = r := Classical.byContradiction fun hne => e (hh.other p hne)
      subst this
      rcases hh.new with h2 | h2
      · exact absurd h2 e
      · refine Or.inl (mem_drop_more ?_ h2)
        have := h.pr.length_le
        omega

theorem Rg.done {n : Nat} {Z : List Int} {m : Nat} {T RL : List Nat} {i x : Nat} {T' RL' : List Nat} (h : Rg n Z m T RL i x (nbs n x) T' RL') : Cl n Z m T' RL' (i + 1) := by
  intro p hp h1
  by_cases e : p = x
  · subst e
    right
    intro q hq hps
    rw [h.tx]
    exact h.dn q hq hps
  · exact h.cl p hp e h1

/-- At the end the table tells the least costs. -/
theorem Cl.least {n : Nat} {Z : List Int} {m : Nat} {T RL : List Nat} (hS : St n Z m T RL) (hc : Cl n Z m T RL RL.length) (hs : Sd n Z m T (n * n)) {q c : Nat} (h : Wc n Z m q c) : T.getD q 0 ≤ c := by
  induction h with
  | @start q h1 h2 h3 => exact hs q h1 h2 h3
  | @step p c q hp hq hps ih =>
    by_cases h100 : T.getD p 0 ≤ 100
    · rcases hc p hp.lt h100 with h1 | h1
      · simp at h1
      · have := h1 q hq hps
        omega
    · have := hS.le q (nbs_lt hq)
      have := hS.le p hp.lt
      omega

/-- The least of the table at the last side. -/
def Mn (n m : Nat) (T : List Nat) (k : Nat) (b : Nat) : Prop := b ≤ 101 ∧ (∀ q, q < k → ln n m q + 1 = n → b ≤ T.getD q 0) ∧ (b = 101 ∨ ∃ q, q < k ∧ ln n m q + 1 = n ∧ b = T.getD q 0)

theorem Mn.begin (n m : Nat) (T : List Nat) : Mn n m T 0 101 := ⟨Nat.le_refl _, fun q hq => absurd hq (by omega), Or.inl rfl⟩
theorem Mn.skip {n m : Nat} {T : List Nat} {k b : Nat} (h : Mn n m T k b) (hk : ln n m k + 1 ≠ n) : Mn n m T (k + 1) b := by
  refine ⟨h.1, fun q hq hl => ?_, ?_⟩
  · by_cases e : q = k
    · subst e; exact absurd hl hk
    · exact h.2.1 q (by omega) hl
  · rcases h.2.2 with e | ⟨q, h1, h2⟩
    · exact Or.inl e
    · exact Or.inr ⟨q, by omega, h2⟩
theorem Mn.take {n m : Nat} {T : List Nat} {k b : Nat} (h : Mn n m T k b) (hk : ln n m k + 1 = n) (hT : T.getD k 0 ≤ 101) : Mn n m T (k + 1) (min b (T.getD k 0)) := by
  have hb := h.1
  refine ⟨by omega, fun q hq hl => ?_, ?_⟩
  · by_cases e : q = k
    · subst e; exact Nat.min_le_right _ _
    · exact Nat.le_trans (Nat.min_le_left _ _) (h.2.1 q (by omega) hl)
  · by_cases e : b ≤ T.getD k 0
    · rw [Nat.min_eq_left e]
      rcases h.2.2 with e | ⟨q, h1, h2⟩
      · exact Or.inl e
      · exact Or.inr ⟨q, by omega, h2⟩
    · rw [Nat.min_eq_right (by omega)]
      exact Or.inr ⟨k, by omega, hk, rfl⟩

theorem Mn.shr {n m : Nat} (hn : n * n ≤ 100) {Z : List Int} {T : List Nat} {b : Nat} (h : Mn n m T (n * n) b) (hs : ∀ q, q < n * n → T.getD q 0 ≤ 100 → Wc n Z m q (T.getD q 0)) (hl : ∀ q c, Wc n Z m q c → T.getD q 0 ≤ c) : ShR n Z m (if b = 101 then -1 else (b : Int)) := by
  by_cases e : b = 101
  · rw [if_pos e]
    refine Or.inl ⟨rfl, fun q c hw hln => ?_⟩
    obtain ⟨c', h1, h2⟩ := Wc.bound q c hw
    have := hl q c' h2
    have := h.2.1 q hw.lt hln
    omega
  · rw [if_neg e]
    rcases h.2.2 with e2 | ⟨q, h1, h2, h3⟩
    · exact absurd e2 e
    · have := h.1
      refine Or.inr ⟨q, b, rfl, by rw [h3]; exact hs q h1 (by omega), h2, fun q' c' hw hln => ?_⟩
      exact Nat.le_trans (h.2.1 q' hw.lt hln) (hl q' c' hw)

end Go.Proofs.YtldgikinmmkhiaaDoor
