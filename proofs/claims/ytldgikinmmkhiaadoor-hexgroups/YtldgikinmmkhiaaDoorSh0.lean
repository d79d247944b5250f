/-
  Ways from a player's first side, counted by the places that are still empty; the least of them; what is found by going on from places that have become nearer. No conditions beyond those that each theorem bears.
-/
import Derived.Test.YtldgikinmmkhiaaDoorJd0
namespace Go.Proofs.YtldgikinmmkhiaaDoor

/-- How many signs a place costs. -/
def cst (Z : List Int) (q : Nat) : Nat := if Z.getD q 0 = 0 then 1 else 0
/-- The place is not the other's. -/
def pas (Z : List Int) (m q : Nat) : Prop := Z.getD q 0 ≠ ((3 - m : Nat) : Int)
instance (Z : List Int) (m q : Nat) : Decidable (pas Z m q) := by unfold pas; infer_instance

theorem cst_le (Z : List Int) (q : Nat) : cst Z q ≤ 1 := by unfold cst; split <;> omega

/-- A way from the first side to a place costs so much. -/
inductive Wc (n : Nat) (Z : List Int) (m : Nat) : Nat → Nat → Prop
  | start {q : Nat} : q < n * n → ln n m q = 0 → pas Z m q → Wc n Z m q (cst Z q)
  | step {p c q : Nat} : Wc n Z m p c → q ∈ nbs n p → pas Z m q → Wc n Z m q (c + cst Z q)

theorem Wc.lt {n : Nat} {Z : List Int} {m q c : Nat} (h : Wc n Z m q c) : q < n * n := by
  cases h with
  | start h _ _ => exact h
  | step _ h _ => exact nbs_lt h

theorem Wc.psd {n : Nat} {Z : List Int} {m q c : Nat} (h : Wc n Z m q c) : pas Z m q := by
  cases h with
  | start _ _ h => exact h
  | step _ _ h => exact h

/-- Such a way is a way along neighbours. -/
theorem Wc.wk {n : Nat} {Z : List Int} {m q c : Nat} (h : Wc n Z m q c) : ∃ a, ln n m a = 0 ∧ Wk n (pas Z m) a q := by
  induction h with
  | @start q h1 h2 h3 => exact ⟨q, h2, .refl h1 h3⟩
  | step _ h1 h2 ih => obtain ⟨a, h3, h4⟩ := ih; exact ⟨a, h3, .step h4 h1 h2⟩

theorem Wk.wc {n : Nat} {Z : List Int} {m a q : Nat} (ha : ln n m a = 0) (h : Wk n (pas Z m) a q) : ∃ c, Wc n Z m q c := by
  induction h with
  | refl h1 h2 => exact ⟨_, .start h1 ha h2⟩
  | step _ h1 h2 ih => obtain ⟨c, hc⟩ := ih; exact ⟨_, .step hc h1 h2⟩

/-- Ways that cost nothing go along signs of one's own. -/
theorem Wc.zero {n : Nat} {Z : List Int} {m q c : Nat} (hm : m = 1 ∨ m = 2) (hZ : ∀ q, q < n * n → Z.getD q 0 = 0 ∨ Z.getD q 0 = 1 ∨ Z.getD q 0 = 2) (h : Wc n Z m q c) (hc : c = 0) : ∃ a, ln n m a = 0 ∧ Wk n (sg Z m) a q := by
  have own : ∀ q, q < n * n → pas Z m q → cst Z q = 0 → sg Z m q := by
    intro q hq hp h0
    unfold cst at h0
    unfold pas at hp
    unfold sg
    split at h0
    · omega
    · rcases hm with rfl | rfl <;> rcases hZ q hq with e | e | e <;> simp_all
  induction h with
  | @start q h1 h2 h3 => exact ⟨q, h2, .refl h1 (own q h1 h3 (by omega))⟩
  | @step p c q _ h1 h2 ih =>
    obtain ⟨a, h3, h4⟩ := ih (by omega)
    exact ⟨a, h3, .step h4 h1 (own q (nbs_lt h1) h2 (by omega))⟩

theorem Wk.zero {n : Nat} {Z : List Int} {m a q : Nat} (hm : m = 1 ∨ m = 2) (ha : ln n m a = 0) (h : Wk n (sg Z m) a q) : Wc n Z m q 0 := by
  have own : ∀ q, sg Z m q → pas Z m q ∧ cst Z q = 0 := by
    intro q hs
    unfold sg at hs
    unfold pas cst
    rw [hs]
    rcases hm with rfl | rfl <;> simp
  induction h with
  | refl h1 h2 =>
    have := Wc.start (m := m) h1 ha (own _ h2).1
    rw [(own _ h2).2] at this
    exact this
  | step _ h1 h2 ih =>
    have := Wc.step ih h1 (own _ h2).1
    rw [(own _ h2).2] at this
    exact this

theorem filter_lt {α : Type} {p q : α → Bool} : ∀ {l : List α}, (∀ x ∈ l, p x = true → q x = true) → (∃ x ∈ l, q x = true ∧ p x = false) → (l.filter p).length < (l.filter q).length
  | [], _, h => by obtain ⟨x, hx, _⟩ := h; cases hx
  | y :: l, hs, h => by
    have hle : ∀ {l : List α}, (∀ x ∈ l, p x = true → q x = true) → (l.filter p).length ≤ (l.filter q).length := by
      intro l
      induction l with
      | nil => intro _; exact Nat.le_refl _
      | cons z l ih =>
        intro hs
        have := ih (fun x hx => hs x (List.mem_cons_of_mem _ hx))
        have hz := hs z (by simp)
        cases hp : p z with
        | true => simp [hp, hz hp]; omega
        | false => cases hq : q z <;> simp [hp, hq] <;> omega
    have h1 := hle (l := l) (fun x hx => hs x (List.mem_cons_of_mem _ hx))
    obtain ⟨x, hx, hqx, hpx⟩ := h
    rcases List.mem_cons.1 hx with rfl | hx
    · simp [hqx, hpx]; omega
    · have ih := filter_lt (l := l) (fun x hx => hs x (List.mem_cons_of_mem _ hx)) ⟨x, hx, hqx, hpx⟩
      have hy := hs y (by simp)
      cases hp : p y with
      | true => simp [hp, hy hp]; omega
      | false => cases hq : q y <;> simp [hp, hq] <;> omega

open Classical in
/-- The least cost is at most the number of places. -/
theorem Wc.bound {n : Nat} {Z : List Int} {m : Nat} : ∀ q c, Wc n Z m q c → ∃ c', c' ≤ n * n ∧ Wc n Z m q c' := by
  have key : ∀ k, 1 ≤ k → (∀ q c, Wc n Z m q c → ∃ c', c' ≤ k ∧ Wc n Z m q c') ∨ k ≤ ((List.range (n * n)).filter fun q => decide (∃ c, c ≤ k ∧ Wc n Z m q c)).length := by
    intro k hk
    induction k with
    | zero => omega
    | succ k ih =>
      by_cases hk0 : k = 0
      · subst hk0
        by_cases he : ∃ q c, Wc n Z m q c
        · right
          obtain ⟨q, c, h⟩ := he
          have : ∃ q, Wc n Z m q (cst Z q) := by
            induction h with
            | @start q h1 h2 h3 => exact ⟨q, .start h1 h2 h3⟩
            | step _ _ _ ih => exact ih
          obtain ⟨q, hq⟩ := this
          have hm : q ∈ (List.range (n * n)).filter fun q => decide (∃ c, c ≤ 0 + 1 ∧ Wc n Z m q c) := by
            rw [List.mem_filter, List.mem_range]
            exact ⟨hq.lt, decide_eq_true ⟨_, cst_le Z q, hq⟩⟩
          exact List.length_pos_of_mem hm
        · left
          exact fun q c h => absurd ⟨q, c, h⟩ he
      · rcases ih (by omega) with h | h
        · left
          intro q c hc
          obtain ⟨c', h1, h2⟩ := h q c hc
          exact ⟨c', by omega, h2⟩
        · by_cases hnew : ∃ q, (∃ c, c ≤ k + 1 ∧ Wc n Z m q c) ∧ ¬ ∃ c, c ≤ k ∧ Wc n Z m q c
          · right
            obtain ⟨q, ⟨c, h1, h2⟩, h3⟩ := hnew
            have := filter_lt (l := List.range (n * n)) (p := fun q => decide (∃ c, c ≤ k ∧ Wc n Z m q c)) (q := fun q => decide (∃ c, c ≤ k + 1 ∧ Wc n Z m q c))
              (fun x _ hx => by
                obtain ⟨c, h1, h2⟩ := of_decide_eq_true hx
                exact decide_eq_true ⟨c, by omega, h2⟩)
              ⟨q, List.mem_range.2 h2.lt, decide_eq_true ⟨c, h1, h2⟩, decide_eq_false h3⟩
            omega
          · left
            intro q c hc
            have : ∃ c', c' ≤ k ∧ Wc n Z m q c' := by
              induction hc with
              | @start q h1 h2 h3 => exact ⟨_, by have := cst_le Z q; omega, .start h1 h2 h3⟩
              | @step p c q _ h1 h2 ih =>
                obtain ⟨c', h3, h4⟩ := ih
                refine Classical.byContradiction fun hno => hnew ⟨q, ⟨_, ?_, .step h4 h1 h2⟩, hno⟩
                have := cst_le Z q
                omega
            obtain ⟨c', h1, h2⟩ := this
            exact ⟨c', by omega, h2⟩
  intro q c hc
  have hN : 1 ≤ n * n := by have := hc.lt; omega
  rcases key (n * n) hN with h | h
  · exact h q c hc
  · have hall : ((List.range (n * n)).filter fun q => decide (∃ c, c ≤ n * n ∧ Wc n Z m q c)) = List.range (n * n) := by
      refine List.Sublist.eq_of_length_le List.filter_sublist ?_
      rw [List.length_range]
      exact h
    have : q ∈ (List.range (n * n)).filter fun q => decide (∃ c, c ≤ n * n ∧ Wc n Z m q c) := by rw [hall]; exact List.mem_range.2 hc.lt
    exact of_decide_eq_true (List.mem_filter.1 this).2

/-- The least cost of a way from side to side; -1: there is none. -/
def ShR (n : Nat) (Z : List Int) (m : Nat) (r : Int) : Prop :=
  (r = -1 ∧ ∀ q c, Wc n Z m q c → ln n m q + 1 ≠ n) ∨ ∃ q c : Nat, r = (c : Int) ∧ Wc n Z m q c ∧ ln n m q + 1 = n ∧ ∀ q' c', Wc n Z m q' c' → ln n m q' + 1 = n → c ≤ c'

theorem ShR.unique {n : Nat} {Z : List Int} {m : Nat} {r s : Int} (h : ShR n Z m r) (k : ShR n Z m s) : r = s := by
  rcases h with ⟨rfl, h⟩ | ⟨q, c, rfl, h1, h2, h3⟩ <;> rcases k with ⟨rfl, k⟩ | ⟨p, d, rfl, k1, k2, k3⟩
  · rfl
  · exact absurd k2 (h p d k1)
  · exact absurd h2 (k q c h1)
  · have := h3 p d k1 k2
    have := k3 q c h1 h2
    omega

end Go.Proofs.YtldgikinmmkhiaaDoor
