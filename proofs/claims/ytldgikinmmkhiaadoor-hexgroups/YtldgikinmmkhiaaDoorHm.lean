/-
  Places of a board of n rows and n columns, their neighbours, ways along them; groups, who has joined its sides; on a full board just one has. No conditions beyond those that each theorem bears.
-/
import Derived.Test.YtldgikinmmkhiaaDoorHy
namespace Go.Proofs.YtldgikinmmkhiaaDoor

def dx : Nat → Int | 0 => 0 | 1 => 1 | 2 => -1 | 3 => 1 | 4 => -1 | _ => 0
def dy : Nat → Int | 0 => -1 | 1 => -1 | 2 => 0 | 3 => 0 | 4 => 1 | _ => 1

/-- The neighbour in a direction, where there is one. -/
def nbk (n p k : Nat) : List Nat :=
  if 0 ≤ ((p % n : Nat) : Int) + dx k ∧ ((p % n : Nat) : Int) + dx k < n ∧ 0 ≤ ((p / n : Nat) : Int) + dy k ∧ ((p / n : Nat) : Int) + dy k < n then [((((p / n : Nat) : Int) + dy k) * n + (((p % n : Nat) : Int) + dx k)).toNat] else []

/-- All neighbours, in the order of the directions. -/
def nbu (n p k : Nat) : List Nat := (List.range k).flatMap (nbk n p)
def nbs (n p : Nat) : List Nat := nbu n p 6

theorem nbu_succ (n p k : Nat) : nbu n p (k + 1) = nbu n p k ++ nbk n p k := by simp [nbu, List.range_succ, List.flatMap_append]

theorem place_of {n x y : Nat} (hx : x < n) (hy : y < n) : y * n + x < n * n ∧ (y * n + x) % n = x ∧ (y * n + x) / n = y := by
  have hn : 0 < n := by omega
  have h1 : y * n + n ≤ n * n := by
    have := Nat.mul_le_mul_right n (show y + 1 ≤ n by omega)
    rw [Nat.add_mul, Nat.one_mul] at this
    exact this
  refine ⟨by omega, ?_, ?_⟩
  · rw [Nat.add_comm, Nat.add_mul_mod_self_right, Nat.mod_eq_of_lt hx]
  · rw [Nat.add_comm, Nat.add_mul_div_right _ _ hn, Nat.div_eq_of_lt hx, Nat.zero_add]

theorem of_place {n p : Nat} (hp : p < n * n) : p % n < n ∧ p / n < n ∧ p / n * n + p % n = p := by
  have hn : 0 < n := by
    rcases Nat.eq_zero_or_pos n with rfl | h
    · simp at hp
    · exact h
  exact ⟨Nat.mod_lt _ hn, (Nat.div_lt_iff_lt_mul hn).2 hp, by rw [Nat.mul_comm]; exact Nat.div_add_mod p n⟩

theorem mem_nbk {n p k q : Nat} (h : q ∈ nbk n p k) : q < n * n ∧ ((q % n : Nat) : Int) = ((p % n : Nat) : Int) + dx k ∧ ((q / n : Nat) : Int) = ((p / n : Nat) : Int) + dy k := by
  unfold nbk at h
  split at h
  case isFalse => simp at h
  case isTrue hh =>
    obtain ⟨a1, a2, a3, a4⟩ := hh
    obtain ⟨x, hx⟩ := Int.eq_ofNat_of_zero_le a1
    obtain ⟨y, hy⟩ := Int.eq_ofNat_of_zero_le a3
    rw [hx] at h a2 ⊢
    rw [hy] at h a4 ⊢
    obtain rfl : q = y * n + x := by
      have := List.mem_singleton.1 h
      rw [this]
      have : ((y : Int) * n + x) = ((y * n + x : Nat) : Int) := by simp
      rw [this]; rfl
    obtain ⟨b1, b2, b3⟩ := place_of (n := n) (x := x) (y := y) (by omega) (by omega)
    exact ⟨b1, by rw [b2], by rw [b3]⟩

theorem nbk_mem {n p k x y : Nat} (hx : x < n) (hy : y < n) (h1 : (x : Int) = ((p % n : Nat) : Int) + dx k) (h2 : (y : Int) = ((p / n : Nat) : Int) + dy k) : y * n + x ∈ nbk n p k := by
  unfold nbk
  rw [← h1, ← h2, if_pos ⟨by omega, by omega, by omega, by omega⟩]
  refine List.mem_singleton.2 ?_
  have : ((y : Int) * n + x) = ((y * n + x : Nat) : Int) := by simp
  rw [this]; rfl

theorem mem_nbs {n p q : Nat} : q ∈ nbs n p ↔ ∃ k, k < 6 ∧ q ∈ nbk n p k := by simp [nbs, nbu]

theorem nbs_iff {n p q : Nat} : q ∈ nbs n p ↔ q < n * n ∧ adj (p % n) (p / n) (q % n) (q / n) := by
  rw [mem_nbs]
  constructor
  · rintro ⟨k, hk, h⟩
    obtain ⟨h1, h2, h3⟩ := mem_nbk h
    refine ⟨h1, ?_⟩
    match k, hk with
    | 0, _ => simp only [dx, dy] at h2 h3; unfold adj; omega
    | 1, _ => simp only [dx, dy] at h2 h3; unfold adj; omega
    | 2, _ => simp only [dx, dy] at h2 h3; unfold adj; omega
    | 3, _ => simp only [dx, dy] at h2 h3; unfold adj; omega
    | 4, _ => simp only [dx, dy] at h2 h3; unfold adj; omega
    | 5, _ => simp only [dx, dy] at h2 h3; unfold adj; omega
  · rintro ⟨hq, ha⟩
    obtain ⟨a1, a2, a3⟩ := of_place hq
    have key : ∀ k, k < 6 → ((q % n : Nat) : Int) = ((p % n : Nat) : Int) + dx k → ((q / n : Nat) : Int) = ((p / n : Nat) : Int) + dy k → ∃ k, k < 6 ∧ q ∈ nbk n p k := by
      intro k hk e1 e2
      refine ⟨k, hk, ?_⟩
      have := nbk_mem a1 a2 e1 e2
      rwa [a3] at this
    rcases ha with h | h | h | h | h | h
    · exact key 3 (by omega) (by simp only [dx]; omega) (by simp only [dy]; omega)
    · exact key 2 (by omega) (by simp only [dx]; omega) (by simp only [dy]; omega)
    · exact key 5 (by omega) (by simp only [dx]; omega) (by simp only [dy]; omega)
    · exact key 0 (by omega) (by simp only [dx]; omega) (by simp only [dy]; omega)
    · exact key 1 (by omega) (by simp only [dx]; omega) (by simp only [dy]; omega)
    · exact key 4 (by omega) (by simp only [dx]; omega) (by simp only [dy]; omega)

theorem nbs_lt {n p q : Nat} (h : q ∈ nbs n p) : q < n * n := (nbs_iff.1 h).1
theorem nbs_symm {n p q : Nat} (hp : p < n * n) (h : q ∈ nbs n p) : p ∈ nbs n q := nbs_iff.2 ⟨hp, adj_symm (nbs_iff.1 h).2⟩
theorem nbs_ne {n p q : Nat} (h : q ∈ nbs n p) : q ≠ p := by
  rintro rfl
  have := (nbs_iff.1 h).2
  unfold adj at this
  omega

/-- A way along neighbours through places that P names. -/
inductive Wk (n : Nat) (P : Nat → Prop) (a : Nat) : Nat → Prop
  | refl : a < n * n → P a → Wk n P a a
  | step {b c : Nat} : Wk n P a b → c ∈ nbs n b → P c → Wk n P a c

theorem Wk.lt {n P a b} (h : Wk n P a b) : b < n * n := by cases h with | refl h _ => exact h | step _ h _ => exact nbs_lt h
theorem Wk.right {n P a b} (h : Wk n P a b) : P b := by cases h with | refl _ h => exact h | step _ _ h => exact h
theorem Wk.left {n P a b} (h : Wk n P a b) : a < n * n ∧ P a := by induction h with | refl h1 h2 => exact ⟨h1, h2⟩ | step _ _ _ ih => exact ih
theorem Wk.trans {n P a b c} (h : Wk n P a b) (g : Wk n P b c) : Wk n P a c := by
  induction g with
  | refl _ _ => exact h
  | step _ h1 h2 ih => exact .step ih h1 h2
theorem Wk.symm {n P a b} (h : Wk n P a b) : Wk n P b a := by
  induction h with
  | refl h1 h2 => exact .refl h1 h2
  | @step b c h h1 h2 ih => exact Wk.trans (Wk.step (.refl (nbs_lt h1) h2) (nbs_symm h.lt h1) h.right) ih
theorem Wk.mono {n : Nat} {P Q : Nat → Prop} (hs : ∀ q, q < n * n → P q → Q q) {a b} (h : Wk n P a b) : Wk n Q a b := by
  induction h with
  | refl h1 h2 => exact .refl h1 (hs _ h1 h2)
  | step _ h1 h2 ih => exact .step ih h1 (hs _ (nbs_lt h1) h2)

theorem Wk.yc {n P a b} (h : Wk n P a b) : Yc (fun x y => P (y * n + x) ∧ x < n ∧ y < n) (a % n) (a / n) (b % n) (b / n) := by
  induction h with
  | refl h1 h2 =>
    obtain ⟨a1, a2, a3⟩ := of_place h1
    exact .refl ⟨by rw [a3]; exact h2, a1, a2⟩
  | @step b c _ h1 h2 ih =>
    obtain ⟨a1, a2, a3⟩ := of_place (nbs_lt h1)
    exact .step ih (nbs_iff.1 h1).2 ⟨by rw [a3]; exact h2, a1, a2⟩

theorem Yc.wk {n : Nat} {P : Nat → Prop} {x y x' y' : Nat} (h : Yc (fun x y => P (y * n + x) ∧ x < n ∧ y < n) x y x' y') : Wk n P (y * n + x) (y' * n + x') := by
  induction h with
  | refl h => exact .refl (place_of h.2.1 h.2.2).1 h.1
  | @step k l k' l' h1 ha hr ih =>
    obtain ⟨a1, a2, a3⟩ := place_of h1.right.2.1 h1.right.2.2
    obtain ⟨b1, b2, b3⟩ := place_of hr.2.1 hr.2.2
    exact .step ih (nbs_iff.2 ⟨b1, by rw [a2, a3, b2, b3]; exact ha⟩) hr.1

open Classical in
/-- The places of P come from the left to the right just if the others do not come from above to below. -/
theorem hex_P {n : Nat} (hn : 1 ≤ n) (P : Nat → Prop) : (∃ a b, a % n = 0 ∧ b % n + 1 = n ∧ Wk n P a b) ↔ ¬ ∃ a b, a / n = 0 ∧ b / n + 1 = n ∧ Wk n (fun p => ¬ P p) a b := by
  have hj := hex_just hn (fun x y => decide (P (y * n + x)))
  have e1 : Jl n (fun x y => decide (P (y * n + x))) ↔ ∃ a b, a % n = 0 ∧ b % n + 1 = n ∧ Wk n P a b := by
    constructor
    · rintro ⟨y, x', y', e, h⟩
      have h' : Yc (fun x y => P (y * n + x) ∧ x < n ∧ y < n) 0 y x' y' := h.mono fun k l hr => ⟨of_decide_eq_true hr.1, hr.2⟩
      refine ⟨_, _, ?_, ?_, h'.wk⟩
      · exact (place_of h'.left.2.1 h'.left.2.2).2.1
      · rw [(place_of h'.right.2.1 h'.right.2.2).2.1]; exact e
    · rintro ⟨a, b, ha, hb, h⟩
      have := h.yc
      rw [ha] at this
      exact ⟨_, _, _, hb, this.mono fun k l hr => ⟨decide_eq_true hr.1, hr.2⟩⟩
  have e2 : Jt n (fun x y => decide (P (y * n + x))) ↔ ∃ a b, a / n = 0 ∧ b / n + 1 = n ∧ Wk n (fun p => ¬ P p) a b := by
    constructor
    · rintro ⟨x, x', y', e, h⟩
      have h' : Yc (fun x y => (fun p => ¬ P p) (y * n + x) ∧ x < n ∧ y < n) x 0 x' y' := h.mono fun k l hr => ⟨of_decide_eq_false hr.1, hr.2⟩
      refine ⟨_, _, ?_, ?_, h'.wk⟩
      · exact (place_of h'.left.2.1 h'.left.2.2).2.2
      · rw [(place_of h'.right.2.1 h'.right.2.2).2.2]; exact e
    · rintro ⟨a, b, ha, hb, h⟩
      have := h.yc
      rw [ha] at this
      exact ⟨_, _, _, hb, this.mono fun k l hr => ⟨decide_eq_false hr.1, hr.2⟩⟩
  rw [← e1, ← e2]
  exact hj

/-- A place's line, counted from the player's first side. -/
def ln (n m p : Nat) : Nat := if m = 1 then p / n else p % n

/-- The places of P come from the player's first side to its last. -/
def Jp (n m : Nat) (P : Nat → Prop) : Prop := ∃ a b, ln n m a = 0 ∧ ln n m b + 1 = n ∧ Wk n P a b

theorem Jp.mono {n m : Nat} {P Q : Nat → Prop} (hs : ∀ q, q < n * n → P q → Q q) (h : Jp n m P) : Jp n m Q := by
  obtain ⟨a, b, h1, h2, h3⟩ := h
  exact ⟨a, b, h1, h2, h3.mono hs⟩

/-- Either the places of P join the player's sides, or the others the other's. -/
theorem hex_m {n : Nat} (hn : 1 ≤ n) {m : Nat} (hm : m = 1 ∨ m = 2) (P : Nat → Prop) : Jp n m P ↔ ¬ Jp n (3 - m) (fun p => ¬ P p) := by
  rcases hm with rfl | rfl
  · have h := hex_P hn (fun p => ¬ P p)
    have e1 : Jp n 1 P ↔ ∃ a b, a / n = 0 ∧ b / n + 1 = n ∧ Wk n (fun p => ¬ ¬ P p) a b := by
      unfold Jp ln
      simp only [if_true]
      constructor
      · rintro ⟨a, b, h1, h2, h3⟩; exact ⟨a, b, h1, h2, h3.mono fun _ _ h => not_not_intro h⟩
      · rintro ⟨a, b, h1, h2, h3⟩; exact ⟨a, b, h1, h2, h3.mono fun _ _ h => Classical.not_not.1 h⟩
    have e2 : Jp n (3 - 1) (fun p => ¬ P p) ↔ ∃ a b, a % n = 0 ∧ b % n + 1 = n ∧ Wk n (fun p => ¬ P p) a b := by
      unfold Jp ln
      simp
    rw [e1, e2, h, Classical.not_not]
  · have h := hex_P hn P
    have e1 : Jp n 2 P ↔ ∃ a b, a % n = 0 ∧ b % n + 1 = n ∧ Wk n P a b := by
      unfold Jp ln
      simp
    have e2 : Jp n (3 - 2) (fun p => ¬ P p) ↔ ∃ a b, a / n = 0 ∧ b / n + 1 = n ∧ Wk n (fun p => ¬ P p) a b := by
      unfold Jp ln
      simp
    rw [e1, e2, h]

end Go.Proofs.YtldgikinmmkhiaaDoor
