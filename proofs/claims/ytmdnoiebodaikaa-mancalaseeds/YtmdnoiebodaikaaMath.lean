/-
  Seeds in pits, in plain words. No conditions beyond those that each theorem bears.
-/
import Derived.Test.YtmdnoiebodaikaaPlace
namespace Go.Proofs.Ytmdnoiebodaikaa
open Go.RowKit

def sumN : Nat → (Nat → Int) → Int
  | 0, _ => 0
  | k + 1, f => sumN k f + f k

theorem sumN_congr {f g : Nat → Int} : ∀ k, (∀ i, i < k → f i = g i) → sumN k f = sumN k g
  | 0, _ => rfl
  | k + 1, h => by rw [sumN, sumN, sumN_congr k (fun i hi => h i (by omega)), h k (by omega)]

theorem sumN_nonneg {f : Nat → Int} : ∀ k, (∀ i, i < k → 0 ≤ f i) → 0 ≤ sumN k f
  | 0, _ => by simp [sumN]
  | k + 1, h => by
    have h1 := sumN_nonneg k (fun i hi => h i (by omega))
    have h2 := h k (by omega)
    rw [sumN]; omega

theorem sumN_le {f : Nat → Int} : ∀ k, (∀ i, i < k → 0 ≤ f i) → ∀ i, i < k → f i ≤ sumN k f
  | 0, _, i, hi => by omega
  | k + 1, h, i, hi => by
    have h2 := h k (by omega)
    have h1 := sumN_nonneg k (fun i hi => h i (by omega))
    rw [sumN]
    by_cases e : i = k
    · subst e; omega
    · have := sumN_le k (fun i hi => h i (by omega)) i (by omega)
      omega

theorem sumN_mono {f : Nat → Int} (k : Nat) : ∀ m, k ≤ m → (∀ i, i < m → 0 ≤ f i) → sumN k f ≤ sumN m f
  | 0, hk, _ => by obtain rfl : k = 0 := by omega
                   exact Int.le_refl _
  | m + 1, hk, h => by
    by_cases e : k = m + 1
    · subst e; exact Int.le_refl _
    · have h1 := sumN_mono k m (by omega) (fun i hi => h i (by omega))
      have h2 := h m (by omega)
      rw [sumN]; omega

theorem sumN_add (f : Nat → Int) (a : Nat) : ∀ b, sumN (a + b) f = sumN a f + sumN b (fun i => f (a + i))
  | 0 => by simp [sumN]
  | b + 1 => by rw [← Nat.add_assoc, sumN, sumN_add f a b, sumN]; omega

theorem sumN_zero : ∀ k, sumN k (fun _ => 0) = 0
  | 0 => rfl
  | k + 1 => by rw [sumN, sumN_zero k]; rfl

/-- What lies in a player's pits. -/
def inP (p x : Nat) (S : List Int) : Int := sumN p (fun i => S.getD (pl p x i) 0)

/-- What lies in a player's first pits. -/
def inK (p x k : Nat) (S : List Int) : Int := sumN k (fun i => S.getD (pl p x i) 0)
theorem inK_zero (p x : Nat) (S : List Int) : inK p x 0 S = 0 := rfl
theorem inK_succ (p x k : Nat) (S : List Int) : inK p x (k + 1) S = inK p x k S + S.getD (pl p x k) 0 := rfl
theorem inK_all (p x : Nat) (S : List Int) : inK p x p S = inP p x S := rfl

/-- All that there is. -/
def tot (p : Nat) (S : List Int) : Int := sumN (2 * (p + 1)) (fun i => S.getD i 0)

/-- Seeds as they may be. -/
structure Fit (p : Nat) (S : List Int) : Prop where
  pos : ∀ i, i < 2 * (p + 1) → 0 ≤ S.getD i 0
  sum : tot p S ≤ 1000

theorem pl_lt {p x i : Nat} (hx : x ≤ 1) (hi : i ≤ p) : pl p x i < 2 * (p + 1) := by
  unfold pl
  have := Nat.mul_le_mul_right (p + 1) hx
  omega

theorem Fit.le {p : Nat} {S : List Int} (h : Fit p S) {i : Nat} (hi : i < 2 * (p + 1)) : S.getD i 0 ≤ 1000 := by
  have := sumN_le (f := fun i => S.getD i 0) _ h.pos i hi
  have := h.sum
  unfold tot at this
  omega

theorem pl0 (p i : Nat) : pl p 0 i = i := by simp [pl]
theorem pl1 (p i : Nat) : pl p 1 i = p + 1 + i := by simp [pl]

theorem tot_parts (p : Nat) (S : List Int) : tot p S = inP p 0 S + S.getD p 0 + inP p 1 S + S.getD (2 * p + 1) 0 := by
  unfold tot inP
  rw [show 2 * (p + 1) = (p + 1) + (p + 1) by omega, sumN_add, sumN, sumN]
  simp only [pl0, pl1]
  rw [show p + 1 + p = 2 * p + 1 by omega]
  omega

theorem Fit.inP {p x : Nat} {S : List Int} (h : Fit p S) (hx : x ≤ 1) : 0 ≤ inP p x S ∧ Ytmdnoiebodaikaa.inP p x S ≤ 1000 := by
  have h0 : 0 ≤ Ytmdnoiebodaikaa.inP p 0 S := sumN_nonneg _ fun i hi => h.pos _ (pl_lt (by omega) (by omega))
  have h1 : 0 ≤ Ytmdnoiebodaikaa.inP p 1 S := sumN_nonneg _ fun i hi => h.pos _ (pl_lt (by omega) (by omega))
  have h2 := h.pos p (by omega)
  have h3 := h.pos (2 * p + 1) (by omega)
  have h4 := h.sum
  rw [tot_parts] at h4
  rcases (show x = 0 ∨ x = 1 by omega) with rfl | rfl
  · exact ⟨h0, by omega⟩
  · exact ⟨h1, by omega⟩

theorem inP_step {p x : Nat} {S : List Int} (h : Fit p S) (hx : x ≤ 1) (k : Nat) (hk : k ≤ p) : 0 ≤ inK p x k S ∧ inK p x k S ≤ 1000 := by
  unfold inK
  have hp : ∀ i, i < p → 0 ≤ S.getD (pl p x i) 0 := fun i hi => h.pos _ (pl_lt hx (by omega))
  have h1 := sumN_mono (f := fun i => S.getD (pl p x i) 0) k p hk hp
  have h2 := (h.inP hx).2
  unfold Ytmdnoiebodaikaa.inP at h2
  exact ⟨sumN_nonneg k fun i hi => hp i (by omega), by omega⟩

def overB (p : Nat) (S : List Int) : Bool := decide (inP p 0 S = 0) || decide (inP p 1 S = 0)

/-- The next place that is sown. -/
def nx (p t q : Nat) : Nat := if (q + 1) % (2 * (p + 1)) = pl p (1 - t) p then ((q + 1) % (2 * (p + 1)) + 1) % (2 * (p + 1)) else (q + 1) % (2 * (p + 1))

theorem nx_lt (p t q : Nat) : nx p t q < 2 * (p + 1) := by
  unfold nx
  split
  · exact Nat.mod_lt _ (by omega)
  · exact Nat.mod_lt _ (by omega)

def spr (p t : Nat) : Nat → List Int → Nat → List Int × Nat
  | 0, S, q => (S, q)
  | k + 1, S, q => spr p t k (S.set (nx p t q) (S.getD (nx p t q) 0 + 1)) (nx p t q)

/-- What is taken across. -/
def capB (p t : Nat) (S : List Int) (q : Nat) : Bool := decide (pl p t 0 ≤ q ∧ q < pl p t p ∧ S.getD q 0 = 1 ∧ 0 < S.getD (2 * p - q) 0)

def capS (p t : Nat) (S : List Int) (q : Nat) : List Int :=
  if capB p t S q then ((S.set q 0).set (2 * p - q) 0).set (pl p t p) (S.getD (pl p t p) 0 + (1 + S.getD (2 * p - q) 0)) else S

/-- What is in pits comes into the stores. -/
def gth (p : Nat) (S : List Int) : List Int :=
  (List.range S.length).map fun j => if j = p then S.getD p 0 + inP p 0 S else if j = 2 * p + 1 then S.getD (2 * p + 1) 0 + inP p 1 S else if j < 2 * p + 2 then 0 else S.getD j 0

def endS (p : Nat) (S : List Int) : List Int := if overB p S then gth p S else S

/-- Sown: the seeds, where the last one came. -/
def sown (p t i : Nat) (S : List Int) : List Int × Nat := spr p t (S.getD (pl p t i) 0).toNat (S.set (pl p t i) 0) (pl p t i)

def sowS (p t i : Nat) (S : List Int) : List Int := endS p (capS p t (sown p t i S).1 (sown p t i S).2)
def agB (p t i : Nat) (S : List Int) : Bool := decide ((sown p t i S).2 = pl p t p)
def sowT (p t i : Nat) (S : List Int) : Nat := if agB p t i S then t else 1 - t

theorem spr_length (p t : Nat) : ∀ k S q, (spr p t k S q).1.length = S.length
  | 0, S, q => rfl
  | k + 1, S, q => by rw [spr, spr_length p t k, List.length_set]

theorem spr_lt (p t : Nat) : ∀ k S q, q < 2 * (p + 1) → (spr p t k S q).2 < 2 * (p + 1)
  | 0, S, q, h => h
  | k + 1, S, q, h => by rw [spr]; exact spr_lt p t k _ _ (nx_lt p t q)

theorem capS_length (p t : Nat) (S : List Int) (q : Nat) : (capS p t S q).length = S.length := by
  unfold capS; split <;> simp
theorem gth_length (p : Nat) (S : List Int) : (gth p S).length = S.length := by simp [gth]
theorem endS_length (p : Nat) (S : List Int) : (endS p S).length = S.length := by
  unfold endS; split
  · exact gth_length p S
  · rfl
theorem sowS_length (p t i : Nat) (S : List Int) : (sowS p t i S).length = S.length := by
  rw [sowS, endS_length, capS_length, sown, spr_length, List.length_set]

theorem gth_getD (p : Nat) (S : List Int) (j : Nat) (hj : j < S.length) : (gth p S).getD j 0 = if j = p then S.getD p 0 + inP p 0 S else if j = 2 * p + 1 then S.getD (2 * p + 1) 0 + inP p 1 S else if j < 2 * p + 2 then 0 else S.getD j 0 := by
  simp [gth, List.getD, hj]

/-- A number more at one place. -/
theorem tot_set (p : Nat) (S : List Int) (q : Nat) (x : Int) (hq : q < 2 * (p + 1)) (hl : 2 * (p + 1) ≤ S.length) : tot p (S.set q x) = tot p S - S.getD q 0 + x := by
  unfold tot
  have key : ∀ m, m ≤ 2 * (p + 1) → sumN m (fun i => (S.set q x).getD i 0) = sumN m (fun i => S.getD i 0) + (if q < m then x - S.getD q 0 else 0) := by
    intro m
    induction m with
    | zero => intro _; simp [sumN]
    | succ m ih =>
      intro hm
      rw [sumN, sumN, ih (by omega), getD_set _ _ _ _ (by omega)]
      by_cases e : m = q
      · subst e
        rw [if_pos rfl, if_neg (by omega), if_pos (by omega)]
        omega
      · rw [if_neg e]
        by_cases e2 : q < m
        · rw [if_pos e2, if_pos (by omega)]; omega
        · rw [if_neg e2, if_neg (by omega)]; omega
  rw [key _ (Nat.le_refl _), if_pos hq]
  omega

/-- As many seeds in hand; the rest as it may be. -/
theorem spr_fit (p t : Nat) : ∀ k S q, 2 * (p + 1) ≤ S.length → (∀ i, i < 2 * (p + 1) → 0 ≤ S.getD i 0) → (∀ i, i < 2 * (p + 1) → 0 ≤ (spr p t k S q).1.getD i 0) ∧ tot p (spr p t k S q).1 = tot p S + k
  | 0, S, q, _, h => ⟨h, by simp [spr]⟩
  | k + 1, S, q, hl, h => by
    have hn := nx_lt p t q
    have ih := spr_fit p t k (S.set (nx p t q) (S.getD (nx p t q) 0 + 1)) (nx p t q) (by rw [List.length_set]; exact hl) (fun i hi => by
      rw [getD_set _ _ _ _ (by omega)]
      split
      · have := h _ hn; omega
      · exact h i hi)
    rw [spr]
    refine ⟨ih.1, ?_⟩
    rw [ih.2, tot_set p S _ _ hn hl]
    omega

theorem capB_facts {p t : Nat} {S : List Int} {q : Nat} (h : capB p t S q = true) : pl p t 0 ≤ q ∧ q < pl p t p ∧ S.getD q 0 = 1 ∧ 0 < S.getD (2 * p - q) 0 := by
  simpa [capB] using h

theorem pit_facts {p t q : Nat} (ht : t ≤ 1) (h1 : pl p t 0 ≤ q) (h2 : q < pl p t p) : q ≤ 2 * p ∧ 2 * p - q ≠ q ∧ q ≠ pl p t p ∧ 2 * p - q ≠ pl p t p ∧ q < 2 * (p + 1) ∧ 2 * p - q < 2 * (p + 1) := by
  rcases (show t = 0 ∨ t = 1 by omega) with rfl | rfl
  · simp only [pl0] at *; omega
  · simp only [pl1] at *; omega

theorem capS_fit {p t : Nat} (ht : t ≤ 1) {S : List Int} {q : Nat} (hl : 2 * (p + 1) ≤ S.length) (h : ∀ i, i < 2 * (p + 1) → 0 ≤ S.getD i 0) : (∀ i, i < 2 * (p + 1) → 0 ≤ (capS p t S q).getD i 0) ∧ tot p (capS p t S q) = tot p S := by
  unfold capS
  split
  · next hc =>
    obtain ⟨a1, a2, a3, a4⟩ := capB_facts hc
    obtain ⟨b1, b2, b3, b4, b5, b6⟩ := pit_facts ht a1 a2
    have hs := pl_lt (p := p) ht (Nat.le_refl p)
    have l1 : 2 * (p + 1) ≤ (S.set q 0).length := by rw [List.length_set]; exact hl
    have l2 : 2 * (p + 1) ≤ ((S.set q 0).set (2 * p - q) 0).length := by rw [List.length_set]; exact l1
    have e1 : (S.set q 0).getD (2 * p - q) 0 = S.getD (2 * p - q) 0 := by rw [getD_set _ _ _ _ (by omega), if_neg b2]
    have e2 : ((S.set q 0).set (2 * p - q) 0).getD (pl p t p) 0 = S.getD (pl p t p) 0 := by
      rw [getD_set _ _ _ _ (by omega), if_neg (fun e => b4 e.symm), getD_set _ _ _ _ (by omega), if_neg (fun e => b3 e.symm)]
    constructor
    · intro i hi
      have := h _ hs
      rw [getD_set _ _ _ _ (by omega)]
      split
      · omega
      · rw [getD_set _ _ _ _ (by omega)]
        split
        · omega
        · rw [getD_set _ _ _ _ (by omega)]
          split
          · omega
          · exact h i hi
    · rw [tot_set p _ _ _ hs l2, tot_set p _ _ _ b6 l1, tot_set p _ _ _ b5 hl, e1, e2, a3]
      omega
  · exact ⟨h, rfl⟩

theorem gth_fit {p : Nat} {S : List Int} (hl : 2 * (p + 1) ≤ S.length) (h : ∀ i, i < 2 * (p + 1) → 0 ≤ S.getD i 0) : (∀ i, i < 2 * (p + 1) → 0 ≤ (gth p S).getD i 0) ∧ tot p (gth p S) = tot p S := by
  have h0 : 0 ≤ inP p 0 S := sumN_nonneg _ fun i hi => h _ (pl_lt (by omega) (by omega))
  have h1 : 0 ≤ inP p 1 S := sumN_nonneg _ fun i hi => h _ (pl_lt (by omega) (by omega))
  have hp := h p (by omega)
  have hq := h (2 * p + 1) (by omega)
  constructor
  · intro i hi
    rw [gth_getD _ _ _ (by omega)]
    split
    · omega
    · split
      · omega
      · rw [if_pos (by omega)]; exact Int.le_refl _
  · have e0 : inP p 0 (gth p S) = 0 := by
      unfold inP
      rw [sumN_congr p (g := fun _ => 0) (fun i hi => by rw [pl0, gth_getD _ _ _ (by omega), if_neg (by omega), if_neg (by omega), if_pos (by omega)]), sumN_zero]
    have e1 : inP p 1 (gth p S) = 0 := by
      unfold inP
      rw [sumN_congr p (g := fun _ => 0) (fun i hi => by rw [pl1, gth_getD _ _ _ (by omega), if_neg (by omega), if_neg (by omega), if_pos (by omega)]), sumN_zero]
    rw [tot_parts, tot_parts, e0, e1, gth_getD _ _ _ (by omega), gth_getD _ _ _ (by omega), if_pos rfl, if_neg (by omega), if_pos rfl]
    omega

theorem endS_fit {p : Nat} {S : List Int} (hl : 2 * (p + 1) ≤ S.length) (h : ∀ i, i < 2 * (p + 1) → 0 ≤ S.getD i 0) : (∀ i, i < 2 * (p + 1) → 0 ≤ (endS p S).getD i 0) ∧ tot p (endS p S) = tot p S := by
  unfold endS
  split
  · exact gth_fit hl h
  · exact ⟨h, rfl⟩

theorem sown_fit {p t i : Nat} (ht : t ≤ 1) (hi : i < p) {S : List Int} (hl : 2 * (p + 1) ≤ S.length) (h : ∀ i, i < 2 * (p + 1) → 0 ≤ S.getD i 0) : (∀ j, j < 2 * (p + 1) → 0 ≤ (sown p t i S).1.getD j 0) ∧ tot p (sown p t i S).1 = tot p S := by
  have ha := pl_lt (p := p) ht (show i ≤ p by omega)
  have := spr_fit p t (S.getD (pl p t i) 0).toNat (S.set (pl p t i) 0) (pl p t i) (by rw [List.length_set]; exact hl) (fun j hj => by
    rw [getD_set _ _ _ _ (by omega)]
    split
    · exact Int.le_refl _
    · exact h j hj)
  refine ⟨this.1, ?_⟩
  unfold sown
  rw [this.2, tot_set p S _ _ ha hl]
  have := h _ ha
  omega

theorem sowS_fit {p t i : Nat} (ht : t ≤ 1) (hi : i < p) {S : List Int} (hl : 2 * (p + 1) ≤ S.length) (h : Fit p S) : Fit p (sowS p t i S) ∧ tot p (sowS p t i S) = tot p S := by
  have h1 := sown_fit ht hi hl h.pos
  have l1 : 2 * (p + 1) ≤ (sown p t i S).1.length := by rw [sown, spr_length, List.length_set]; exact hl
  have h2 := capS_fit ht (q := (sown p t i S).2) l1 h1.1
  have l2 : 2 * (p + 1) ≤ (capS p t (sown p t i S).1 (sown p t i S).2).length := by rw [capS_length]; exact l1
  have h3 := endS_fit l2 h2.1
  have e : tot p (sowS p t i S) = tot p S := by rw [sowS, h3.2, h2.2, h1.2]
  exact ⟨⟨h3.1, by rw [e]; exact h.sum⟩, e⟩

end Go.Proofs.Ytmdnoiebodaikaa
