/-
  Plain facts on the list 0 to n - 1 and on orders; the nth order, made step by step.
-/
import Derived.Test.YtdhacmcdbpojlaaRef1
namespace Go.Proofs.Ytdhacmcdbpojlaa

def ident (n : Nat) : List Int := (List.range n).map Int.ofNat

theorem ident_length (n : Nat) : (ident n).length = n := by simp [ident]

theorem ident_get (n p : Nat) (h : p < n) : (ident n).getD p 0 = (p : Int) := by simp [ident, List.getD, h]


theorem ident_step (n : Nat) (L : List Int) (k : Nat) (hL : L.length = n) (hk : k < n) (H : ∀ p, p < k → L.getD p 0 = (p : Int)) : ∀ p, p < k + 1 → (L.set k (k : Int)).getD p 0 = (p : Int) := by
  intro p hp
  rw [getD_set _ _ _ _ (by omega)]
  by_cases h : p = k
  · subst h; rw [if_pos rfl]
  · rw [if_neg h]; exact H p (by omega)

theorem eq_ident (n : Nat) (L : List Int) (hL : L.length = n) (H : ∀ p, p < n → L.getD p 0 = (p : Int)) : L = ident n := by
  apply List.ext_getElem (by rw [hL, ident_length])
  intro p h1 h2
  have := H p (by omega)
  rw [← ident_get n p (by omega)] at this
  simpa [List.getD, h1, h2] using this


/-! ### Orders -/

theorem perm_of_sub (A : List Int) (hA : A.Nodup) (L : List Int) (hs : ∀ x ∈ A, x ∈ L) (hl : L.length ≤ A.length) : L.Perm A := by
  induction A generalizing L with
  | nil =>
    have : L = [] := List.eq_nil_of_length_eq_zero (by simpa using hl)
    rw [this]
  | cons a A ih =>
    have ha : a ∈ L := hs a (by simp)
    rw [List.nodup_cons] at hA
    have h1 : (L.erase a).Perm A := by
      refine ih hA.2 (L.erase a) (fun x hx => ?_) ?_
      · have hne : x ≠ a := fun e => hA.1 (e ▸ hx)
        exact (List.mem_erase_of_ne hne).2 (hs x (by simp [hx]))
      · rw [List.length_erase_of_mem ha]
        simp at hl; omega
    exact (List.perm_cons_erase ha).trans (h1.cons a)

theorem ident_nodup (n : Nat) : (ident n).Nodup := by
  unfold ident
  rw [List.nodup_iff_pairwise_ne, List.pairwise_map]
  exact List.Pairwise.imp (fun h e => h (Int.ofNat.inj e)) (List.nodup_iff_pairwise_ne.1 List.nodup_range)

theorem mem_ident (n : Nat) (x : Int) : x ∈ ident n ↔ 0 ≤ x ∧ x < n := by
  unfold ident
  rw [List.mem_map]
  constructor
  · rintro ⟨i, hi, rfl⟩
    have := List.mem_range.1 hi
    simp
    omega
  · rintro ⟨h1, h2⟩
    exact ⟨x.toNat, List.mem_range.2 (by omega), by simp; omega⟩

def IsOrd (zs : List Int) : Prop := zs.Perm (ident zs.length)

theorem isOrd_of_all (zs : List Int) (h : ∀ i, i < zs.length → (i : Int) ∈ zs) : IsOrd zs := by
  refine perm_of_sub _ (ident_nodup _) _ (fun x hx => ?_) (by rw [ident_length]; exact Nat.le_refl _)
  have := (mem_ident _ _).1 hx
  have h1 := h x.toNat (by omega)
  rwa [Int.toNat_of_nonneg this.1] at h1

theorem isOrd_of_nodup (zs : List Int) (h1 : zs.Nodup) (h2 : ∀ x ∈ zs, 0 ≤ x ∧ x < zs.length) : IsOrd zs :=
  (perm_of_sub zs h1 (ident zs.length) (fun x hx => (mem_ident _ _).2 (h2 x hx)) (by rw [ident_length]; exact Nat.le_refl _)).symm

theorem IsOrd.mem {zs : List Int} (h : IsOrd zs) (i : Nat) (hi : i < zs.length) : (i : Int) ∈ zs := h.mem_iff.2 ((mem_ident _ _).2 ⟨by omega, by omega⟩)
theorem IsOrd.range {zs : List Int} (h : IsOrd zs) (x : Int) (hx : x ∈ zs) : 0 ≤ x ∧ x < zs.length := (mem_ident _ _).1 (h.mem_iff.1 hx)
theorem IsOrd.nodup {zs : List Int} (h : IsOrd zs) : zs.Nodup := h.nodup_iff.2 (ident_nodup _)

/-! ### Sums -/

def sumTo (f : Nat → Nat) : Nat → Nat
  | 0 => 0
  | n + 1 => sumTo f n + f n

theorem sumTo_congr (f g : Nat → Nat) (n : Nat) (h : ∀ i, i < n → f i = g i) : sumTo f n = sumTo g n := by
  induction n with
  | zero => rfl
  | succ n ih => simp only [sumTo]; rw [ih (fun i hi => h i (by omega)), h n (by omega)]

theorem sumTo_add (f g : Nat → Nat) (n : Nat) : sumTo (fun i => f i + g i) n = sumTo f n + sumTo g n := by
  induction n with
  | zero => rfl
  | succ n ih => simp only [sumTo]; omega

theorem sumTo_zero (f : Nat → Nat) (n : Nat) (h : ∀ i, i < n → f i = 0) : sumTo f n = 0 := by
  induction n with
  | zero => rfl
  | succ n ih => simp only [sumTo]; rw [ih (fun i hi => h i (by omega)), h n (by omega)]

theorem sumTo_swap (f : Nat → Nat → Nat) (n m : Nat) : sumTo (fun i => sumTo (fun j => f i j) m) n = sumTo (fun j => sumTo (fun i => f i j) n) m := by
  induction n with
  | zero => exact (sumTo_zero _ _ (fun _ _ => rfl)).symm
  | succ n ih => simp only [sumTo]; rw [ih, sumTo_add]

theorem sumTo_le (f : Nat → Nat) (n c : Nat) (h : ∀ i, i < n → f i ≤ c) : sumTo f n ≤ n * c := by
  induction n with
  | zero => simp [sumTo]
  | succ n ih =>
    simp only [sumTo]
    have := ih (fun i hi => h i (by omega))
    have := h n (by omega)
    rw [Nat.succ_mul]; omega

/-- Is what stands at j, behind i, smaller than what stands at i? -/
def lessI (zs : List Int) (i j : Nat) : Nat := if i < j ∧ zs.getD j 0 < zs.getD i 0 then 1 else 0

def less (zs : List Int) (i : Nat) : Nat := sumTo (lessI zs i) zs.length

theorem lessI_le (zs : List Int) (i j : Nat) : lessI zs i j ≤ 1 := by unfold lessI; split <;> omega

theorem less_start (zs : List Int) (i k : Nat) (hk : k ≤ i + 1) : sumTo (lessI zs i) k = 0 :=
  sumTo_zero _ _ fun j hj => by unfold lessI; rw [if_neg (by omega)]

theorem less_le (zs : List Int) (i : Nat) (hi : i < zs.length) : less zs i ≤ zs.length - 1 - i := by
  unfold less
  have : ∀ d, sumTo (lessI zs i) (i + 1 + d) ≤ d := by
    intro d
    induction d with
    | zero => rw [less_start _ _ _ (by omega)]; exact Nat.le_refl _
    | succ d ih => rw [← Nat.add_assoc]; simp only [sumTo]; have := lessI_le zs i (i + 1 + d); omega
  have h := this (zs.length - 1 - i)
  rwa [show i + 1 + (zs.length - 1 - i) = zs.length by omega] at h

/-- Is what stands at k, ahead of i, greater than what stands at i? -/
def moreI (zs : List Int) (i k : Nat) : Nat := if zs.getD i 0 < zs.getD k 0 then 1 else 0

def pairs (zs : List Int) : Nat := sumTo (less zs) zs.length

theorem pairs_eq (zs : List Int) : pairs zs = sumTo (fun i => sumTo (moreI zs i) i) zs.length := by
  unfold pairs less
  rw [sumTo_swap]
  refine sumTo_congr _ _ _ fun j hj => ?_
  have h : ∀ d, j ≤ d → sumTo (fun i => lessI zs i j) d = sumTo (moreI zs j) j := by
    intro d hd
    induction d with
    | zero => obtain rfl : j = 0 := by omega
              rfl
    | succ d ih =>
      by_cases e : j = d + 1
      · subst e
        refine sumTo_congr _ _ _ fun i hi => ?_
        unfold lessI moreI
        by_cases h : zs.getD (d + 1) 0 < zs.getD i 0
        · rw [if_pos ⟨hi, h⟩, if_pos h]
        · rw [if_neg (fun x => h x.2), if_neg h]
      · simp only [sumTo]
        rw [ih (by omega)]
        unfold lessI
        rw [if_neg (by omega)]
        omega
  exact h _ (by omega)

theorem pairs_le (zs : List Int) (h : zs.length ≤ 104) (n : Nat) (hn : n ≤ zs.length) : sumTo (less zs) n ≤ 10816 := by
  have := sumTo_le (less zs) n 104 (fun i hi => by have := less_le zs i (by omega); omega)
  have : n * 104 ≤ 104 * 104 := Nat.mul_le_mul_right _ (by omega)
  omega

def signN (p : Nat) : Int := if p % 2 = 0 then 1 else -1

/-! ### Factorials and numbers -/

def fact : Nat → Nat
  | 0 => 1
  | n + 1 => fact n * (n + 1)

theorem fact_pos (n : Nat) : 1 ≤ fact n := by
  induction n with
  | zero => exact Nat.le_refl _
  | succ n ih => simp only [fact]; exact Nat.mul_pos ih (Nat.succ_pos _)

theorem fact_le : ∀ n, n ≤ 12 → fact n ≤ 479001600 := by decide

/-- The number as the program reckons it. -/
def horner (zs : List Int) : Nat → Nat
  | 0 => 0
  | i + 1 => horner zs i * (zs.length - i) + less zs i

/-- The number as the document reckons it. -/
def numTo (zs : List Int) (n : Nat) : Nat := sumTo (fun i => less zs i * fact (zs.length - 1 - i)) n

theorem horner_num (zs : List Int) (i : Nat) (hi : i ≤ zs.length) : horner zs i * fact (zs.length - i) = numTo zs i := by
  induction i with
  | zero => simp [horner, numTo, sumTo]
  | succ i ih =>
    have h := ih (by omega)
    have e : fact (zs.length - i) = fact (zs.length - (i + 1)) * (zs.length - i) := by
      rw [show zs.length - i = (zs.length - (i + 1)) + 1 by omega]; rfl
    simp only [horner, numTo, sumTo] at h ⊢
    rw [← h, e, Nat.add_mul, show zs.length - 1 - i = zs.length - (i + 1) by omega, Nat.mul_assoc, Nat.mul_comm (zs.length - i) (fact _)]

theorem horner_end (zs : List Int) : horner zs zs.length = numTo zs zs.length := by
  have := horner_num zs zs.length (Nat.le_refl _)
  rw [Nat.sub_self] at this
  simpa [fact] using this

theorem horner_lt (zs : List Int) (h : zs.length ≤ 12) (i : Nat) (hi : i ≤ zs.length) : horner zs i < 13 ^ i := by
  induction i with
  | zero => simp [horner]
  | succ i ih =>
    have h1 := ih (by omega)
    have h2 := less_le zs i (by omega)
    simp only [horner]
    have h3 : horner zs i * (zs.length - i) ≤ horner zs i * 12 := Nat.mul_le_mul_left _ (by omega)
    rw [Nat.pow_succ]
    omega

theorem horner_le (zs : List Int) (h : zs.length ≤ 12) (i : Nat) (hi : i ≤ zs.length) : horner zs i ≤ 23298085122481 := by
  have h1 := horner_lt zs h i hi
  have h2 : 13 ^ i ≤ 13 ^ 12 := Nat.pow_le_pow_right (by omega) (by omega)
  have : (13 : Nat) ^ 12 = 23298085122481 := by decide
  omega

theorem numTo_le (zs : List Int) (h : zs.length ≤ 12) (i : Nat) (hi : i ≤ zs.length) : numTo zs i ≤ 12 * (12 * 479001600) := by
  have := sumTo_le (fun i => less zs i * fact (zs.length - 1 - i)) i (12 * 479001600) (fun j hj => Nat.mul_le_mul (by have := less_le zs j (by omega); omega) (fact_le _ (by omega)))
  exact Nat.le_trans this (Nat.mul_le_mul_right _ (by omega))

/-! ### The nth order -/

/-- What is left of 0 to n - 1, in their order. -/
def leftOf (n : Nat) (out : List Int) : List Int := (ident n).filter (fun x => !out.contains x)

/-- One step: the order so far, and what is left of its number. -/
def nthStep (n : Nat) (s : List Int × Nat) : List Int × Nat :=
  (s.1 ++ [(leftOf n s.1).getD (s.2 / fact (n - 1 - s.1.length)) 0], s.2 % fact (n - 1 - s.1.length))

def nthSt (n k : Nat) : Nat → List Int × Nat
  | 0 => ([], k)
  | i + 1 => nthStep n (nthSt n k i)

theorem nth_length (n k i : Nat) : (nthSt n k i).1.length = i := by
  induction i with
  | zero => rfl
  | succ i ih => simp [nthSt, nthStep, ih]

theorem leftOf_nodup (n : Nat) (out : List Int) : (leftOf n out).Nodup := (ident_nodup n).filter _

theorem mem_leftOf (n : Nat) (out : List Int) (x : Int) : x ∈ leftOf n out ↔ (0 ≤ x ∧ x < n) ∧ x ∉ out := by
  unfold leftOf
  rw [List.mem_filter, mem_ident]
  simp

theorem erase_nodup (L : List Int) (h : L.Nodup) (i : Nat) (hi : i < L.length) : L.take i ++ L.drop (i + 1) = L.filter (fun x => !(x == L.getD i 0)) := by
  induction L generalizing i with
  | nil => simp at hi
  | cons a L ih =>
    rw [List.nodup_cons] at h
    cases i with
    | zero =>
      simp only [List.take_zero, List.nil_append, List.drop_succ_cons, List.drop_zero, List.getD_cons_zero]
      rw [List.filter_cons_of_neg (by simp), List.filter_eq_self.2]
      intro x hx
      have : x ≠ a := fun e => h.1 (e ▸ hx)
      simpa using this
    | succ i =>
      simp only [List.take_succ_cons, List.cons_append, List.drop_succ_cons, List.getD_cons_succ]
      have hi' : i < L.length := by simpa using hi
      have hm : L.getD i 0 ∈ L := by simp [List.getD, hi']
      have hne : a ≠ L.getD i 0 := fun e => h.1 (e ▸ hm)
      rw [List.filter_cons_of_pos (by simpa using hne), ih h.2 i hi']

theorem leftOf_snoc (n : Nat) (out : List Int) (i : Nat) (hi : i < (leftOf n out).length) :
    (leftOf n out).take i ++ (leftOf n out).drop (i + 1) = leftOf n (out ++ [(leftOf n out).getD i 0]) := by
  rw [erase_nodup _ (leftOf_nodup _ _) i hi]
  generalize (leftOf n out).getD i 0 = y
  unfold leftOf
  rw [List.filter_filter]
  refine List.filter_congr fun x _ => ?_
  rw [Bool.eq_iff_iff]
  simp
  constructor <;> (intro h; exact ⟨h.2, h.1⟩)

theorem leftOf_nil (n : Nat) : leftOf n [] = ident n := List.filter_eq_self.2 (fun _ _ => rfl)

theorem leftOf_length (n k i : Nat) (hi : i ≤ n) (hk : k < fact n) : (leftOf n (nthSt n k i).1).length = n - i ∧ (nthSt n k i).2 < fact (n - i) := by
  induction i with
  | zero => exact ⟨by show (leftOf n []).length = _; rw [leftOf_nil, ident_length]; rfl, by simpa [nthSt] using hk⟩
  | succ i ih =>
    obtain ⟨h1, h2⟩ := ih (by omega)
    have hlen := nth_length n k i
    have e : fact (n - i) = fact (n - 1 - i) * (n - i) := by
      rw [show n - i = (n - 1 - i) + 1 by omega]; rfl
    have hat : (nthSt n k i).2 / fact (n - 1 - i) < n - i := by
      rw [Nat.div_lt_iff_lt_mul (fact_pos _), Nat.mul_comm, ← e]; exact h2
    refine ⟨?_, ?_⟩
    · show (leftOf n ((nthSt n k i).1 ++ [_])).length = _
      rw [hlen, ← leftOf_snoc n _ _ (by omega)]
      simp
      omega
    · show (nthSt n k i).2 % fact (n - 1 - (nthSt n k i).1.length) < _
      rw [hlen, show n - (i + 1) = n - 1 - i by omega]
      exact Nat.mod_lt _ (fact_pos _)

theorem at_lt (n k i : Nat) (hi : i < n) (hk : k < fact n) : (nthSt n k i).2 / fact (n - 1 - i) < n - i := by
  have h2 := (leftOf_length n k i (by omega) hk).2
  have e : fact (n - i) = fact (n - 1 - i) * (n - i) := by
    rw [show n - i = (n - 1 - i) + 1 by omega]; rfl
  rw [Nat.div_lt_iff_lt_mul (fact_pos _), Nat.mul_comm, ← e]; exact h2

/-- How many of 0 to x - 1 are not in out. -/
def free (out : List Int) (x : Nat) : Nat := (leftOf x out).length

theorem ident_succ (x : Nat) : ident (x + 1) = ident x ++ [(x : Int)] := by
  unfold ident; rw [List.range_succ]; simp

theorem leftOf_succ (out : List Int) (x : Nat) : leftOf (x + 1) out = leftOf x out ++ if (x : Int) ∈ out then [] else [(x : Int)] := by
  unfold leftOf
  rw [ident_succ, List.filter_append]
  by_cases h : (x : Int) ∈ out <;> simp [h]

theorem free_in (out : List Int) (x : Nat) (h : (x : Int) ∈ out) : free out (x + 1) = free out x := by
  unfold free; rw [leftOf_succ, if_pos h]; simp

theorem free_not (out : List Int) (x : Nat) (h : (x : Int) ∉ out) : free out (x + 1) = free out x + 1 := by
  unfold free; rw [leftOf_succ, if_neg h]; simp

theorem leftOf_more (out : List Int) (x n : Nat) (h : x ≤ n) : ∃ l, leftOf n out = leftOf x out ++ l := by
  induction n with
  | zero => obtain rfl : x = 0 := by omega
            exact ⟨[], by simp⟩
  | succ n ih =>
    by_cases e : x = n + 1
    · subst e; exact ⟨[], by simp⟩
    · obtain ⟨l, hl⟩ := ih (by omega)
      exact ⟨l ++ if (n : Int) ∈ out then [] else [(n : Int)], by rw [leftOf_succ, hl, List.append_assoc]⟩

theorem leftOf_at (out : List Int) (x n : Nat) (hx : x < n) (h : (x : Int) ∉ out) : (leftOf n out).getD (free out x) 0 = (x : Int) := by
  obtain ⟨l, hl⟩ := leftOf_more out (x + 1) n hx
  rw [hl, leftOf_succ, if_neg h]
  unfold free
  simp [List.getD]

end Go.Proofs.Ytdhacmcdbpojlaa
