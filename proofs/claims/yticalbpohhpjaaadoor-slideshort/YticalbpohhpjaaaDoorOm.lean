/-
  Plain facts on orders: pairs that stand the wrong way; the sign of an order made of two. No conditions beyond those that each theorem bears.
-/
import Derived.Test.YticalbpohhpjaaaDoorGd
namespace Go.Proofs.YticalbpohhpjaaaDoor
open Go.RowKit

def ident (n : Nat) : List Int := (List.range n).map Int.ofNat

theorem ident_length (n : Nat) : (ident n).length = n := by simp [ident]

theorem ident_get (n p : Nat) (h : p < n) : (ident n).getD p 0 = (p : Int) := by simp [ident, List.getD, h]


theorem eq_ident (n : Nat) (L : List Int) (hL : L.length = n) (H : ∀ p, p < n → L.getD p 0 = (p : Int)) : L = ident n := by
  apply List.ext_getElem (by rw [hL, ident_length])
  intro p h1 h2
  have := H p (by omega)
  rw [← ident_get n p (by omega)] at this
  simpa [List.getD, h1, h2] using this


/-! ### Orders -/

theorem perm_of_sub (A : List Int) (hA : A.Nodup) (L : List Int) (hs : ∀ x ∈ A, x ∈ L) (hl : L.length ≤ A.length) : L.Perm A := by
  induction A generalizing L with
  | nil =>
    have : L = [] := List.eq_nil_of_length_eq_zero (by simpa using hl)
    rw [this]
  | cons a A ih =>
    have ha : a ∈ L := hs a (by simp)
    rw [List.nodup_cons] at hA
    have h1 : (L.erase a).Perm A := by
      refine ih hA.2 (L.erase a) (fun x hx => ?_) ?_
      · have hne : x ≠ a := fun e => hA.1 (e ▸ hx)
        exact (List.mem_erase_of_ne hne).2 (hs x (by simp [hx]))
      · rw [List.length_erase_of_mem ha]
        simp at hl; omega
    exact (List.perm_cons_erase ha).trans (h1.cons a)

theorem ident_nodup (n : Nat) : (ident n).Nodup := by
  unfold ident
  rw [List.nodup_iff_pairwise_ne, List.pairwise_map]
  exact List.Pairwise.imp (fun h e => h (Int.ofNat.inj e)) (List.nodup_iff_pairwise_ne.1 List.nodup_range)

theorem mem_ident (n : Nat) (x : Int) : x ∈ ident n ↔ 0 ≤ x ∧ x < n := by
  unfold ident
  rw [List.mem_map]
  constructor
  · rintro ⟨i, hi, rfl⟩
    have := List.mem_range.1 hi
    simp
    omega
  · rintro ⟨h1, h2⟩
    exact ⟨x.toNat, List.mem_range.2 (by omega), by simp; omega⟩

def IsOrd (zs : List Int) : Prop := zs.Perm (ident zs.length)

theorem isOrd_of_all (zs : List Int) (h : ∀ i, i < zs.length → (i : Int) ∈ zs) : IsOrd zs := by
  refine perm_of_sub _ (ident_nodup _) _ (fun x hx => ?_) (by rw [ident_length]; exact Nat.le_refl _)
  have := (mem_ident _ _).1 hx
  have h1 := h x.toNat (by omega)
  rwa [Int.toNat_of_nonneg this.1] at h1

theorem isOrd_of_nodup (zs : List Int) (h1 : zs.Nodup) (h2 : ∀ x ∈ zs, 0 ≤ x ∧ x < zs.length) : IsOrd zs :=
  (perm_of_sub zs h1 (ident zs.length) (fun x hx => (mem_ident _ _).2 (h2 x hx)) (by rw [ident_length]; exact Nat.le_refl _)).symm

theorem IsOrd.mem {zs : List Int} (h : IsOrd zs) (i : Nat) (hi : i < zs.length) : (i : Int) ∈ zs := h.mem_iff.2 ((mem_ident _ _).2 ⟨by omega, by omega⟩)
theorem IsOrd.range {zs : List Int} (h : IsOrd zs) (x : Int) (hx : x ∈ zs) : 0 ≤ x ∧ x < zs.length := (mem_ident _ _).1 (h.mem_iff.1 hx)
theorem IsOrd.nodup {zs : List Int} (h : IsOrd zs) : zs.Nodup := h.nodup_iff.2 (ident_nodup _)

/-! ### Sums -/

def sumTo (f : Nat → Nat) : Nat → Nat
  | 0 => 0
  | n + 1 => sumTo f n + f n

theorem sumTo_congr (f g : Nat → Nat) (n : Nat) (h : ∀ i, i < n → f i = g i) : sumTo f n = sumTo g n := by
  induction n with
  | zero => rfl
  | succ n ih => simp only [sumTo]; rw [ih (fun i hi => h i (by omega)), h n (by omega)]

theorem sumTo_add (f g : Nat → Nat) (n : Nat) : sumTo (fun i => f i + g i) n = sumTo f n + sumTo g n := by
  induction n with
  | zero => rfl
  | succ n ih => simp only [sumTo]; omega

theorem sumTo_zero (f : Nat → Nat) (n : Nat) (h : ∀ i, i < n → f i = 0) : sumTo f n = 0 := by
  induction n with
  | zero => rfl
  | succ n ih => simp only [sumTo]; rw [ih (fun i hi => h i (by omega)), h n (by omega)]

theorem sumTo_swap (f : Nat → Nat → Nat) (n m : Nat) : sumTo (fun i => sumTo (fun j => f i j) m) n = sumTo (fun j => sumTo (fun i => f i j) n) m := by
  induction n with
  | zero => exact (sumTo_zero _ _ (fun _ _ => rfl)).symm
  | succ n ih => simp only [sumTo]; rw [ih, sumTo_add]

theorem sumTo_le (f : Nat → Nat) (n c : Nat) (h : ∀ i, i < n → f i ≤ c) : sumTo f n ≤ n * c := by
  induction n with
  | zero => simp [sumTo]
  | succ n ih =>
    simp only [sumTo]
    have := ih (fun i hi => h i (by omega))
    have := h n (by omega)
    rw [Nat.succ_mul]; omega

/-- Is what stands at j, behind i, smaller than what stands at i? -/
def lessI (zs : List Int) (i j : Nat) : Nat := if i < j ∧ zs.getD j 0 < zs.getD i 0 then 1 else 0

def less (zs : List Int) (i : Nat) : Nat := sumTo (lessI zs i) zs.length

theorem lessI_le (zs : List Int) (i j : Nat) : lessI zs i j ≤ 1 := by unfold lessI; split <;> omega

theorem less_start (zs : List Int) (i k : Nat) (hk : k ≤ i + 1) : sumTo (lessI zs i) k = 0 :=
  sumTo_zero _ _ fun j hj => by unfold lessI; rw [if_neg (by omega)]

theorem less_le (zs : List Int) (i : Nat) (hi : i < zs.length) : less zs i ≤ zs.length - 1 - i := by
  unfold less
  have : ∀ d, sumTo (lessI zs i) (i + 1 + d) ≤ d := by
    intro d
    induction d with
    | zero => rw [less_start _ _ _ (by omega)]; exact Nat.le_refl _
    | succ d ih => rw [← Nat.add_assoc]; simp only [sumTo]; have := lessI_le zs i (i + 1 + d); omega
  have h := this (zs.length - 1 - i)
  rwa [show i + 1 + (zs.length - 1 - i) = zs.length by omega] at h

/-- Is what stands at k, ahead of i, greater than what stands at i? -/
def moreI (zs : List Int) (i k : Nat) : Nat := if zs.getD i 0 < zs.getD k 0 then 1 else 0

def pairs (zs : List Int) : Nat := sumTo (less zs) zs.length

theorem pairs_eq (zs : List Int) : pairs zs = sumTo (fun i => sumTo (moreI zs i) i) zs.length := by
  unfold pairs less
  rw [sumTo_swap]
  refine sumTo_congr _ _ _ fun j hj => ?_
  have h : ∀ d, j ≤ d → sumTo (fun i => lessI zs i j) d = sumTo (moreI zs j) j := by
    intro d hd
    induction d with
    | zero => obtain rfl : j = 0 := by omega
              rfl
    | succ d ih =>
      by_cases e : j = d + 1
      · subst e
        refine sumTo_congr _ _ _ fun i hi => ?_
        unfold lessI moreI
        by_cases h : zs.getD (d + 1) 0 < zs.getD i 0
        · rw [if_pos ⟨hi, h⟩, if_pos h]
        · rw [if_neg (fun x => h x.2), if_neg h]
      · simp only [sumTo]
        rw [ih (by omega)]
        unfold lessI
        rw [if_neg (by omega)]
        omega
  exact h _ (by omega)

theorem pairs_le (zs : List Int) (h : zs.length ≤ 104) (n : Nat) (hn : n ≤ zs.length) : sumTo (less zs) n ≤ 10816 := by
  have := sumTo_le (less zs) n 104 (fun i hi => by have := less_le zs i (by omega); omega)
  have : n * 104 ≤ 104 * 104 := Nat.mul_le_mul_right _ (by omega)
  omega

def signN (p : Nat) : Int := if p % 2 = 0 then 1 else -1

theorem sumTo_list (f : Nat → Nat) (n : Nat) : sumTo f n = ((List.range n).map f).sum := by
  induction n with
  | zero => rfl
  | succ n ih => rw [List.range_succ, List.map_append, List.sum_append]; simp [sumTo, ih]

theorem perm_sum {l l' : List Nat} (h : l.Perm l') : l.sum = l'.sum := by
  induction h with
  | nil => rfl
  | cons x _ ih => simp [ih]
  | swap x y l => simp; omega
  | trans _ _ ih1 ih2 => exact ih1.trans ih2

theorem list_of_getD (b : List Int) : (List.range b.length).map (fun i => b.getD i 0) = b := by
  apply List.ext_getElem (by simp)
  intro i h1 h2
  simp [List.getD, h2]

theorem sum_reindex (b : List Int) (hb : IsOrd b) (g : Nat → Nat) : sumTo (fun i => g (b.getD i 0).toNat) b.length = sumTo g b.length := by
  rw [sumTo_list, sumTo_list]
  have e1 : (List.range b.length).map (fun i => g (b.getD i 0).toNat) = b.map (fun x => g x.toNat) := by
    conv => rhs; rw [← list_of_getD b]
    rw [List.map_map]; rfl
  have e2 : (List.range b.length).map g = (ident b.length).map (fun x => g x.toNat) := by
    unfold ident; rw [List.map_map]; rfl
  rw [e1, e2]
  exact perm_sum (hb.map _)

/-- Do p and q stand the wrong way round? -/
def wr2 (p q : Nat) (x y : Int) : Nat := if (p < q ∧ y < x) ∨ (q < p ∧ x < y) then 1 else 0

def wrong (z : Nat → Int) (p q : Nat) : Nat := wr2 p q (z p) (z q)

theorem wrong_sym (z : Nat → Int) (p q : Nat) : wrong z p q = wrong z q p := by
  unfold wrong wr2
  by_cases h : (p < q ∧ z q < z p) ∨ (q < p ∧ z p < z q)
  · rw [if_pos h, if_pos h.symm]
  · rw [if_neg h, if_neg (fun x => h x.symm)]

theorem double (n : Nat) (E : Nat → Nat → Nat) (hs : ∀ p q, E p q = E q p) (hd : ∀ p, E p p = 0) :
    sumTo (fun p => sumTo (fun q => E p q) n) n = 2 * sumTo (fun p => sumTo (fun q => if p < q then E p q else 0) n) n := by
  have h1 : sumTo (fun p => sumTo (fun q => E p q) n) n = sumTo (fun p => sumTo (fun q => if p < q then E p q else 0) n) n + sumTo (fun p => sumTo (fun q => if q < p then E p q else 0) n) n := by
    rw [← sumTo_add]
    refine sumTo_congr _ _ _ fun p _ => ?_
    rw [← sumTo_add]
    refine sumTo_congr _ _ _ fun q _ => ?_
    rcases Nat.lt_trichotomy p q with h | h | h
    · rw [if_pos h, if_neg (by omega)]; omega
    · subst h; rw [if_neg (by omega), hd]
    · rw [if_neg (by omega), if_pos h]; omega
  have h2 : sumTo (fun p => sumTo (fun q => if q < p then E p q else 0) n) n = sumTo (fun p => sumTo (fun q => if p < q then E p q else 0) n) n := by
    rw [sumTo_swap]
    refine sumTo_congr _ _ _ fun p _ => sumTo_congr _ _ _ fun q _ => ?_
    by_cases h : p < q
    · rw [if_pos h, if_pos h, hs]
    · rw [if_neg h, if_neg h]
  rw [h1, h2]; omega

theorem pairs_wrong (z : List Int) : sumTo (fun p => sumTo (fun q => wrong (fun i => z.getD i 0) p q) z.length) z.length = 2 * pairs z := by
  rw [double _ _ (wrong_sym _) (fun p => by unfold wrong wr2; rw [if_neg (by omega)])]
  congr 1
  unfold pairs less
  refine sumTo_congr _ _ _ fun p _ => sumTo_congr _ _ _ fun q _ => ?_
  unfold wrong wr2 lessI
  by_cases h : p < q
  · rw [if_pos h]
    by_cases h2 : z.getD q 0 < z.getD p 0
    · rw [if_pos (.inl ⟨h, h2⟩), if_pos ⟨h, h2⟩]
    · rw [if_neg (by rintro (x | x); exact h2 x.2; omega), if_neg (fun x => h2 x.2)]
  · rw [if_neg h, if_neg (fun x => h x.1)]

theorem sumTo_mul (f : Nat → Nat) (c n : Nat) : sumTo (fun i => c * f i) n = c * sumTo f n := by
  induction n with
  | zero => rfl
  | succ n ih => simp only [sumTo]; rw [ih, Nat.mul_add]

theorem nodup_getD {z : List Int} (h : z.Nodup) {p q : Nat} (hp : p < z.length) (hq : q < z.length) (e : z.getD p 0 = z.getD q 0) : p = q := by
  simp [List.getD, hp, hq] at e
  have hpw := List.pairwise_iff_getElem.1 (List.nodup_iff_pairwise_ne.1 h)
  rcases Nat.lt_trichotomy p q with h1 | h1 | h1
  · exact absurd e (hpw p q hp hq h1)
  · exact h1
  · exact absurd e.symm (hpw q p hq hp h1)

theorem pairs_mul (a b both : List Int) (ha : IsOrd a) (hb : IsOrd b) (hl : a.length = b.length) (hl2 : both.length = b.length)
    (hc : ∀ i, i < b.length → both.getD i 0 = a.getD (b.getD i 0).toNat 0) : signN (pairs both) = signN (pairs a) * signN (pairs b) := by
  obtain ⟨n, hn⟩ : ∃ n, n = b.length := ⟨_, rfl⟩
  have hbr : ∀ i, i < n → 0 ≤ b.getD i 0 ∧ b.getD i 0 < n := by
    intro i hi
    have := hb.range (b.getD i 0) (by simp [List.getD, show i < b.length by omega])
    rwa [← hn] at this
  have e1 := pairs_wrong both
  have e2 := pairs_wrong a
  have e3 := pairs_wrong b
  rw [hl2, ← hn] at e1
  rw [hl, ← hn] at e2
  rw [← hn] at e3
  let A : Nat → Int := fun i => a.getD i 0
  let Bf : Nat → Int := fun i => b.getD i 0
  let W : Nat → Nat → Nat := fun p q => wrong A (Bf p).toNat (Bf q).toNat
  -- both is wrong where just one of them is
  have key : ∀ p q, p < n → q < n → wrong (fun i => both.getD i 0) p q + 2 * (wrong Bf p q * W p q) = wrong Bf p q + W p q := by
    intro p q hp hq
    have hbp := hbr p hp
    have hbq := hbr q hq
    show wrong (fun i => both.getD i 0) p q + 2 * (wrong Bf p q * wrong A (Bf p).toNat (Bf q).toNat) = wrong Bf p q + wrong A (Bf p).toNat (Bf q).toNat
    by_cases hpq : p = q
    · subst hpq
      have z : ∀ (f : Nat → Int) (r : Nat), wrong f r r = 0 := fun f r => by unfold wrong wr2; rw [if_neg (by omega)]
      rw [z, z, z]
    · have hne : b.getD p 0 ≠ b.getD q 0 := fun e => hpq (nodup_getD hb.nodup (by omega) (by omega) e)
      have hnt : (b.getD p 0).toNat ≠ (b.getD q 0).toNat := by omega
      have hane : a.getD (b.getD p 0).toNat 0 ≠ a.getD (b.getD q 0).toNat 0 := fun e => hnt (nodup_getD ha.nodup (by omega) (by omega) e)
      show wr2 p q (both.getD p 0) (both.getD q 0) + 2 * (wr2 p q (b.getD p 0) (b.getD q 0) * wr2 (b.getD p 0).toNat (b.getD q 0).toNat (a.getD (b.getD p 0).toNat 0) (a.getD (b.getD q 0).toNat 0)) = wr2 p q (b.getD p 0) (b.getD q 0) + wr2 (b.getD p 0).toNat (b.getD q 0).toNat (a.getD (b.getD p 0).toNat 0) (a.getD (b.getD q 0).toNat 0)
      rw [hc p (by omega), hc q (by omega)]
      generalize a.getD (b.getD p 0).toNat 0 = x at *
      generalize a.getD (b.getD q 0).toNat 0 = y at *
      generalize b.getD p 0 = u at *
      generalize b.getD q 0 = v at *
      unfold wr2
      (repeat' split) <;> omega
  have s1 : sumTo (fun p => sumTo (fun q => wrong (fun i => both.getD i 0) p q + 2 * (wrong Bf p q * W p q)) n) n = sumTo (fun p => sumTo (fun q => wrong Bf p q + W p q) n) n :=
    sumTo_congr _ _ _ fun p hp => sumTo_congr _ _ _ fun q hq => key p q hp hq
  have s2 : sumTo (fun p => sumTo (fun q => wrong (fun i => both.getD i 0) p q + 2 * (wrong Bf p q * W p q)) n) n = sumTo (fun p => sumTo (fun q => wrong (fun i => both.getD i 0) p q) n) n + 2 * sumTo (fun p => sumTo (fun q => wrong Bf p q * W p q) n) n := by
    rw [← sumTo_mul, ← sumTo_add]
    refine sumTo_congr _ _ _ fun p _ => ?_
    rw [← sumTo_mul, ← sumTo_add]
  have s3 : sumTo (fun p => sumTo (fun q => wrong Bf p q + W p q) n) n = sumTo (fun p => sumTo (fun q => wrong Bf p q) n) n + sumTo (fun p => sumTo (fun q => W p q) n) n := by
    rw [← sumTo_add]
    exact sumTo_congr _ _ _ fun p _ => by rw [← sumTo_add]
  have s4 : sumTo (fun p => sumTo (fun q => W p q) n) n = sumTo (fun p => sumTo (fun q => wrong A p q) n) n := by
    have r1 : ∀ r, sumTo (fun q => wrong A r (Bf q).toNat) n = sumTo (fun q => wrong A r q) n := fun r => by
      have := sum_reindex b hb (fun q => wrong A r q)
      rwa [← hn] at this
    have r2 : sumTo (fun p => sumTo (fun q => W p q) n) n = sumTo (fun p => sumTo (fun q => wrong A (Bf p).toNat q) n) n :=
      sumTo_congr _ _ _ fun p _ => r1 _
    rw [r2]
    have := sum_reindex b hb (fun p => sumTo (fun q => wrong A p q) n)
    rwa [← hn] at this
  have s5 := double n (fun p q => wrong Bf p q * W p q) (fun p q => by show _ * wrong A _ _ = _ * wrong A _ _; rw [wrong_sym Bf, wrong_sym A]) (fun p => by
    have : wrong Bf p p = 0 := by unfold wrong wr2; rw [if_neg (by omega)]
    rw [this, Nat.zero_mul])
  rw [s2, s3, s4, s5] at s1
  have e3' : sumTo (fun p => sumTo (fun q => wrong Bf p q) n) n = 2 * pairs b := e3
  have e2' : sumTo (fun p => sumTo (fun q => wrong A p q) n) n = 2 * pairs a := e2
  rw [e1, e2', e3'] at s1
  generalize sumTo (fun p => sumTo (fun q => if p < q then wrong Bf p q * W p q else 0) n) n = X at s1
  unfold signN
  rcases Nat.mod_two_eq_zero_or_one (pairs a) with h1 | h1 <;> rcases Nat.mod_two_eq_zero_or_one (pairs b) with h2 | h2
  · rw [if_pos h1, if_pos h2, if_pos (by omega)]; rfl
  · rw [if_pos h1, if_neg (by omega), if_neg (by omega)]; rfl
  · rw [if_neg (by omega), if_pos h2, if_neg (by omega)]; rfl
  · rw [if_neg (show ¬ pairs a % 2 = 0 by omega), if_neg (show ¬ pairs b % 2 = 0 by omega), if_pos (by omega)]; rfl

theorem signN_succ (p : Nat) : signN (p + 1) = -signN p := by
  unfold signN
  by_cases h : p % 2 = 0
  · rw [if_neg (by omega), if_pos h]
  · rw [if_pos (by omega), if_neg h]; rfl

theorem signN_bd (p : Nat) : -1 ≤ signN p ∧ signN p ≤ 1 := by unfold signN; split <;> omega


def metTo (zs : List Int) (i k : Nat) : Nat := sumTo (fun j => sumTo (moreI zs j) j) i + sumTo (moreI zs i) k

theorem metTo_next (zs : List Int) (i k : Nat) : metTo zs i (k + 1) = metTo zs i k + moreI zs i k := by simp [metTo, sumTo]; omega
theorem metTo_row (zs : List Int) (i : Nat) : metTo zs (i + 1) 0 = metTo zs i i := by simp [metTo, sumTo]
theorem metTo_end (zs : List Int) : metTo zs zs.length 0 = pairs zs := by rw [pairs_eq]; simp [metTo, sumTo]


end Go.Proofs.YticalbpohhpjaaaDoor
