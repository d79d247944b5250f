/-
  Plain facts on orders: the nth order is one, and its number is n; the sign of one order put behind another is the product of both signs.
-/
import Derived.Test.YtdipbbcggccgcabSign3
namespace Go.Proofs.Ytdipbbcggccgcab

/-! ### The nth order is an order, and has that number -/

theorem nth_good (n k i : Nat) (hi : i ≤ n) (hk : k < fact n) : (nthSt n k i).1.Nodup ∧ ∀ x ∈ (nthSt n k i).1, 0 ≤ x ∧ x < n := by
  induction i with
  | zero => exact ⟨List.nodup_nil, by simp [nthSt]⟩
  | succ i ih =>
    obtain ⟨h1, h2⟩ := ih (by omega)
    have hlen := nth_length n k i
    have hat := at_lt n k i (by omega) hk
    have hL := (leftOf_length n k i (by omega) hk).1
    have hm : (leftOf n (nthSt n k i).1).getD ((nthSt n k i).2 / fact (n - 1 - (nthSt n k i).1.length)) 0 ∈ leftOf n (nthSt n k i).1 := by
      rw [hlen]
      simp [List.getD, show (nthSt n k i).2 / fact (n - 1 - i) < (leftOf n (nthSt n k i).1).length by omega]
    have hm2 := (mem_leftOf _ _ _).1 hm
    refine ⟨?_, ?_⟩
    · show ((nthSt n k i).1 ++ [_]).Nodup
      rw [List.nodup_append]
      refine ⟨h1, by simp, fun x hx y hy e => ?_⟩
      simp at hy
      subst hy
      subst e
      exact hm2.2 hx
    · intro x hx
      have hx' : x ∈ (nthSt n k i).1 ++ [(leftOf n (nthSt n k i).1).getD ((nthSt n k i).2 / fact (n - 1 - (nthSt n k i).1.length)) 0] := hx
      rcases List.mem_append.1 hx' with h | h
      · exact h2 x h
      · rw [List.mem_singleton] at h
        rw [h]
        exact hm2.1

theorem nth_ord (n k : Nat) (hk : k < fact n) : IsOrd (nthSt n k n).1 := by
  have h := nth_good n k n (Nat.le_refl _) hk
  refine isOrd_of_nodup _ h.1 (fun x hx => ?_)
  rw [nth_length]
  exact h.2 x hx

theorem nth_take (n k i d : Nat) : (nthSt n k (i + d)).1.take i = (nthSt n k i).1 := by
  induction d with
  | zero => rw [Nat.add_zero, List.take_of_length_le (by rw [nth_length]; exact Nat.le_refl _)]
  | succ d ih =>
    show ((nthSt n k (i + d)).1 ++ [_]).take i = _
    rw [List.take_append_of_le_length (by rw [nth_length]; omega), ih]

theorem nth_at (n k i : Nat) (hi : i < n) : (nthSt n k n).1.getD i 0 = (leftOf n (nthSt n k i).1).getD ((nthSt n k i).2 / fact (n - 1 - i)) 0 := by
  have h := nth_take n k (i + 1) (n - (i + 1))
  rw [show i + 1 + (n - (i + 1)) = n by omega] at h
  have e : (nthSt n k n).1.getD i 0 = (nthSt n k (i + 1)).1.getD i 0 := by
    rw [← h]; simp [List.getD]
  rw [e]
  show ((nthSt n k i).1 ++ [_]).getD i 0 = _
  have hl := nth_length n k i
  simp [List.getD, hl]

theorem less_countP (zs : List Int) (i : Nat) (hi : i < zs.length) : less zs i = (zs.drop (i + 1)).countP (fun y => decide (y < zs.getD i 0)) := by
  have h : ∀ d, i + 1 + d ≤ zs.length → sumTo (lessI zs i) (i + 1 + d) = ((zs.drop (i + 1)).take d).countP (fun y => decide (y < zs.getD i 0)) := by
    intro d
    induction d with
    | zero => intro _; rw [Nat.add_zero, less_start _ _ _ (Nat.le_refl _)]; simp
    | succ d ih =>
      intro hd
      have hd' : d < (zs.drop (i + 1)).length := by simp; omega
      rw [← Nat.add_assoc]
      simp only [sumTo]
      rw [ih (by omega), List.take_succ_eq_append_getElem hd', List.countP_append]
      congr 1
      have e : (zs.drop (i + 1))[d] = zs.getD (i + 1 + d) 0 := by simp [List.getD, show i + 1 + d < zs.length by omega]
      rw [e]
      unfold lessI
      by_cases hv : zs.getD (i + 1 + d) 0 < zs.getD i 0
      · rw [if_pos ⟨by omega, hv⟩]; simp only [List.countP_cons, List.countP_nil, decide_eq_true hv]; rfl
      · rw [if_neg (fun x => hv x.2)]; simp only [List.countP_cons, List.countP_nil, decide_eq_false hv]; rfl
  have h1 := h (zs.length - (i + 1)) (by omega)
  rw [show i + 1 + (zs.length - (i + 1)) = zs.length by omega] at h1
  unfold less
  rw [h1, List.take_of_length_le (by simp)]

theorem sorted_countP (L : List Int) (h : L.Pairwise (· < ·)) (a : Nat) (ha : a < L.length) : L.countP (fun y => decide (y < L.getD a 0)) = a := by
  induction L generalizing a with
  | nil => simp at ha
  | cons x L ih =>
    rw [List.pairwise_cons] at h
    cases a with
    | zero =>
      rw [List.countP_eq_zero]
      intro y hy
      rcases List.mem_cons.1 hy with rfl | hy
      · simp
      · have := h.1 y hy
        simp
        omega
    | succ a =>
      have ha' : a < L.length := by simpa using ha
      have hm : L.getD a 0 ∈ L := by simp [List.getD, ha']
      have hx := h.1 _ hm
      rw [List.getD_cons_succ, List.countP_cons_of_pos (by simpa using hx), ih h.2 a ha']

theorem ident_sorted (n : Nat) : (ident n).Pairwise (· < ·) := by
  unfold ident
  rw [List.pairwise_map]
  exact List.pairwise_lt_range.imp (fun h => by simpa using h)

theorem nth_less (n k i : Nat) (hi : i < n) (hk : k < fact n) : less (nthSt n k n).1 i = (nthSt n k i).2 / fact (n - 1 - i) := by
  have ho := nth_ord n k hk
  have hl := nth_length n k n
  have hat := at_lt n k i hi hk
  have hL := (leftOf_length n k i (by omega) hk).1
  rw [less_countP _ _ (by omega), nth_at n k i hi]
  have htake := nth_take n k i (n - i)
  rw [show i + (n - i) = n by omega] at htake
  obtain ⟨out, hout⟩ : ∃ out, out = (nthSt n k n).1 := ⟨_, rfl⟩
  have hx := nth_at n k i hi
  rw [← hout] at ho hl htake hx ⊢
  have hnd := ho.nodup
  -- what stands from i on is what is left
  have hp : (out.drop i).Perm (leftOf n (nthSt n k i).1) := by
    refine (perm_of_sub (leftOf n (nthSt n k i).1) (leftOf_nodup _ _) (out.drop i) (fun x hx => ?_) (by rw [hL]; simp; omega))
    have hm := (mem_leftOf _ _ _).1 hx
    have hmo : x ∈ out := ho.mem_iff.2 ((mem_ident _ _).2 (by rw [hl]; exact hm.1))
    rw [← List.take_append_drop i out] at hmo
    rcases List.mem_append.1 hmo with h | h
    · rw [htake] at h; exact absurd h hm.2
    · exact h
  have hd : out.drop i = out.getD i 0 :: out.drop (i + 1) := by
    rw [List.drop_eq_getElem_cons (by omega)]; simp [List.getD, show i < out.length by omega]
  have hc := hp.countP_eq (fun y => decide (y < (leftOf n (nthSt n k i).1).getD ((nthSt n k i).2 / fact (n - 1 - i)) 0))
  rw [hd, hx, List.countP_cons_of_neg (by simp)] at hc
  rw [hc]
  exact sorted_countP (leftOf n (nthSt n k i).1) (by unfold leftOf; exact (ident_sorted n).filter _) _ (by omega)

theorem nth_number (n k : Nat) (hk : k < fact n) : numTo (nthSt n k n).1 n = k := by
  have hl := nth_length n k n
  have h : ∀ i, i ≤ n → numTo (nthSt n k n).1 i + (nthSt n k i).2 = k := by
    intro i hi
    induction i with
    | zero => simp [numTo, sumTo, nthSt]
    | succ i ih =>
      have h1 := ih (by omega)
      have h2 := nth_less n k i (by omega) hk
      have h3 : (nthSt n k (i + 1)).2 = (nthSt n k i).2 % fact (n - 1 - i) := by
        show (nthSt n k i).2 % fact (n - 1 - (nthSt n k i).1.length) = _
        rw [nth_length]
      have h4 := Nat.div_add_mod (nthSt n k i).2 (fact (n - 1 - i))
      have h5 : numTo (nthSt n k n).1 (i + 1) = numTo (nthSt n k n).1 i + less (nthSt n k n).1 i * fact ((nthSt n k n).1.length - 1 - i) := rfl
      rw [h5, h2, hl, h3, Nat.mul_comm (_ / _)]
      omega
  have h1 := h n (Nat.le_refl _)
  have h2 := (leftOf_length n k n (Nat.le_refl _) hk).2
  rw [Nat.sub_self] at h2
  simp only [fact] at h2
  omega

/-! ### Signs multiply -/

theorem sumTo_list (f : Nat → Nat) (n : Nat) : sumTo f n = ((List.range n).map f).sum := by
  induction n with
  | zero => rfl
  | succ n ih => rw [List.range_succ, List.map_append, List.sum_append]; simp [sumTo, ih]

theorem perm_sum {l l' : List Nat} (h : l.Perm l') : l.sum = l'.sum := by
  induction h with
  | nil => rfl
  | cons x _ ih => simp [ih]
  | swap x y l => simp; omega
  | trans _ _ ih1 ih2 => exact ih1.trans ih2

theorem list_of_getD (b : List Int) : (List.range b.length).map (fun i => b.getD i 0) = b := by
  apply List.ext_getElem (by simp)
  intro i h1 h2
  simp [List.getD, h2]

theorem sum_reindex (b : List Int) (hb : IsOrd b) (g : Nat → Nat) : sumTo (fun i => g (b.getD i 0).toNat) b.length = sumTo g b.length := by
  rw [sumTo_list, sumTo_list]
  have e1 : (List.range b.length).map (fun i => g (b.getD i 0).toNat) = b.map (fun x => g x.toNat) := by
    conv => rhs; rw [← list_of_getD b]
    rw [List.map_map]; rfl
  have e2 : (List.range b.length).map g = (ident b.length).map (fun x => g x.toNat) := by
    unfold ident; rw [List.map_map]; rfl
  rw [e1, e2]
  exact perm_sum (hb.map _)

/-- Do p and q stand the wrong way round? -/
def wr2 (p q : Nat) (x y : Int) : Nat := if (p < q ∧ y < x) ∨ (q < p ∧ x < y) then 1 else 0

def wrong (z : Nat → Int) (p q : Nat) : Nat := wr2 p q (z p) (z q)

theorem wrong_sym (z : Nat → Int) (p q : Nat) : wrong z p q = wrong z q p := by
  unfold wrong wr2
  by_cases h : (p < q ∧ z q < z p) ∨ (q < p ∧ z p < z q)
  · rw [if_pos h, if_pos h.symm]
  · rw [if_neg h, if_neg (fun x => h x.symm)]

theorem double (n : Nat) (E : Nat → Nat → Nat) (hs : ∀ p q, E p q = E q p) (hd : ∀ p, E p p = 0) :
    sumTo (fun p => sumTo (fun q => E p q) n) n = 2 * sumTo (fun p => sumTo (fun q => if p < q then E p q else 0) n) n := by
  have h1 : sumTo (fun p => sumTo (fun q => E p q) n) n = sumTo (fun p => sumTo (fun q => if p < q then E p q else 0) n) n + sumTo (fun p => sumTo (fun q => if q < p then E p q else 0) n) n := by
    rw [← sumTo_add]
    refine sumTo_congr _ _ _ fun p _ => ?_
    rw [← sumTo_add]
    refine sumTo_congr _ _ _ fun q _ => ?_
    rcases Nat.lt_trichotomy p q with h | h | h
    · rw [if_pos h, if_neg (by omega)]; omega
    · subst h; rw [if_neg (by omega), hd]
    · rw [if_neg (by omega), if_pos h]; omega
  have h2 : sumTo (fun p => sumTo (fun q => if q < p then E p q else 0) n) n = sumTo (fun p => sumTo (fun q => if p < q then E p q else 0) n) n := by
    rw [sumTo_swap]
    refine sumTo_congr _ _ _ fun p _ => sumTo_congr _ _ _ fun q _ => ?_
    by_cases h : p < q
    · rw [if_pos h, if_pos h, hs]
    · rw [if_neg h, if_neg h]
  rw [h1, h2]; omega

theorem pairs_wrong (z : List Int) : sumTo (fun p => sumTo (fun q => wrong (fun i => z.getD i 0) p q) z.length) z.length = 2 * pairs z := by
  rw [double _ _ (wrong_sym _) (fun p => by unfold wrong wr2; rw [if_neg (by omega)])]
  congr 1
  unfold pairs less
  refine sumTo_congr _ _ _ fun p _ => sumTo_congr _ _ _ fun q _ => ?_
  unfold wrong wr2 lessI
  by_cases h : p < q
  · rw [if_pos h]
    by_cases h2 : z.getD q 0 < z.getD p 0
    · rw [if_pos (.inl ⟨h, h2⟩), if_pos ⟨h, h2⟩]
    · rw [if_neg (by rintro (x | x); exact h2 x.2; omega), if_neg (fun x => h2 x.2)]
  · rw [if_neg h, if_neg (fun x => h x.1)]

theorem sumTo_mul (f : Nat → Nat) (c n : Nat) : sumTo (fun i => c * f i) n = c * sumTo f n := by
  induction n with
  | zero => rfl
  | succ n ih => simp only [sumTo]; rw [ih, Nat.mul_add]

theorem nodup_getD {z : List Int} (h : z.Nodup) {p q : Nat} (hp : p < z.length) (hq : q < z.length) (e : z.getD p 0 = z.getD q 0) : p = q := by
  simp [List.getD, hp, hq] at e
  have hpw := List.pairwise_iff_getElem.1 (List.nodup_iff_pairwise_ne.1 h)
  rcases Nat.lt_trichotomy p q with h1 | h1 | h1
  · exact absurd e (hpw p q hp hq h1)
  · exact h1
  · exact absurd e.symm (hpw q p hq hp h1)

theorem pairs_mul (a b both : List Int) (ha : IsOrd a) (hb : IsOrd b) (hl : a.length = b.length) (hl2 : both.length = b.length)
    (hc : ∀ i, i < b.length → both.getD i 0 = a.getD (b.getD i 0).toNat 0) : signN (pairs both) = signN (pairs a) * signN (pairs b) := by
  obtain ⟨n, hn⟩ : ∃ n, n = b.length := ⟨_, rfl⟩
  have hbr : ∀ i, i < n → 0 ≤ b.getD i 0 ∧ b.getD i 0 < n := by
    intro i hi
    have := hb.range (b.getD i 0) (by simp [List.getD, show i < b.length by omega])
    rwa [← hn] at this
  have e1 := pairs_wrong both
  have e2 := pairs_wrong a
  have e3 := pairs_wrong b
  rw [hl2, ← hn] at e1
  rw [hl, ← hn] at e2
  rw [← hn] at e3
  let A : Nat → Int := fun i => a.getD i 0
  let Bf : Nat → Int := fun i => b.getD i 0
  let W : Nat → Nat → Nat := fun p q => wrong A (Bf p).toNat (Bf q).toNat
  -- both is wrong where just one of them is
  have key : ∀ p q, p < n → q < n → wrong (fun i => both.getD i 0) p q + 2 * (wrong Bf p q * W p q) = wrong Bf p q + W p q := by
    intro p q hp hq
    have hbp := hbr p hp
    have hbq := hbr q hq
    show wrong (fun i => both.getD i 0) p q + 2 * (wrong Bf p q * wrong A (Bf p).toNat (Bf q).toNat) = wrong Bf p q + wrong A (Bf p).toNat (Bf q).toNat
    by_cases hpq : p = q
    · subst hpq
      have z : ∀ (f : Nat → Int) (r : Nat), wrong f r r = 0 := fun f r => by unfold wrong wr2; rw [if_neg (by omega)]
      rw [z, z, z]
    · have hne : b.getD p 0 ≠ b.getD q 0 := fun e => hpq (nodup_getD hb.nodup (by omega) (by omega) e)
      have hnt : (b.getD p 0).toNat ≠ (b.getD q 0).toNat := by omega
      have hane : a.getD (b.getD p 0).toNat 0 ≠ a.getD (b.getD q 0).toNat 0 := fun e => hnt (nodup_getD ha.nodup (by omega) (by omega) e)
      show wr2 p q (both.getD p 0) (both.getD q 0) + 2 * (wr2 p q (b.getD p 0) (b.getD q 0) * wr2 (b.getD p 0).toNat (b.getD q 0).toNat (a.getD (b.getD p 0).toNat 0) (a.getD (b.getD q 0).toNat 0)) = wr2 p q (b.getD p 0) (b.getD q 0) + wr2 (b.getD p 0).toNat (b.getD q 0).toNat (a.getD (b.getD p 0).toNat 0) (a.getD (b.getD q 0).toNat 0)
      rw [hc p (by omega), hc q (by omega)]
      generalize a.getD (b.getD p 0).toNat 0 = x at *
      generalize a.getD (b.getD q 0).toNat 0 = y at *
      generalize b.getD p 0 = u at *
      generalize b.getD q 0 = v at *
      unfold wr2
      (repeat' split) <;> omega
  have s1 : sumTo (fun p => sumTo (fun q => wrong (fun i => both.getD i 0) p q + 2 * (wrong Bf p q * W p q)) n) n = sumTo (fun p => sumTo (fun q => wrong Bf p q + W p q) n) n :=
    sumTo_congr _ _ _ fun p hp => sumTo_congr _ _ _ fun q hq => key p q hp hq
  have s2 : sumTo (fun p => sumTo (fun q => wrong (fun i => both.getD i 0) p q + 2 * (wrong Bf p q * W p q)) n) n = sumTo (fun p => sumTo (fun q => wrong (fun i => both.getD i 0) p q) n) n + 2 * sumTo (fun p => sumTo (fun q => wrong Bf p q * W p q) n) n := by
    rw [← sumTo_mul, ← sumTo_add]
    refine sumTo_congr _ _ _ fun p _ => ?_
    rw [← sumTo_mul, ← sumTo_add]
  have s3 : sumTo (fun p => sumTo (fun q => wrong Bf p q + W p q) n) n = sumTo (fun p => sumTo (fun q => wrong Bf p q) n) n + sumTo (fun p => sumTo (fun q => W p q) n) n := by
    rw [← sumTo_add]
    exact sumTo_congr _ _ _ fun p _ => by rw [← sumTo_add]
  have s4 : sumTo (fun p => sumTo (fun q => W p q) n) n = sumTo (fun p => sumTo (fun q => wrong A p q) n) n := by
    have r1 : ∀ r, sumTo (fun q => wrong A r (Bf q).toNat) n = sumTo (fun q => wrong A r q) n := fun r => by
      have := sum_reindex b hb (fun q => wrong A r q)
      rwa [← hn] at this
    have r2 : sumTo (fun p => sumTo (fun q => W p q) n) n = sumTo (fun p => sumTo (fun q => wrong A (Bf p).toNat q) n) n :=
      sumTo_congr _ _ _ fun p _ => r1 _
    rw [r2]
    have := sum_reindex b hb (fun p => sumTo (fun q => wrong A p q) n)
    rwa [← hn] at this
  have s5 := double n (fun p q => wrong Bf p q * W p q) (fun p q => by show _ * wrong A _ _ = _ * wrong A _ _; rw [wrong_sym Bf, wrong_sym A]) (fun p => by
    have : wrong Bf p p = 0 := by unfold wrong wr2; rw [if_neg (by omega)]
    rw [this, Nat.zero_mul])
  rw [s2, s3, s4, s5] at s1
  have e3' : sumTo (fun p => sumTo (fun q => wrong Bf p q) n) n = 2 * pairs b := e3
  have e2' : sumTo (fun p => sumTo (fun q => wrong A p q) n) n = 2 * pairs a := e2
  rw [e1, e2', e3'] at s1
  generalize sumTo (fun p => sumTo (fun q => if p < q then wrong Bf p q * W p q else 0) n) n = X at s1
  unfold signN
  rcases Nat.mod_two_eq_zero_or_one (pairs a) with h1 | h1 <;> rcases Nat.mod_two_eq_zero_or_one (pairs b) with h2 | h2
  · rw [if_pos h1, if_pos h2, if_pos (by omega)]; rfl
  · rw [if_pos h1, if_neg (by omega), if_neg (by omega)]; rfl
  · rw [if_neg (by omega), if_pos h2, if_neg (by omega)]; rfl
  · rw [if_neg (show ¬ pairs a % 2 = 0 by omega), if_neg (show ¬ pairs b % 2 = 0 by omega), if_pos (by omega)]; rfl

end Go.Proofs.Ytdipbbcggccgcab
