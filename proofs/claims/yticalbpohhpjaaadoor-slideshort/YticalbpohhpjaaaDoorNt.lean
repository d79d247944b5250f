/-
  The nth order, as package deck makes it. No conditions beyond those that each theorem bears.
-/
import Derived.Test.YticalbpohhpjaaaDoorPa
import Derived.Deep.RegionLaw
namespace Go.Proofs.YticalbpohhpjaaaDoor
open Go.RowKit

theorem retN {a b : Nat} (h : a = b) : Ending.returned (.int .i64 (a : Int)) = .returned (.int .i64 (b : Int)) := by rw [h]

def fact : Nat → Nat
  | 0 => 1
  | n + 1 => fact n * (n + 1)

theorem fact_pos (n : Nat) : 1 ≤ fact n := by
  induction n with
  | zero => exact Nat.le_refl _
  | succ n ih => simp only [fact]; exact Nat.mul_pos ih (Nat.succ_pos _)

theorem fact_le : ∀ n, n ≤ 12 → fact n ≤ 479001600 := by decide

/-- The number as the program reckons it. -/
def horner (zs : List Int) : Nat → Nat
  | 0 => 0
  | i + 1 => horner zs i * (zs.length - i) + less zs i

/-- The number as the document reckons it. -/
def numTo (zs : List Int) (n : Nat) : Nat := sumTo (fun i => less zs i * fact (zs.length - 1 - i)) n

theorem horner_num (zs : List Int) (i : Nat) (hi : i ≤ zs.length) : horner zs i * fact (zs.length - i) = numTo zs i := by
  induction i with
  | zero => simp [horner, numTo, sumTo]
  | succ i ih =>
    have h := ih (by omega)
    have e : fact (zs.length - i) = fact (zs.length - (i + 1)) * (zs.length - i) := by
      rw [show zs.length - i = (zs.length - (i + 1)) + 1 by omega]; rfl
    simp only [horner, numTo, sumTo] at h ⊢
    rw [← h, e, Nat.add_mul, show zs.length - 1 - i = zs.length - (i + 1) by omega, Nat.mul_assoc, Nat.mul_comm (zs.length - i) (fact _)]

theorem horner_end (zs : List Int) : horner zs zs.length = numTo zs zs.length := by
  have := horner_num zs zs.length (Nat.le_refl _)
  rw [Nat.sub_self] at this
  simpa [fact] using this

theorem horner_lt (zs : List Int) (h : zs.length ≤ 12) (i : Nat) (hi : i ≤ zs.length) : horner zs i < 13 ^ i := by
  induction i with
  | zero => simp [horner]
  | succ i ih =>
    have h1 := ih (by omega)
    have h2 := less_le zs i (by omega)
    simp only [horner]
    have h3 : horner zs i * (zs.length - i) ≤ horner zs i * 12 := Nat.mul_le_mul_left _ (by omega)
    rw [Nat.pow_succ]
    omega

theorem horner_le (zs : List Int) (h : zs.length ≤ 12) (i : Nat) (hi : i ≤ zs.length) : horner zs i ≤ 23298085122481 := by
  have h1 := horner_lt zs h i hi
  have h2 : 13 ^ i ≤ 13 ^ 12 := Nat.pow_le_pow_right (by omega) (by omega)
  have : (13 : Nat) ^ 12 = 23298085122481 := by decide
  omega

theorem numTo_le (zs : List Int) (h : zs.length ≤ 12) (i : Nat) (hi : i ≤ zs.length) : numTo zs i ≤ 12 * (12 * 479001600) := by
  have := sumTo_le (fun i => less zs i * fact (zs.length - 1 - i)) i (12 * 479001600) (fun j hj => Nat.mul_le_mul (by have := less_le zs j (by omega); omega) (fact_le _ (by omega)))
  exact Nat.le_trans this (Nat.mul_le_mul_right _ (by omega))

/-! ### The nth order -/

/-- What is left of 0 to n - 1, in their order. -/
def leftOf (n : Nat) (out : List Int) : List Int := (ident n).filter (fun x => !out.contains x)

/-- One step: the order so far, and what is left of its number. -/
def nthStep (n : Nat) (s : List Int × Nat) : List Int × Nat :=
  (s.1 ++ [(leftOf n s.1).getD (s.2 / fact (n - 1 - s.1.length)) 0], s.2 % fact (n - 1 - s.1.length))

def nthSt (n k : Nat) : Nat → List Int × Nat
  | 0 => ([], k)
  | i + 1 => nthStep n (nthSt n k i)

theorem nth_length (n k i : Nat) : (nthSt n k i).1.length = i := by
  induction i with
  | zero => rfl
  | succ i ih => simp [nthSt, nthStep, ih]

theorem leftOf_nodup (n : Nat) (out : List Int) : (leftOf n out).Nodup := (ident_nodup n).filter _

theorem mem_leftOf (n : Nat) (out : List Int) (x : Int) : x ∈ leftOf n out ↔ (0 ≤ x ∧ x < n) ∧ x ∉ out := by
  unfold leftOf
  rw [List.mem_filter, mem_ident]
  simp

theorem erase_nodup (L : List Int) (h : L.Nodup) (i : Nat) (hi : i < L.length) : L.take i ++ L.drop (i + 1) = L.filter (fun x => !(x == L.getD i 0)) := by
  induction L generalizing i with
  | nil => simp at hi
  | cons a L ih =>
    rw [List.nodup_cons] at h
    cases i with
    | zero =>
      simp only [List.take_zero, List.nil_append, List.drop_succ_cons, List.drop_zero, List.getD_cons_zero]
      rw [List.filter_cons_of_neg (by simp), List.filter_eq_self.2]
      intro x hx
      have : x ≠ a := fun e => h.1 (e ▸ hx)
      simpa using this
    | succ i =>
      simp only [List.take_succ_cons, List.cons_append, List.drop_succ_cons, List.getD_cons_succ]
      have hi' : i < L.length := by simpa using hi
      have hm : L.getD i 0 ∈ L := by simp [List.getD, hi']
      have hne : a ≠ L.getD i 0 := fun e => h.1 (e ▸ hm)
      rw [List.filter_cons_of_pos (by simpa using hne), ih h.2 i hi']

theorem leftOf_snoc (n : Nat) (out : List Int) (i : Nat) (hi : i < (leftOf n out).length) :
    (leftOf n out).take i ++ (leftOf n out).drop (i + 1) = leftOf n (out ++ [(leftOf n out).getD i 0]) := by
  rw [erase_nodup _ (leftOf_nodup _ _) i hi]
  generalize (leftOf n out).getD i 0 = y
  unfold leftOf
  rw [List.filter_filter]
  refine List.filter_congr fun x _ => ?_
  rw [Bool.eq_iff_iff]
  simp
  constructor <;> (intro h; exact ⟨h.2, h.1⟩)

theorem leftOf_nil (n : Nat) : leftOf n [] = ident n := List.filter_eq_self.2 (fun _ _ => rfl)

theorem leftOf_length (n k i : Nat) (hi : i ≤ n) (hk : k < fact n) : (leftOf n (nthSt n k i).1).length = n - i ∧ (nthSt n k i).2 < fact (n - i) := by
  induction i with
  | zero => exact ⟨by show (leftOf n []).length = _; rw [leftOf_nil, ident_length]; rfl, by simpa [nthSt] using hk⟩
  | succ i ih =>
    obtain ⟨h1, h2⟩ := ih (by omega)
    have hlen := nth_length n k i
    have e : fact (n - i) = fact (n - 1 - i) * (n - i) := by
      rw [show n - i = (n - 1 - i) + 1 by omega]; rfl
    have hat : (nthSt n k i).2 / fact (n - 1 - i) < n - i := by
      rw [Nat.div_lt_iff_lt_mul (fact_pos _), Nat.mul_comm, ← e]; exact h2
    refine ⟨?_, ?_⟩
    · show (leftOf n ((nthSt n k i).1 ++ [_])).length = _
      rw [hlen, ← leftOf_snoc n _ _ (by omega)]
      simp
      omega
    · show (nthSt n k i).2 % fact (n - 1 - (nthSt n k i).1.length) < _
      rw [hlen, show n - (i + 1) = n - 1 - i by omega]
      exact Nat.mod_lt _ (fact_pos _)

theorem at_lt (n k i : Nat) (hi : i < n) (hk : k < fact n) : (nthSt n k i).2 / fact (n - 1 - i) < n - i := by
  have h2 := (leftOf_length n k i (by omega) hk).2
  have e : fact (n - i) = fact (n - 1 - i) * (n - i) := by
    rw [show n - i = (n - 1 - i) + 1 by omega]; rfl
  rw [Nat.div_lt_iff_lt_mul (fact_pos _), Nat.mul_comm, ← e]; exact h2

/-- How many of 0 to x - 1 are not in out. -/
def free (out : List Int) (x : Nat) : Nat := (leftOf x out).length

theorem ident_succ (x : Nat) : ident (x + 1) = ident x ++ [(x : Int)] := by
  unfold ident; rw [List.range_succ]; simp

theorem leftOf_succ (out : List Int) (x : Nat) : leftOf (x + 1) out = leftOf x out ++ if (x : Int) ∈ out then [] else [(x : Int)] := by
  unfold leftOf
  rw [ident_succ, List.filter_append]
  by_cases h : (x : Int) ∈ out <;> simp [h]

theorem free_in (out : List Int) (x : Nat) (h : (x : Int) ∈ out) : free out (x + 1) = free out x := by
  unfold free; rw [leftOf_succ, if_pos h]; simp

theorem free_not (out : List Int) (x : Nat) (h : (x : Int) ∉ out) : free out (x + 1) = free out x + 1 := by
  unfold free; rw [leftOf_succ, if_neg h]; simp

theorem leftOf_more (out : List Int) (x n : Nat) (h : x ≤ n) : ∃ l, leftOf n out = leftOf x out ++ l := by
  induction n with
  | zero => obtain rfl : x = 0 := by omega
            exact ⟨[], by simp⟩
  | succ n ih =>
    by_cases e : x = n + 1
    · subst e; exact ⟨[], by simp⟩
    · obtain ⟨l, hl⟩ := ih (by omega)
      exact ⟨l ++ if (n : Int) ∈ out then [] else [(n : Int)], by rw [leftOf_succ, hl, List.append_assoc]⟩

theorem leftOf_at (out : List Int) (x n : Nat) (hx : x < n) (h : (x : Int) ∉ out) : (leftOf n out).getD (free out x) 0 = (x : Int) := by
  obtain ⟨l, hl⟩ := leftOf_more out (x + 1) n hx
  rw [hl, leftOf_succ, if_neg h]
  unfold free
  simp [List.getD]



/-! ### The nth order is an order, and has that number -/

theorem nth_good (n k i : Nat) (hi : i ≤ n) (hk : k < fact n) : (nthSt n k i).1.Nodup ∧ ∀ x ∈ (nthSt n k i).1, 0 ≤ x ∧ x < n := by
  induction i with
  | zero => exact ⟨List.nodup_nil, by simp [nthSt]⟩
  | succ i ih =>
    obtain ⟨h1, h2⟩ := ih (by omega)
    have hlen := nth_length n k i
    have hat := at_lt n k i (by omega) hk
    have hL := (leftOf_length n k i (by omega) hk).1
    have hm : (leftOf n (nthSt n k i).1).getD ((nthSt n k i).2 / fact (n - 1 - (nthSt n k i).1.length)) 0 ∈ leftOf n (nthSt n k i).1 := by
      rw [hlen]
      simp [List.getD, show (nthSt n k i).2 / fact (n - 1 - i) < (leftOf n (nthSt n k i).1).length by omega]
    have hm2 := (mem_leftOf _ _ _).1 hm
    refine ⟨?_, ?_⟩
    · show ((nthSt n k i).1 ++ [_]).Nodup
      rw [List.nodup_append]
      refine ⟨h1, by simp, fun x hx y hy e => ?_⟩
      simp at hy
      subst hy
      subst e
      exact hm2.2 hx
    · intro x hx
      have hx' : x ∈ (nthSt n k i).1 ++ [(leftOf n (nthSt n k i).1).getD ((nthSt n k i).2 / fact (n - 1 - (nthSt n k i).1.length)) 0] := hx
      rcases List.mem_append.1 hx' with h | h
      · exact h2 x h
      · rw [List.mem_singleton] at h
        rw [h]
        exact hm2.1

theorem nth_ord (n k : Nat) (hk : k < fact n) : IsOrd (nthSt n k n).1 := by
  have h := nth_good n k n (Nat.le_refl _) hk
  refine isOrd_of_nodup _ h.1 (fun x hx => ?_)
  rw [nth_length]
  exact h.2 x hx

theorem nth_take (n k i d : Nat) : (nthSt n k (i + d)).1.take i = (nthSt n k i).1 := by
  induction d with
  | zero => rw [Nat.add_zero, List.take_of_length_le (by rw [nth_length]; exact Nat.le_refl _)]
  | succ d ih =>
    show ((nthSt n k (i + d)).1 ++ [_]).take i = _
    rw [List.take_append_of_le_length (by rw [nth_length]; omega), ih]

theorem nth_at (n k i : Nat) (hi : i < n) : (nthSt n k n).1.getD i 0 = (leftOf n (nthSt n k i).1).getD ((nthSt n k i).2 / fact (n - 1 - i)) 0 := by
  have h := nth_take n k (i + 1) (n - (i + 1))
  rw [show i + 1 + (n - (i + 1)) = n by omega] at h
  have e : (nthSt n k n).1.getD i 0 = (nthSt n k (i + 1)).1.getD i 0 := by
    rw [← h]; simp [List.getD]
  rw [e]
  show ((nthSt n k i).1 ++ [_]).getD i 0 = _
  have hl := nth_length n k i
  simp [List.getD, hl]

theorem less_countP (zs : List Int) (i : Nat) (hi : i < zs.length) : less zs i = (zs.drop (i + 1)).countP (fun y => decide (y < zs.getD i 0)) := by
  have h : ∀ d, i + 1 + d ≤ zs.length → sumTo (lessI zs i) (i + 1 + d) = ((zs.drop (i + 1)).take d).countP (fun y => decide (y < zs.getD i 0)) := by
    intro d
    induction d with
    | zero => intro _; rw [Nat.add_zero, less_start _ _ _ (Nat.le_refl _)]; simp
    | succ d ih =>
      intro hd
      have hd' : d < (zs.drop (i + 1)).length := by simp; omega
      rw [← Nat.add_assoc]
      simp only [sumTo]
      rw [ih (by omega), List.take_succ_eq_append_getElem hd', List.countP_append]
      congr 1
      have e : (zs.drop (i + 1))[d] = zs.getD (i + 1 + d) 0 := by simp [List.getD, show i + 1 + d < zs.length by omega]
      rw [e]
      unfold lessI
      by_cases hv : zs.getD (i + 1 + d) 0 < zs.getD i 0
      · rw [if_pos ⟨by omega, hv⟩]; simp only [List.countP_cons, List.countP_nil, decide_eq_true hv]; rfl
      · rw [if_neg (fun x => hv x.2)]; simp only [List.countP_cons, List.countP_nil, decide_eq_false hv]; rfl
  have h1 := h (zs.length - (i + 1)) (by omega)
  rw [show i + 1 + (zs.length - (i + 1)) = zs.length by omega] at h1
  unfold less
  rw [h1, List.take_of_length_le (by simp)]

theorem sorted_countP (L : List Int) (h : L.Pairwise (· < ·)) (a : Nat) (ha : a < L.length) : L.countP (fun y => decide (y < L.getD a 0)) = a := by
  induction L generalizing a with
  | nil => simp at ha
  | cons x L ih =>
    rw [List.pairwise_cons] at h
    cases a with
    | zero =>
      rw [List.countP_eq_zero]
      intro y hy
      rcases List.mem_cons.1 hy with rfl | hy
      · simp
      · have := h.1 y hy
        simp
        omega
    | succ a =>
      have ha' : a < L.length := by simpa using ha
      have hm : L.getD a 0 ∈ L := by simp [List.getD, ha']
      have hx := h.1 _ hm
      rw [List.getD_cons_succ, List.countP_cons_of_pos (by simpa using hx), ih h.2 a ha']

theorem ident_sorted (n : Nat) : (ident n).Pairwise (· < ·) := by
  unfold ident
  rw [List.pairwise_map]
  exact List.pairwise_lt_range.imp (fun h => by simpa using h)

theorem nth_less (n k i : Nat) (hi : i < n) (hk : k < fact n) : less (nthSt n k n).1 i = (nthSt n k i).2 / fact (n - 1 - i) := by
  have ho := nth_ord n k hk
  have hl := nth_length n k n
  have hat := at_lt n k i hi hk
  have hL := (leftOf_length n k i (by omega) hk).1
  rw [less_countP _ _ (by omega), nth_at n k i hi]
  have htake := nth_take n k i (n - i)
  rw [show i + (n - i) = n by omega] at htake
  obtain ⟨out, hout⟩ : ∃ out, out = (nthSt n k n).1 := ⟨_, rfl⟩
  have hx := nth_at n k i hi
  rw [← hout] at ho hl htake hx ⊢
  have hnd := ho.nodup
  -- what stands from i on is what is left
  have hp : (out.drop i).Perm (leftOf n (nthSt n k i).1) := by
    refine (perm_of_sub (leftOf n (nthSt n k i).1) (leftOf_nodup _ _) (out.drop i) (fun x hx => ?_) (by rw [hL]; simp; omega))
    have hm := (mem_leftOf _ _ _).1 hx
    have hmo : x ∈ out := ho.mem_iff.2 ((mem_ident _ _).2 (by rw [hl]; exact hm.1))
    rw [← List.take_append_drop i out] at hmo
    rcases List.mem_append.1 hmo with h | h
    · rw [htake] at h; exact absurd h hm.2
    · exact h
  have hd : out.drop i = out.getD i 0 :: out.drop (i + 1) := by
    rw [List.drop_eq_getElem_cons (by omega)]; simp [List.getD, show i < out.length by omega]
  have hc := hp.countP_eq (fun y => decide (y < (leftOf n (nthSt n k i).1).getD ((nthSt n k i).2 / fact (n - 1 - i)) 0))
  rw [hd, hx, List.countP_cons_of_neg (by simp)] at hc
  rw [hc]
  exact sorted_countP (leftOf n (nthSt n k i).1) (by unfold leftOf; exact (ident_sorted n).filter _) _ (by omega)

theorem nth_number (n k : Nat) (hk : k < fact n) : numTo (nthSt n k n).1 n = k := by
  have hl := nth_length n k n
  have h : ∀ i, i ≤ n → numTo (nthSt n k n).1 i + (nthSt n k i).2 = k := by
    intro i hi
    induction i with
    | zero => simp [numTo, sumTo, nthSt]
    | succ i ih =>
      have h1 := ih (by omega)
      have h2 := nth_less n k i (by omega) hk
      have h3 : (nthSt n k (i + 1)).2 = (nthSt n k i).2 % fact (n - 1 - i) := by
        show (nthSt n k i).2 % fact (n - 1 - (nthSt n k i).1.length) = _
        rw [nth_length]
      have h4 := Nat.div_add_mod (nthSt n k i).2 (fact (n - 1 - i))
      have h5 : numTo (nthSt n k n).1 (i + 1) = numTo (nthSt n k n).1 i + less (nthSt n k n).1 i * fact ((nthSt n k n).1.length - 1 - i) := rfl
      rw [h5, h2, hl, h3, Nat.mul_comm (_ / _)]
      omega
  have h1 := h n (Nat.le_refl _)
  have h2 := (leftOf_length n k n (Nat.le_refl _) hk).2
  rw [Nat.sub_self] at h2
  simp only [fact] at h2
  omega

/-! ### Signs multiply -/


theorem ints_set (L : List Int) (i : Nat) (x : Int) : (L.map (Value.int .i64)).set i (.int .i64 x) = (L.set i x).map (Value.int .i64) := by
  rw [List.map_set]

theorem made_ints (n : Nat) : (madeCells #[Value.int .i64 0] n).toList = (List.replicate n (0 : Int)).map (Value.int .i64) := by
  rw [toList_madeCells_one, List.map_replicate]

theorem own_cell {wr : World} {base g n : Nat} {L : List Int} (h : wr.ownsRow base 3 1 (.slice (some ⟨g, 0, none⟩) n n) n (L.map (Value.int .i64))) (p : Nat) (hp : p < n) :
    wr.cell? ⟨g, p, none⟩ = some (.int .i64 (L.getD p 0)) ∧ wr.frozen? ⟨g, p, none⟩ = false := by
  refine ⟨?_, h.frozenAt p⟩
  have hl : L.length = n := by simpa using h.1
  rw [h.cellAt p (by omega)]
  simp [List.getD, hl, hp]

theorem own_set {wr : World} {base g n : Nat} {L : List Int} (h : wr.ownsRow base 3 1 (.slice (some ⟨g, 0, none⟩) n n) n (L.map (Value.int .i64))) (p : Nat) (x : Int) :
    (wr.setCell ⟨g, p, none⟩ (.int .i64 x)).ownsRow base 3 1 (.slice (some ⟨g, 0, none⟩) n n) n ((L.set p x).map (Value.int .i64)) := by
  have := (h.stored p (.int .i64 x)).1
  rwa [ints_set] at this

theorem ident_step (n : Nat) (L : List Int) (k : Nat) (hL : L.length = n) (hk : k < n) (H : ∀ p, p < k → L.getD p 0 = (p : Int)) : ∀ p, p < k + 1 → (L.set k (k : Int)).getD p 0 = (p : Int) := by
  intro p hp
  rw [getD_set _ _ _ _ (by omega)]
  by_cases h : p = k
  · subst h; rw [if_pos rfl]
  · rw [if_neg h]; exact H p (by omega)

def lenOf : Value → Nat
  | .slice _ n _ => n
  | _ => 0

/-- A slice of one number in a new block. -/
theorem Rd_one (w : World) (x : Int) : Rd (w.alloc (.cells #[.int .i64 x] 3)) (some ⟨w.heap.size, 0, none⟩) 1 1 [x] := by
  refine ⟨rfl, Nat.le_refl _, by unfold maxLen; omega, (fun h => by simp at h), fun _ => ⟨w.heap.size, 0, rfl, fun i hi => ?_⟩⟩
  obtain rfl : i = 0 := by omega
  simp

set_option maxHeartbeats 400000 in
theorem fact_any (m : Nat) (w : World) (hm : m ≤ 12) :
    Calls Tryd.prog 56 #[.int .i64 m] w fun e w' => e = .returned (.int .i64 (fact m : Nat)) ∧ w' = w := by
  go_enter Tryd.func56, Tryd.ntmps56
  go_wp2
  go_loop [3, 6] (fun f i => ∃ t : Nat, t ≤ m ∧ i = .int .i64 t ∧ f = .int .i64 (fact t : Nat)) (fun _ i => m - (intOf i).toNat)
  case atStart => exact ⟨0, by omega, rfl, rfl⟩
  case round =>
    obtain ⟨t, ht, rfl, rfl⟩ := hrel
    have hf := fact_le t (by omega)
    have HN : Hid (fact (t + 1) = fact t * (t + 1)) := rfl
    by_cases hlt : t < m
    · obtain ⟨S, hS⟩ : ∃ S, S = fact t := ⟨_, rfl⟩
      rw [← hS] at hf HN ⊢
      clear hS
      have hlt' : (t : Int) < (m : Int) := by omega
      have hmul : (S : Int) * ((t : Int) + 1) = ((S * (t + 1) : Nat) : Int) := by
        rw [Int.natCast_mul]; rfl
      have hQ : S * (t + 1) ≤ 479001600 * 12 := Nat.mul_le_mul hf (by omega)
      generalize S * (t + 1) = Q at *
      go_wp2
      go_round
      case rel => exact ⟨t + 1, by omega, by go_num, by rw [HN.out]⟩
      case measure => simp [intOf]; omega
    · have hte : t = m := by omega
      subst t
      have hlt' : ¬ (m : Int) < (m : Int) := by omega
      go_wp2
      go_ret
      exact ⟨rfl, rfl⟩



/-- 'append(s, x...)' within the capacity of s, which is the call's own; x whatever slice of ints can be read (it may be a part of s): as an operation. -/
theorem wp_append_fits_rd {o : Oper} {a : Act} {K : Act → World → Prop} {Q : Exit → Act → World → Prop} (w : World) (s x : Operand)
    (ho : o.op = .call { callee := .builtin .append, args := #[s, x], argTypes := #[22, 22] }) (base g n cap : Nat) (xs : List Int) (hs : a.eval s = .slice (some ⟨g, 0, none⟩) n cap) (hown : w.ownsRow base 3 1 (.slice (some ⟨g, 0, none⟩) n cap) n (xs.map (Value.int .i64)))
    (ao : Option Addr) (m c : Nat) (ys : List Int) (hx : a.eval x = .slice ao m c) (hR : Rd w ao m c ys) (hfit : n + m ≤ cap)
    (h : ∀ w', w'.ownsRow base 3 1 (.slice (some ⟨g, 0, none⟩) (n + m) cap) (n + m) ((xs ++ ys).map (Value.int .i64)) → w.grownBy w' (some g) → K (a.put o.dst (.slice (some ⟨g, 0, none⟩) (n + m) cap)) w') : o.wp Tryd.prog a w K Q := by
  obtain ⟨i0, hi, hz0, hz1, hz2⟩ := info_parts Tryd.info3
  cases ao with
  | none =>
    obtain rfl := hR.nil rfl
    obtain rfl : m = 0 := by have := hR.cap; omega
    have hy : ys = [] := List.eq_nil_of_length_eq_zero hR.len
    subst hy
    have hrun := run_append_owned_none (P := Tryd.prog) (w := w) base 22 o.type 3 i0 1 Tryd.underlying22 hi _ n _ hown
    unfold Oper.wp
    simp [execOp, ho, resolve, invoke, builtin, hs, hx, hrun, Result.andThen]
    exact h w (by simpa using hown) (World.grownBy.refl _ _)
  | some ad =>
    obtain ⟨w', hrun, r1, r2⟩ := run_append_fits (P := Tryd.prog) w base 22 o.type 3 i0 1 Tryd.underlying22 hi hz1 g n cap _ hown ad m c (ys.map (Value.int .i64)) (by simp [hR.len]) hR.news (ints_oneCell .i64 ys) hfit
    unfold Oper.wp
    simp [execOp, ho, resolve, invoke, builtin, hs, hx, hrun, Result.andThen]
    exact h w' (by rw [List.map_append]; exact r1) r2

theorem wpList_append_fits_rd {ops : Array Oper} {rest : List Oper} {o : Oper} {a : Act} {Q : Exit → Act → World → Prop} (w : World) (hgd : o.guard = none) (s x : Operand)
    (ho : o.op = .call { callee := .builtin .append, args := #[s, x], argTypes := #[22, 22] }) (base g n cap : Nat) (xs : List Int) (hs : a.eval s = .slice (some ⟨g, 0, none⟩) n cap) (hown : w.ownsRow base 3 1 (.slice (some ⟨g, 0, none⟩) n cap) n (xs.map (Value.int .i64)))
    (ao : Option Addr) (m c : Nat) (ys : List Int) (hx : a.eval x = .slice ao m c) (hR : Rd w ao m c ys) (hfit : n + m ≤ cap)
    (h : ∀ w', w'.ownsRow base 3 1 (.slice (some ⟨g, 0, none⟩) (n + m) cap) (n + m) ((xs ++ ys).map (Value.int .i64)) → w.grownBy w' (some g) → wpList Tryd.prog ops Q rest (a.put o.dst (.slice (some ⟨g, 0, none⟩) (n + m) cap)) w') : wpList Tryd.prog ops Q (o :: rest) a w :=
  wpList_plain hgd fun _ hK => wp_append_fits_rd w s x ho base g n cap xs hs hown ao m c ys hx hR hfit fun w' h1 h2 => hK _ _ (h w' h1 h2)

/-- 'make([]int, 0, n)', as an operation. -/
theorem wp_make0 {o : Oper} {a : Act} {K : Act → World → Prop} {Q : Exit → Act → World → Prop} (w : World) (l c : Operand) (hop : o.op = Op.makeSlice 22 l c) (base n : Nat) (hl : a.eval l = .int .i64 0) (hc : a.eval c = .int .i64 (n : Int)) (hn : n ≤ 104) (hb : base ≤ w.heap.size)
    (h : ∀ w', w'.ownsRow base 3 1 (.slice (some ⟨w.heap.size, 0, none⟩) 0 n) 0 (([] : List Int).map (Value.int .i64)) → w.grownBy w' none → K (a.put o.dst (.slice (some ⟨w.heap.size, 0, none⟩) 0 n)) w') : o.wp Tryd.prog a w K Q := by
  obtain ⟨i0, hi, hz0, hz1, hz2⟩ := info_parts Tryd.info3
  obtain ⟨w', hrun, r1, r2⟩ := run_make_own (P := Tryd.prog) w base 22 3 i0 (.int .i64 0) 1 Tryd.underlying22 hi hz0 hz1 .i64 .i64 n (by rw [hz2]; omega) (by unfold maxLen; omega) hb
  unfold Oper.wp
  simp [execOp, hop, hl, hc, hrun, Result.andThen]
  exact h w' r1 r2

theorem own_shrink {w : World} {base g n cap k : Nat} {xs : List Int} (h : w.ownsRow base 3 1 (.slice (some ⟨g, 0, none⟩) n cap) n (xs.map (Value.int .i64))) (hk : k ≤ n) :
    w.ownsRow base 3 1 (.slice (some ⟨g, 0, none⟩) k cap) k ((xs.take k).map (Value.int .i64)) := by
  have hl : xs.length = n := by simpa using h.1
  rcases h.2 with ⟨hv, _⟩ | ⟨g', cap', cur, hv, hb, hg, hnc, hcm, hcs, ht⟩
  · simp at hv
  · simp only [Value.slice.injEq, Option.some.injEq, Addr.mk.injEq, and_true, true_and] at hv
    obtain ⟨rfl, rfl⟩ := hv
    refine ⟨by simp; omega, .inr ⟨g, cap, cur, rfl, hb, hg, by omega, hcm, hcs, ?_⟩⟩
    rw [List.map_take, ← ht, List.take_take]
    congr 1
    omega

theorem own_baseN {w : World} {base base' : Nat} {v : Value} {n : Nat} {xs : List Value} (h : w.ownsRow base' 3 1 v n xs) (hb : base ≤ base') : w.ownsRow base 3 1 v n xs := by
  refine ⟨h.1, ?_⟩
  rcases h.2 with h2 | ⟨g, cap, cur, hv, hg, r⟩
  · exact .inl h2
  · exact .inr ⟨g, cap, cur, hv, by omega, r⟩

theorem own_belowN {w w' : World} {base : Nat} {v : Value} {n : Nat} {xs : List Value} (h : w.ownsRow base 3 1 v n xs) (hb : Below w.heap.size w w') : w'.ownsRow base 3 1 v n xs :=
  h.kept (row := none) ⟨hb.os, hb.tape, hb.output, hb.size, fun k hk _ => hb.block k hk⟩ (by cases hv : v.ownBlock <;> simp)

theorem own_cellc {wr : World} {base g n cap : Nat} {L : List Int} (h : wr.ownsRow base 3 1 (.slice (some ⟨g, 0, none⟩) n cap) n (L.map (Value.int .i64))) (p : Nat) (hp : p < n) :
    wr.cell? ⟨g, p, none⟩ = some (.int .i64 (L.getD p 0)) := by
  have hl : L.length = n := by simpa using h.1
  rw [h.cellAt p (by omega)]
  simp [List.getD, hl, hp]

set_option maxHeartbeats 400000 in
theorem rising_ex (n : Nat) (w : World) (hn : n ≤ 104) :
    Calls Tryd.prog 57 #[.int .i64 n] w fun e w' => e = .returned (.slice (some ⟨w.heap.size, 0, none⟩) n n) ∧ w'.ownsRow w.heap.size 3 1 (.slice (some ⟨w.heap.size, 0, none⟩) n n) n ((ident n).map (Value.int .i64)) ∧ Below w.heap.size w w' := by
  obtain ⟨i0, hi, hz0, hz1, hz2⟩ := info_parts Tryd.info3
  have hmm : n ≤ maxLen := by unfold maxLen; omega
  have hby : i0.bytes * n ≤ 281474976710656 := by rw [hz2]; omega
  go_enter Tryd.func57, Tryd.ntmps57
  go_wp2_with (at_make; refine wpList_make_full w rfl _ _ 22 rfl w.heap.size 3 i0 (.int .i64 0) 1 Tryd.underlying22 hi hz0 hz1 _ _ _ _ n rfl rfl (by omega) (by omega) hby hmm (Nat.le_refl _) ?_)
  intro w1 hown hgrow
  have hb1 : Below w.heap.size w w1 := (Below.refl _ _).grown hgrow (Nat.le_refl _) (fun k hk => by simp at hk)
  rw [made_ints] at hown
  clear hgrow
  go_wp2
  go_loopw [8] (fun i wr => ∃ (k : Nat) (L : List Int), k ≤ n ∧ i = .int .i64 k ∧ wr.ownsRow w.heap.size 3 1 (.slice (some ⟨w.heap.size, 0, none⟩) n n) n (L.map (Value.int .i64)) ∧ Below w.heap.size w wr ∧ Hid (∀ p, p < k → L.getD p 0 = (p : Int))) (fun i _ => n - (intOf i).toNat)
  case atStart => exact ⟨0, _, by omega, rfl, hown, hb1, fun p hp => absurd hp (by omega)⟩
  case round =>
    clear hown hb1
    obtain ⟨k, L, hk, rfl, hown, hbel, HL⟩ := hrel
    have hLl : Hid (L.length = n) := hide (by simpa using hown.1)
    by_cases hlt : k < n
    · obtain ⟨c1, f1⟩ := own_cell hown k hlt
      have HO := hide (own_set hown k (k : Int))
      have HB := hide hbel
      have HS := hide (ident_step n L k hLl.out hlt HL.out)
      clear hown hbel
      go_wp2
      go_roundw
      case rel => exact ⟨k + 1, _, by omega, by go_num, HO.out, HB.out.setCell (Nat.le_refl _) _, HS.out⟩
      case measure => simp [intOf]; omega
    · obtain rfl : k = n := by omega
      have hlt' : ¬ (k : Int) < (k : Int) := by omega
      go_wp2
      go_ret
      refine ⟨rfl, ?_, hbel⟩
      rw [← eq_ident k L hLl.out HL.out]
      exact hown

set_option maxHeartbeats 400000 in
theorem Nth_size (n k : Int) (w : World) (h : n < 0 ∨ 12 < n) :
    Calls Tryd.prog 49 #[.int .i64 n, .int .i64 k] w fun e w' => e = .returned (.tuple #[.slice none 0 0, .int .i64 2]) ∧ w' = w := by
  by_cases h1 : n < 0
  · go_enter Tryd.func49, Tryd.ntmps49
    go_wp2
    go_ret2
    exact ⟨rfl, rfl⟩
  · have h2 : 12 < n := by omega
    go_enter Tryd.func49, Tryd.ntmps49
    go_wp2
    go_ret2
    exact ⟨rfl, rfl⟩

set_option maxHeartbeats 400000 in
theorem Nth_range (n : Nat) (k : Int) (w : World) (hn : n ≤ 12) (h : k < 0 ∨ (fact n : Int) ≤ k) :
    Calls Tryd.prog 49 #[.int .i64 n, .int .i64 k] w fun e w' => e = .returned (.tuple #[.slice none 0 0, .int .i64 3]) ∧ w' = w := by
  have hf := fact_le n hn
  by_cases h1 : k < 0
  · go_enter Tryd.func49, Tryd.ntmps49
    go_wp2_with fail
    refine (fact_any n _ hn).mono ?_
    rintro e w2 ⟨rfl, rfl⟩
    generalize fact n = F at *
    go_wp2_with fail
    go_ret2
    exact ⟨rfl, rfl⟩
  · have h2 : (fact n : Int) ≤ k := by omega
    go_enter Tryd.func49, Tryd.ntmps49
    go_wp2_with fail
    refine (fact_any n _ hn).mono ?_
    rintro e w2 ⟨rfl, rfl⟩
    generalize fact n = F at *
    go_wp2_with fail
    go_ret2
    exact ⟨rfl, rfl⟩



set_option maxHeartbeats 1600000 in
theorem Nth_yes (n k : Nat) (w : World) (hn : n ≤ 12) (hk : k < fact n) :
    Calls Tryd.prog 49 #[.int .i64 n, .int .i64 k] w fun e w' => ∃ a' c', e = .returned (.tuple #[.slice a' n c', .int .i64 0]) ∧ Rd w' a' n c' (nthSt n k n).1 ∧ Below w.heap.size w w' := by
  have hf := fact_le n hn
  have hk' : ¬ (fact n : Int) ≤ (k : Int) := by omega
  go_enter Tryd.func49, Tryd.ntmps49
  go_wp2_with fail
  refine (fact_any n _ hn).mono ?_
  rintro e w2 ⟨rfl, hw⟩
  subst w2
  go_wp2_with fail
  refine wp_region_any (by kernel_rfl) ?_
  change wpAny _ _ _ _ _ _ _ (World.drew _)
  refine wpAny_take (i := 0) (v := ?_) rfl (by kernel_rfl) (by kernel_rfl) (by kernel_rfl) (fun _ _ _ h => h) (Or.inl ⟨by rfl, ?_⟩) ?_
  rotate_left
  · intro w
    go_simp
    with_reducible rfl
  go_simp
  refine wpAny_take (i := 2) (v := ?_) rfl (by kernel_rfl) (by kernel_rfl) (by kernel_rfl) (fun _ _ _ h => h) (Or.inl ⟨by rfl, ?_⟩) ?_
  rotate_left
  · intro w
    go_simp
    with_reducible rfl
  go_simp
  refine wpAny_ready (rs := [1, 3]) (by kernel_rfl) (by simp) ?_
  refine AllReady.cons rfl (fun K hK => ?_) (AllReady.cons rfl (fun K hK => ?_) AllReady.nil)
  · go_simp
    refine (rising_ex n _ (by omega)).mono ?_
    rintro e w1 ⟨rfl, hL1, hB1⟩
    refine hK _ _ ?_
    clear hK K
    go_simp
    refine wpAny_take (i := 4) (v := ?_) rfl (by kernel_rfl) (by kernel_rfl) (by kernel_rfl) (fun _ _ _ h => h) (Or.inl ⟨by rfl, ?_⟩) ?_
    rotate_left
    · intro w
      go_simp
      with_reducible rfl
    go_simp
    refine wpAny_ready (rs := [3]) (by kernel_rfl) (by simp) ?_
    refine AllReady.cons rfl (fun K hK => ?_) ?_
    rotate_left
    · exact AllReady.nil
    rw [if_pos (by rfl)]
    refine wp_make0 w1 _ _ rfl w.heap.size n rfl rfl (by omega) hB1.size ?_
    intro w2 hO2 hG2
    have HB0 := hide ((((Below.refl w.heap.size w).drew).trans hB1).grown hG2 hB1.size (fun j hj => by simp at hj))
    have HL0 : Hid (w2.ownsRow w.heap.size 3 1 (.slice (some ⟨w.heap.size, 0, none⟩) n n) n ((leftOf n []).map (Value.int .i64))) := hide (by rw [leftOf_nil]; exact hL1.kept hG2 (.inr (by simp [Value.ownBlock])))
    have HO0 := hide hO2
    have hgg : ¬ w.heap.size = w1.heap.size := by have := (hL1.lt w.heap.size rfl).2; omega
    clear hO2 hL1 hB1 hG2
    refine hK _ _ ?_
    clear hK K
    go_simp
    refine wpAny_take (i := 5) (v := ?_) rfl (by kernel_rfl) (by kernel_rfl) (by kernel_rfl) (fun _ _ _ h => h) (Or.inl ⟨by rfl, ?_⟩) ?_
    rotate_left
    · intro w
      go_simp
      with_reducible rfl
    go_simp
    refine wpAny_done (by kernel_rfl) ?_ _
    go_wp2_with fail
    go_loopw [1, 6, 7, 8, 31] (fun kk ways left out ii wr => ∃ i : Nat, i ≤ n ∧ kk = .int .i64 ((nthSt n k i).2 : Nat) ∧ ways = .int .i64 (fact (n - i) : Nat) ∧ left = .slice (some ⟨w.heap.size, 0, none⟩) (n - i) n ∧ out = .slice (some ⟨w1.heap.size, 0, none⟩) i n ∧ ii = .int .i64 i ∧ wr.ownsRow w.heap.size 3 1 (.slice (some ⟨w.heap.size, 0, none⟩) (n - i) n) (n - i) ((leftOf n (nthSt n k i).1).map (Value.int .i64)) ∧ wr.ownsRow w.heap.size 3 1 (.slice (some ⟨w1.heap.size, 0, none⟩) i n) i ((nthSt n k i).1.map (Value.int .i64)) ∧ Below w.heap.size w wr) (fun _ _ _ _ ii _ => n - (intOf ii).toNat)
    case atStart => exact ⟨0, by omega, rfl, rfl, rfl, rfl, rfl, HL0.out, HO0.out, HB0.out⟩
    case round =>
      clear HL0 HO0 HB0
      obtain ⟨i, hi, rfl, rfl, rfl, rfl, rfl, hL, hO, hB⟩ := hrel
      have HLL := hide (leftOf_length n k i hi hk)
      have HNL := hide (nth_length n k i)
      by_cases hil : i < n
      · have hil' : (i : Int) < (n : Int) := by omega
        have HAT := hide (at_lt n k i hil hk)
        have HST : Hid (nthSt n k (i + 1) = nthStep n (nthSt n k i)) := rfl
        have hKb : (nthSt n k i).2 ≤ 479001600 := by
          have h1 := HLL.out.2
          have h2 := fact_le (n - i) (by omega)
          omega
        obtain ⟨⟨out, K⟩, hst⟩ : ∃ s, s = nthSt n k i := ⟨_, rfl⟩
        rw [← hst] at HLL HNL HAT HST hKb hL hO ⊢
        simp only at HLL HNL HAT hKb hL hO ⊢
        have hF := fact_pos (n - 1 - i)
        have hF2 := fact_le (n - 1 - i) (by omega)
        have hG2 := fact_le (n - i) (by omega)
        have hfe : fact (n - i) = fact (n - 1 - i) * (n - i) := by
          rw [show n - i = (n - 1 - i) + 1 by omega]; rfl
        have hd1 : ((fact (n - i) : Nat) : Int) / ((n : Int) - (i : Int)) = ((fact (n - 1 - i) : Nat) : Int) := by
          rw [← Int.natCast_sub (by omega), hfe, ← Int.natCast_ediv, Nat.mul_div_cancel _ (by omega)]
        have hq : (K : Int) / ((fact (n - 1 - i) : Nat) : Int) = ((K / fact (n - 1 - i) : Nat) : Int) := by simp
        have hr : (K : Int) % ((fact (n - 1 - i) : Nat) : Int) = ((K % fact (n - 1 - i) : Nat) : Int) := by simp
        have hal : K / fact (n - 1 - i) < n - i := HAT.out
        have HSTe : Hid (nthSt n k (i + 1) = (out ++ [(leftOf n out).getD (K / fact (n - 1 - i)) 0], K % fact (n - 1 - i))) := hide (by rw [HST.out, nthStep]; simp only [HNL.out])
        have HSN := hide (leftOf_snoc n out (K / fact (n - 1 - i)) (by rw [HLL.out.1]; exact hal))
        have HF1 : Hid (fact (n - (i + 1)) = fact (n - 1 - i)) := hide (by rw [show n - (i + 1) = n - 1 - i by omega])
        generalize K / fact (n - 1 - i) = A at *
        generalize K % fact (n - 1 - i) = K' at *
        have HFE := hide hfe
        clear hfe
        generalize fact (n - 1 - i) = F at *
        generalize fact (n - i) = G at *
        have hF' : ¬ (F : Int) = 0 := by omega
        have r1 := own_cellc hL A hal
        obtain ⟨X, hX⟩ : ∃ X, X = (leftOf n out).getD A 0 := ⟨_, rfl⟩
        rw [← hX] at r1 HSTe HSN
        have HL := hide hL
        have HO := hide hO
        have HB := hide hB
        clear hL hO hB hX HAT HST hst
        go_wp2_with (at_builtin; refine wpList_append_fits_rd _ rfl (.tmp 45) (.tmp 50) rfl w.heap.size w1.heap.size i n out rfl (HO.out.alloc _) _ 1 1 [X] rfl (Rd_one _ _) (by omega) ?_)
        intro w2 hO2 hG2'
        have hb0 : Below w.heap.size w (wr.alloc (.cells #[.int .i64 X] 3)) := HB.out.alloc HB.out.size _
        have HB2 := hide (hb0.grown hG2' hb0.size (fun j hj => by simp at hj; subst hj; exact (HO.out.lt w1.heap.size rfl).1))
        have HL2 := hide ((HL.out.alloc (.cells #[.int .i64 X] 3)).kept hG2' (.inr (by simp [Value.ownBlock]; exact hgg)))
        have HO2 := hide hO2
        clear hO2 hG2' hb0 HO HL HB r1
        have HRF := hide ((Rd.of_own HL2.out).drew.from (k := A + 1) (by omega))
        have HSH := hide (own_shrink HL2.out (k := A) (by omega))
        go_wp2_with fail
        clear hr hd1 hq
        have hAn : A ≤ n := by omega
        have hAn1 : (A : Int) + 1 ≤ ((n - i : Nat) : Int) := by omega
        have hAn2 : 0 ≤ (A : Int) + 1 := by omega
        have hAn3 : ((A : Int) + 1).toNat = A + 1 := by omega
        have hwA : IntKind.i64.wrap ((A : Int) + 1) = (A : Int) + 1 := by rw [IntKind.wrap_i64]; omega
        refine wp_region_any (by kernel_rfl) ?_
        change wpAny _ _ _ _ _ _ _ (World.drew _)
        refine wpAny_take (i := 0) (v := ?_) rfl (by kernel_rfl) (by kernel_rfl) (by kernel_rfl) (fun _ _ _ h => h) (Or.inl ⟨by rfl, ?_⟩) ?_
        rotate_left
        · intro w
          go_simp
          with_reducible rfl
        go_simp
        refine wpAny_take (i := 1) (v := ?_) rfl (by kernel_rfl) (by kernel_rfl) (by kernel_rfl) (fun _ _ _ h => h) (Or.inl ⟨by rfl, ?_⟩) ?_
        rotate_left
        · intro w
          go_simp
          with_reducible rfl
        go_simp
        refine wpAny_take (i := 3) (v := ?_) rfl (by kernel_rfl) (by kernel_rfl) (by kernel_rfl) (fun _ _ _ h => h) (Or.inl ⟨by rfl, ?_⟩) ?_
        rotate_left
        · intro w
          go_simp
          with_reducible rfl
        go_simp
        refine wpAny_take (i := 4) (v := ?_) rfl (by kernel_rfl) (by kernel_rfl) (by kernel_rfl) (fun _ _ _ h => h) (Or.inl ⟨by rfl, ?_⟩) ?_
        rotate_left
        · intro w
          go_simp
          with_reducible rfl
        go_simp
        refine wpAny_take (i := 5) (v := ?_) rfl (by kernel_rfl) (by kernel_rfl) (by kernel_rfl) (fun _ _ _ h => h) (Or.inl ⟨by rfl, ?_⟩) ?_
        rotate_left
        · intro w
          go_simp
          with_reducible rfl
        go_simp
        refine wpAny_take (i := 2) (v := Value.slice (some ⟨w.heap.size, 0, none⟩) A n) rfl (by kernel_rfl) (by kernel_rfl) (by kernel_rfl) (fun _ _ _ h => h) (Or.inl ⟨by rfl, ?_⟩) ?_
        · intro w
          go_simp
        go_simp
        refine wpAny_take (i := 6) (v := Value.slice (if n = A + 1 then some ⟨w.heap.size, 0, none⟩ else some ⟨w.heap.size, A + 1, none⟩) (n - i - (A + 1)) (n - (A + 1))) rfl (by kernel_rfl) (by kernel_rfl) (by kernel_rfl) (fun _ _ _ h => h) (Or.inl ⟨by rfl, ?_⟩) ?_
        · intro w
          go_simp
        go_simp
        obtain ⟨af, haf⟩ : ∃ af, af = (if n = A + 1 then some (⟨w.heap.size, 0, none⟩ : Addr) else some ⟨w.heap.size, A + 1, none⟩) := ⟨_, rfl⟩
        have hRF : Rd w2.drew af (n - i - (A + 1)) (n - (A + 1)) ((leftOf n out).drop (A + 1)) := by
          rw [haf]; simpa [Addr.add_lit] using HRF.out
        have HRF2 := hide hRF
        rw [← haf]
        clear haf hRF HRF
        refine wpAny_ready (rs := [7]) (by kernel_rfl) (by simp) ?_
        refine AllReady.cons rfl (fun K hK => ?_) ?_
        rotate_left
        · exact AllReady.nil
        rw [if_pos (by rfl)]
        refine wp_append_fits_rd _ (.tmp 54) (.tmp 58) rfl w.heap.size w.heap.size A n ((leftOf n out).take A) rfl HSH.out.drew af (n - i - (A + 1)) (n - (A + 1)) ((leftOf n out).drop (A + 1)) rfl HRF2.out (by omega) ?_
        intro w3 hL3 hG3
        have HB3 := hide (HB2.out.drew.grown hG3 HB2.out.size (fun j hj => by simp at hj; subst hj; exact (HL2.out.lt w.heap.size rfl).1))
        have HO3 := hide (HO2.out.drew.kept hG3 (.inr (by simp [Value.ownBlock]; exact fun e => hgg e.symm)))
        have HL3 : Hid (w3.ownsRow w.heap.size 3 1 (.slice (some ⟨w.heap.size, 0, none⟩) (n - (i + 1)) n) (n - (i + 1)) ((leftOf n (out ++ [X])).map (Value.int .i64))) := hide (by
          rw [HSN.out, show A + (n - i - (A + 1)) = n - (i + 1) by omega] at hL3
          exact hL3)
        rw [show A + (n - i - (A + 1)) = n - (i + 1) by omega]
        clear hL3 hG3 HSH HRF2 HL2 HO2 HB2
        refine hK _ _ ?_
        clear hK K
        go_simp
        refine wpAny_take (i := 8) (v := ?_) rfl (by kernel_rfl) (by kernel_rfl) (by kernel_rfl) (fun _ _ _ h => h) (Or.inl ⟨by rfl, ?_⟩) ?_
        rotate_left
        · intro w
          go_simp
          with_reducible rfl
        go_simp
        refine wpAny_done (by kernel_rfl) ?_ _
        go_wp2_with fail
        go_roundw
        case rel => exact ⟨i + 1, by omega, by rw [HSTe.out], by rw [HF1.out], rfl, rfl, by go_num, by rw [HSTe.out]; exact HL3.out, by rw [HSTe.out]; simpa using HO3.out, HB3.out⟩
        case measure => simp [intOf]; omega
      · have hie : i = n := by omega
        subst i
        have hlt' : ¬ (n : Int) < (n : Int) := by omega
        have HR := hide (Rd.of_own hO)
        clear hL hO
        go_wp2_with fail
        go_ret2
        exact ⟨_, _, rfl, HR.out, hB⟩
  · rw [if_pos (by rfl)]
    refine wp_make0 _ _ _ rfl w.heap.size n rfl rfl (by omega) (Nat.le_refl _) ?_
    intro w1 hO1 hG1
    refine hK _ _ ?_
    clear hK K
    go_simp
    refine wpAny_ready (rs := [1]) (by kernel_rfl) (by simp) ?_
    refine AllReady.cons rfl (fun K hK => ?_) ?_
    rotate_left
    · exact AllReady.nil
    go_simp
    refine (rising_ex n _ (by omega)).mono ?_
    rintro e w2 ⟨rfl, hL2, hB2⟩
    have hs1 : w.heap.size ≤ w1.heap.size := hG1.size
    have HB0 := hide ((((Below.refl w.heap.size w).drew).grown hG1 (Nat.le_refl _) (fun j hj => by simp at hj)).trans (hB2.mono hs1))
    have HL0 : Hid (w2.ownsRow w.heap.size 3 1 (.slice (some ⟨w1.heap.size, 0, none⟩) n n) n ((leftOf n []).map (Value.int .i64))) := hide (by rw [leftOf_nil]; exact own_baseN hL2 hs1)
    have HO0 := hide (own_belowN hO1 hB2)
    have hgg : ¬ w1.heap.size = w.heap.size := by have := (hO1.lt w.heap.size rfl).2; omega
    clear hO1 hL2 hB2 hG1
    refine hK _ _ ?_
    clear hK K
    go_simp
    refine wpAny_take (i := 4) (v := ?_) rfl (by kernel_rfl) (by kernel_rfl) (by kernel_rfl) (fun _ _ _ h => h) (Or.inl ⟨by rfl, ?_⟩) ?_
    rotate_left
    · intro w
      go_simp
      with_reducible rfl
    go_simp
    refine wpAny_take (i := 5) (v := ?_) rfl (by kernel_rfl) (by kernel_rfl) (by kernel_rfl) (fun _ _ _ h => h) (Or.inl ⟨by rfl, ?_⟩) ?_
    rotate_left
    · intro w
      go_simp
      with_reducible rfl
    go_simp
    refine wpAny_done (by kernel_rfl) ?_ _
    go_wp2_with fail
    go_loopw [1, 6, 7, 8, 31] (fun kk ways left out ii wr => ∃ i : Nat, i ≤ n ∧ kk = .int .i64 ((nthSt n k i).2 : Nat) ∧ ways = .int .i64 (fact (n - i) : Nat) ∧ left = .slice (some ⟨w1.heap.size, 0, none⟩) (n - i) n ∧ out = .slice (some ⟨w.heap.size, 0, none⟩) i n ∧ ii = .int .i64 i ∧ wr.ownsRow w.heap.size 3 1 (.slice (some ⟨w1.heap.size, 0, none⟩) (n - i) n) (n - i) ((leftOf n (nthSt n k i).1).map (Value.int .i64)) ∧ wr.ownsRow w.heap.size 3 1 (.slice (some ⟨w.heap.size, 0, none⟩) i n) i ((nthSt n k i).1.map (Value.int .i64)) ∧ Below w.heap.size w wr) (fun _ _ _ _ ii _ => n - (intOf ii).toNat)
    case atStart => exact ⟨0, by omega, rfl, rfl, rfl, rfl, rfl, HL0.out, HO0.out, HB0.out⟩
    case round =>
      clear HL0 HO0 HB0
      obtain ⟨i, hi, rfl, rfl, rfl, rfl, rfl, hL, hO, hB⟩ := hrel
      have HLL := hide (leftOf_length n k i hi hk)
      have HNL := hide (nth_length n k i)
      by_cases hil : i < n
      · have hil' : (i : Int) < (n : Int) := by omega
        have HAT := hide (at_lt n k i hil hk)
        have HST : Hid (nthSt n k (i + 1) = nthStep n (nthSt n k i)) := rfl
        have hKb : (nthSt n k i).2 ≤ 479001600 := by
          have h1 := HLL.out.2
          have h2 := fact_le (n - i) (by omega)
          omega
        obtain ⟨⟨out, K⟩, hst⟩ : ∃ s, s = nthSt n k i := ⟨_, rfl⟩
        rw [← hst] at HLL HNL HAT HST hKb hL hO ⊢
        simp only at HLL HNL HAT hKb hL hO ⊢
        have hF := fact_pos (n - 1 - i)
        have hF2 := fact_le (n - 1 - i) (by omega)
        have hG2 := fact_le (n - i) (by omega)
        have hfe : fact (n - i) = fact (n - 1 - i) * (n - i) := by
          rw [show n - i = (n - 1 - i) + 1 by omega]; rfl
        have hd1 : ((fact (n - i) : Nat) : Int) / ((n : Int) - (i : Int)) = ((fact (n - 1 - i) : Nat) : Int) := by
          rw [← Int.natCast_sub (by omega), hfe, ← Int.natCast_ediv, Nat.mul_div_cancel _ (by omega)]
        have hq : (K : Int) / ((fact (n - 1 - i) : Nat) : Int) = ((K / fact (n - 1 - i) : Nat) : Int) := by simp
        have hr : (K : Int) % ((fact (n - 1 - i) : Nat) : Int) = ((K % fact (n - 1 - i) : Nat) : Int) := by simp
        have hal : K / fact (n - 1 - i) < n - i := HAT.out
        have HSTe : Hid (nthSt n k (i + 1) = (out ++ [(leftOf n out).getD (K / fact (n - 1 - i)) 0], K % fact (n - 1 - i))) := hide (by rw [HST.out, nthStep]; simp only [HNL.out])
        have HSN := hide (leftOf_snoc n out (K / fact (n - 1 - i)) (by rw [HLL.out.1]; exact hal))
        have HF1 : Hid (fact (n - (i + 1)) = fact (n - 1 - i)) := hide (by rw [show n - (i + 1) = n - 1 - i by omega])
        generalize K / fact (n - 1 - i) = A at *
        generalize K % fact (n - 1 - i) = K' at *
        have HFE := hide hfe
        clear hfe
        generalize fact (n - 1 - i) = F at *
        generalize fact (n - i) = G at *
        have hF' : ¬ (F : Int) = 0 := by omega
        have r1 := own_cellc hL A hal
        obtain ⟨X, hX⟩ : ∃ X, X = (leftOf n out).getD A 0 := ⟨_, rfl⟩
        rw [← hX] at r1 HSTe HSN
        have HL := hide hL
        have HO := hide hO
        have HB := hide hB
        clear hL hO hB hX HAT HST hst
        go_wp2_with (at_builtin; refine wpList_append_fits_rd _ rfl (.tmp 45) (.tmp 50) rfl w.heap.size w.heap.size i n out rfl (HO.out.alloc _) _ 1 1 [X] rfl (Rd_one _ _) (by omega) ?_)
        intro w2 hO2 hG2'
        have hb0 : Below w.heap.size w (wr.alloc (.cells #[.int .i64 X] 3)) := HB.out.alloc HB.out.size _
        have HB2 := hide (hb0.grown hG2' hb0.size (fun j hj => by simp at hj; subst hj; exact (HO.out.lt w.heap.size rfl).1))
        have HL2 := hide ((HL.out.alloc (.cells #[.int .i64 X] 3)).kept hG2' (.inr (by simp [Value.ownBlock]; exact hgg)))
        have HO2 := hide hO2
        clear hO2 hG2' hb0 HO HL HB r1
        have HRF := hide ((Rd.of_own HL2.out).drew.from (k := A + 1) (by omega))
        have HSH := hide (own_shrink HL2.out (k := A) (by omega))
        go_wp2_with fail
        clear hr hd1 hq
        have hAn : A ≤ n := by omega
        have hAn1 : (A : Int) + 1 ≤ ((n - i : Nat) : Int) := by omega
        have hAn2 : 0 ≤ (A : Int) + 1 := by omega
        have hAn3 : ((A : Int) + 1).toNat = A + 1 := by omega
        have hwA : IntKind.i64.wrap ((A : Int) + 1) = (A : Int) + 1 := by rw [IntKind.wrap_i64]; omega
        refine wp_region_any (by kernel_rfl) ?_
        change wpAny _ _ _ _ _ _ _ (World.drew _)
        refine wpAny_take (i := 0) (v := ?_) rfl (by kernel_rfl) (by kernel_rfl) (by kernel_rfl) (fun _ _ _ h => h) (Or.inl ⟨by rfl, ?_⟩) ?_
        rotate_left
        · intro w
          go_simp
          with_reducible rfl
        go_simp
        refine wpAny_take (i := 1) (v := ?_) rfl (by kernel_rfl) (by kernel_rfl) (by kernel_rfl) (fun _ _ _ h => h) (Or.inl ⟨by rfl, ?_⟩) ?_
        rotate_left
        · intro w
          go_simp
          with_reducible rfl
        go_simp
        refine wpAny_take (i := 3) (v := ?_) rfl (by kernel_rfl) (by kernel_rfl) (by kernel_rfl) (fun _ _ _ h => h) (Or.inl ⟨by rfl, ?_⟩) ?_
        rotate_left
        · intro w
          go_simp
          with_reducible rfl
        go_simp
        refine wpAny_take (i := 4) (v := ?_) rfl (by kernel_rfl) (by kernel_rfl) (by kernel_rfl) (fun _ _ _ h => h) (Or.inl ⟨by rfl, ?_⟩) ?_
        rotate_left
        · intro w
          go_simp
          with_reducible rfl
        go_simp
        refine wpAny_take (i := 5) (v := ?_) rfl (by kernel_rfl) (by kernel_rfl) (by kernel_rfl) (fun _ _ _ h => h) (Or.inl ⟨by rfl, ?_⟩) ?_
        rotate_left
        · intro w
          go_simp
          with_reducible rfl
        go_simp
        refine wpAny_take (i := 2) (v := Value.slice (some ⟨w1.heap.size, 0, none⟩) A n) rfl (by kernel_rfl) (by kernel_rfl) (by kernel_rfl) (fun _ _ _ h => h) (Or.inl ⟨by rfl, ?_⟩) ?_
        · intro w
          go_simp
        go_simp
        refine wpAny_take (i := 6) (v := Value.slice (if n = A + 1 then some ⟨w1.heap.size, 0, none⟩ else some ⟨w1.heap.size, A + 1, none⟩) (n - i - (A + 1)) (n - (A + 1))) rfl (by kernel_rfl) (by kernel_rfl) (by kernel_rfl) (fun _ _ _ h => h) (Or.inl ⟨by rfl, ?_⟩) ?_
        · intro w
          go_simp
        go_simp
        obtain ⟨af, haf⟩ : ∃ af, af = (if n = A + 1 then some (⟨w1.heap.size, 0, none⟩ : Addr) else some ⟨w1.heap.size, A + 1, none⟩) := ⟨_, rfl⟩
        have hRF : Rd w2.drew af (n - i - (A + 1)) (n - (A + 1)) ((leftOf n out).drop (A + 1)) := by
          rw [haf]; simpa [Addr.add_lit] using HRF.out
        have HRF2 := hide hRF
        rw [← haf]
        clear haf hRF HRF
        refine wpAny_ready (rs := [7]) (by kernel_rfl) (by simp) ?_
        refine AllReady.cons rfl (fun K hK => ?_) ?_
        rotate_left
        · exact AllReady.nil
        rw [if_pos (by rfl)]
        refine wp_append_fits_rd _ (.tmp 54) (.tmp 58) rfl w.heap.size w1.heap.size A n ((leftOf n out).take A) rfl HSH.out.drew af (n - i - (A + 1)) (n - (A + 1)) ((leftOf n out).drop (A + 1)) rfl HRF2.out (by omega) ?_
        intro w3 hL3 hG3
        have HB3 := hide (HB2.out.drew.grown hG3 HB2.out.size (fun j hj => by simp at hj; subst hj; exact (HL2.out.lt w1.heap.size rfl).1))
        have HO3 := hide (HO2.out.drew.kept hG3 (.inr (by simp [Value.ownBlock]; exact fun e => hgg e.symm)))
        have HL3 : Hid (w3.ownsRow w.heap.size 3 1 (.slice (some ⟨w1.heap.size, 0, none⟩) (n - (i + 1)) n) (n - (i + 1)) ((leftOf n (out ++ [X])).map (Value.int .i64))) := hide (by
          rw [HSN.out, show A + (n - i - (A + 1)) = n - (i + 1) by omega] at hL3
          exact hL3)
        rw [show A + (n - i - (A + 1)) = n - (i + 1) by omega]
        clear hL3 hG3 HSH HRF2 HL2 HO2 HB2
        refine hK _ _ ?_
        clear hK K
        go_simp
        refine wpAny_take (i := 8) (v := ?_) rfl (by kernel_rfl) (by kernel_rfl) (by kernel_rfl) (fun _ _ _ h => h) (Or.inl ⟨by rfl, ?_⟩) ?_
        rotate_left
        · intro w
          go_simp
          with_reducible rfl
        go_simp
        refine wpAny_done (by kernel_rfl) ?_ _
        go_wp2_with fail
        go_roundw
        case rel => exact ⟨i + 1, by omega, by rw [HSTe.out], by rw [HF1.out], rfl, rfl, by go_num, by rw [HSTe.out]; exact HL3.out, by rw [HSTe.out]; simpa using HO3.out, HB3.out⟩
        case measure => simp [intOf]; omega
      · have hie : i = n := by omega
        subst i
        have hlt' : ¬ (n : Int) < (n : Int) := by omega
        have HR := hide (Rd.of_own hO)
        clear hL hO
        go_wp2_with fail
        go_ret2
        exact ⟨_, _, rfl, HR.out, hB⟩


end Go.Proofs.YticalbpohhpjaaaDoor
