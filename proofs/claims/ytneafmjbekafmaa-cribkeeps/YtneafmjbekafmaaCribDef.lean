/-
  Plain numbers of crib: ranks, points, fifteens, pairs, rows. No conditions beyond those that each theorem bears.
-/
import Derived.WalkKit
namespace Go.Proofs.Ytneafmjbekafmaa

/-- A card's rank, counted from the ace on. -/
def rkC (c : Nat) : Nat := (c / 4 + 1) % 13
/-- A card's points. -/
def ptC (c : Nat) : Nat := if rkC c + 1 ≤ 10 then rkC c + 1 else 10

theorem rkC_lt (c : Nat) : rkC c < 13 := Nat.mod_lt _ (by omega)
theorem ptC_bd (c : Nat) : 1 ≤ ptC c ∧ ptC c ≤ 10 := by
  unfold ptC; split <;> omega

/-- How many there are of each rank. -/
def tms (l : List Nat) : List Nat := (List.range 13).map (fun r => (l.map rkC).count r)

theorem tms_length (l : List Nat) : (tms l).length = 13 := by simp [tms]
theorem tms_getD (l : List Nat) (r : Nat) (h : r < 13) : (tms l).getD r 0 = (l.map rkC).count r := by
  simp only [tms, List.getD, List.getElem?_map]
  rw [List.getElem?_range h]; rfl

/-- The points of the places below i that set a names. -/
def sumTo (ps : List Nat) (a : Nat) : Nat → Nat
  | 0 => 0
  | i + 1 => if a / 2 ^ i % 2 = 1 then sumTo ps a i + ps.getD i 0 else sumTo ps a i

/-- Twice the number of sets below a whose points are 15. -/
def fifTo (ps : List Nat) : Nat → Nat
  | 0 => 0
  | a + 1 => if sumTo ps a 5 = 15 then fifTo ps a + 2 else fifTo ps a

def fifN (l : List Nat) : Nat := fifTo (l.map ptC) 32

theorem sumTo_le (ps : List Nat) (a : Nat) (h : ∀ i, ps.getD i 0 ≤ 10) : ∀ i, sumTo ps a i ≤ 10 * i := by
  intro i
  induction i with
  | zero => simp [sumTo]
  | succ i ih =>
    have := h i
    unfold sumTo
    split <;> omega

theorem fifTo_le (ps : List Nat) (a : Nat) : fifTo ps a ≤ 2 * a := by
  induction a with
  | zero => simp [fifTo]
  | succ a ih =>
    unfold fifTo
    split <;> omega

/-- Pairs, by how many there are of each rank below k. -/
def prsTo (T : List Nat) : Nat → Nat
  | 0 => 0
  | k + 1 => prsTo T k + T.getD k 0 * (T.getD k 0 - 1)

/-- Pairs, card by card. -/
def prL : List Nat → Nat
  | [] => 0
  | x :: l => prL l + 2 * (l.count x)

/-- All rows that are long enough, the one that is under way with so many ranks and ways. -/
def rowsF : List Nat → Nat → Nat → Nat
  | [], len, ways => if 3 ≤ len then len * ways else 0
  | 0 :: T, len, ways => (if 3 ≤ len then len * ways else 0) + rowsF T 0 1
  | (t + 1) :: T, len, ways => rowsF T (len + 1) (ways * (t + 1))

/-- The ways to choose one of each of the first n ranks. -/
def prodN : Nat → List Nat → Nat
  | 0, _ => 1
  | _ + 1, [] => 0
  | _ + 1, 0 :: _ => 0
  | n + 1, (t + 1) :: T => (t + 1) * prodN n T

/-- The ways to choose n ranks that follow each other. -/
def winS (n : Nat) : List Nat → Nat
  | [] => 0
  | t :: T => prodN n (t :: T) + winS n T

def refRows (T : List Nat) : Nat :=
  if 0 < winS 5 T then 5 * winS 5 T else if 0 < winS 4 T then 4 * winS 4 T else if 0 < winS 3 T then 3 * winS 3 T else 0

/-- How many choices of points have that sum. -/
def cnt : List Nat → Nat → Nat
  | [], s => if s = 0 then 1 else 0
  | x :: l, s => cnt l s + if x ≤ s then cnt l (s - x) else 0

theorem cnt_perm {l l' : List Nat} (h : l.Perm l') : ∀ s, cnt l s = cnt l' s := by
  induction h with
  | nil => intro s; rfl
  | cons x _ ih => intro s; simp only [cnt, ih]
  | swap x y l =>
    intro s
    simp only [cnt]
    by_cases hx : x ≤ s
    · by_cases hy : y ≤ s
      · by_cases hxy : x + y ≤ s
        · simp only [hx, hy, show x ≤ s - y by omega, show y ≤ s - x by omega, if_true, show s - y - x = s - x - y by omega]; omega
        · simp only [hx, hy, show ¬ x ≤ s - y by omega, show ¬ y ≤ s - x by omega, if_true, if_false]; omega
      · simp only [hx, hy, show ¬ y ≤ s - x by omega, if_true, if_false]; omega
    · by_cases hy : y ≤ s
      · simp only [hx, hy, show ¬ x ≤ s - y by omega, if_true, if_false]; omega
      · simp only [hx, hy, if_false]
  | trans _ _ h1 h2 => intro s; rw [h1, h2]

/-- The same, from the last place on. -/
def cntI (ps : List Nat) : Nat → Nat → Nat
  | 0, s => if s = 0 then 1 else 0
  | n + 1, s => cntI ps n s + if ps.getD n 0 ≤ s then cntI ps n (s - ps.getD n 0) else 0

theorem bit_add (n a i : Nat) (h : i < n) : (2 ^ n + a) / 2 ^ i % 2 = a / 2 ^ i % 2 := by
  obtain ⟨k, rfl⟩ : ∃ k, n = i + 1 + k := ⟨n - (i + 1), by omega⟩
  rw [show 2 ^ (i + 1 + k) = 2 ^ i * (2 * 2 ^ k) by rw [Nat.pow_add, Nat.pow_succ, Nat.mul_assoc], Nat.mul_add_div (Nat.two_pow_pos i), Nat.mul_add_mod]

theorem sumTo_add (ps : List Nat) (n a : Nat) : ∀ i, i ≤ n → sumTo ps (2 ^ n + a) i = sumTo ps a i := by
  intro i
  induction i with
  | zero => intro _; rfl
  | succ i ih =>
    intro h
    simp only [sumTo, bit_add n a i (by omega), ih (by omega)]

theorem countP_sum (ps : List Nat) : ∀ n s, (List.range (2 ^ n)).countP (fun a => sumTo ps a n == s) = cntI ps n s := by
  intro n
  induction n with
  | zero =>
    intro s
    cases s <;> simp [cntI, sumTo, List.range_succ]
  | succ n ih =>
    intro s
    rw [show 2 ^ (n + 1) = 2 ^ n + 2 ^ n by rw [Nat.pow_succ]; omega, List.range_add, List.countP_append, List.countP_map, cntI, ← ih s]
    congr 1
    · apply List.countP_congr
      intro a ha
      have ha' := List.mem_range.1 ha
      have : a / 2 ^ n = 0 := Nat.div_eq_of_lt ha'
      simp [sumTo, this]
    · by_cases hle : ps.getD n 0 ≤ s
      · rw [if_pos hle, ← ih]
        apply List.countP_congr
        intro a ha
        have ha' := List.mem_range.1 ha
        have h1 : (2 ^ n + a) / 2 ^ n % 2 = 1 := by
          rw [Nat.add_div_left _ (Nat.two_pow_pos n), Nat.div_eq_of_lt ha']
        simp only [Function.comp, sumTo, h1, if_true, sumTo_add ps n a n (Nat.le_refl _), beq_iff_eq]
        omega
      · rw [if_neg hle, List.countP_eq_zero]
        intro a ha
        have ha' := List.mem_range.1 ha
        have h1 : (2 ^ n + a) / 2 ^ n % 2 = 1 := by
          rw [Nat.add_div_left _ (Nat.two_pow_pos n), Nat.div_eq_of_lt ha']
        simp only [Function.comp, sumTo, h1, if_true, sumTo_add ps n a n (Nat.le_refl _), beq_iff_eq]
        omega

theorem fifTo_count (ps : List Nat) (A : Nat) : fifTo ps A = 2 * (List.range A).countP (fun a => sumTo ps a 5 == 15) := by
  induction A with
  | zero => rfl
  | succ A ih =>
    rw [fifTo, List.range_succ, List.countP_append, ih]
    by_cases h : sumTo ps A 5 = 15
    · simp [h]; omega
    · simp [h]

/-- The sets of five: by places, and by choices. -/
theorem fif_cnt (p q r s t : Nat) : fifTo [p, q, r, s, t] 32 = 2 * cnt [p, q, r, s, t] 15 := by
  have e : cnt [p, q, r, s, t] 15 = cnt [t, s, r, q, p] 15 := cnt_perm (by
    have := (List.reverse_perm [t, s, r, q, p])
    simpa using this) 15
  rw [e, fifTo_count, show 32 = 2 ^ 5 from rfl, countP_sum]
  rfl

theorem prL_perm {l l' : List Nat} (h : l.Perm l') : prL l = prL l' := by
  induction h with
  | nil => rfl
  | cons x h ih => simp only [prL, ih, h.count_eq]
  | swap x y l =>
    simp only [prL, List.count_cons]
    by_cases e : x = y
    · subst e; rfl
    · have e1 : ¬ (x == y) = true := by simpa using e
      have e2 : ¬ (y == x) = true := by simpa using fun h => e h.symm
      simp only [e1, e2]
      simp
      omega
  | trans _ _ h1 h2 => rw [h1, h2]

end Go.Proofs.Ytneafmjbekafmaa
