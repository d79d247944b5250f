/-
  Hands of five cards counted by their ranks: each falling row of ranks as often as its suits have ways. No conditions beyond those that each theorem bears.
-/
import Derived.Test.YtdhacmcdbpojlaaRuns
namespace Go.Proofs.Ytdhacmcdbpojlaa
open Go.RowKit Go.Shelf

set_option linter.unusedSimpArgs false

/-- A sum over all k-sublists. -/
def sm (k : Nat) (l : List Nat) (F : List Nat → Nat) : Nat := ((comb k l).map F).sum

theorem sm_zero (l : List Nat) (F : List Nat → Nat) : sm 0 l F = F [] := by simp [sm, comb]
theorem sm_up0 (x : Nat) (l : List Nat) (F : List Nat → Nat) : sm 0 (x :: l) F = sm 0 l F := by rw [sm_zero, sm_zero]
theorem sm_nil (k : Nat) (F : List Nat → Nat) : sm (k + 1) [] F = 0 := by simp [sm, comb]
theorem sm_cons (k x : Nat) (l : List Nat) (F : List Nat → Nat) : sm (k + 1) (x :: l) F = sm k l (fun t => F (x :: t)) + sm (k + 1) l F := by
  simp [sm, comb, List.map_append, List.sum_append, List.map_map, Function.comp_def]

theorem sm_congr (k : Nat) : ∀ (l : List Nat) (F G : List Nat → Nat), (∀ t, F t = G t) → sm k l F = sm k l G := by
  intro l F G h
  rw [show F = G from funext h]

theorem sm_none (k : Nat) (l : List Nat) (F : List Nat → Nat) (h : ∀ t, F t = 0) : sm k l F = 0 := by
  rw [show F = fun _ => 0 from funext h]
  unfold sm
  induction comb k l with
  | nil => rfl
  | cons a m ih => rw [List.map_cons, List.sum_cons, ih]

/-- A card that adds nothing may be left out. -/
theorem sm_skip (k x : Nat) (l : List Nat) (F : List Nat → Nat) (h : ∀ t, F (x :: t) = 0) : sm k (x :: l) F = sm k l F := by
  cases k with
  | zero => rw [sm_zero, sm_zero]
  | succ k => rw [sm_cons, sm_none k l _ h, Nat.zero_add]

/-- The order of the cards is no matter where it is none for what is summed. -/
theorem sm_perm {l m : List Nat} (h : l.Perm m) : ∀ (k : Nat) (F : List Nat → Nat), (∀ s t : List Nat, s.Perm t → F s = F t) → sm k l F = sm k m F := by
  induction h with
  | nil => intro k F _; rfl
  | cons x _ ih =>
    intro k F hF
    cases k with
    | zero => rw [sm_zero, sm_zero]
    | succ k =>
      rw [sm_cons, sm_cons, ih k _ (fun s t hst => hF _ _ (hst.cons x)), ih (k + 1) F hF]
  | swap x y l =>
    intro k F hF
    match k with
    | 0 => rw [sm_zero, sm_zero]
    | 1 => simp only [sm_cons, sm_zero]; omega
    | k + 2 =>
      simp only [sm_cons]
      rw [sm_congr k l (fun t => F (y :: x :: t)) (fun t => F (x :: y :: t)) (fun t => hF _ _ (List.Perm.swap _ _ _))]
      omega
  | trans _ _ ih1 ih2 =>
    intro k F hF
    rw [ih1 k F hF, ih2 k F hF]

theorem sm_add (k : Nat) (l : List Nat) (F G : List Nat → Nat) : sm k l (fun t => F t + G t) = sm k l F + sm k l G := by
  unfold sm
  induction comb k l with
  | nil => rfl
  | cons a m ih => simp only [List.map_cons, List.sum_cons]; omega

/-- The cards of the lowest ranks, the highest first. -/
def cd : Nat → List Nat
  | 0 => []
  | h + 1 => 4 * h :: (4 * h + 1) :: (4 * h + 2) :: (4 * h + 3) :: cd h

/-- Falling rows of k ranks below h, in the reference's order. -/
def frS (h : Nat) (prev : Nat → List (List Nat)) : Nat → List (List Nat)
  | 0 => [[]]
  | k + 1 => (frS h prev k).map (h :: ·) ++ prev (k + 1)
def fr : Nat → Nat → List (List Nat)
  | 0, 0 => [[]]
  | 0, _ + 1 => []
  | h + 1, k => frS h (fr h) k

theorem fr_zero (h : Nat) : fr h 0 = [[]] := by cases h <;> rfl
theorem fr_nil (k : Nat) : fr 0 (k + 1) = [] := rfl
theorem fr_succ (h k : Nat) : fr (h + 1) (k + 1) = (fr (h + 1) k).map (h :: ·) ++ fr h (k + 1) := rfl

theorem fr_mem : ∀ (h k : Nat) (t : List Nat), t ∈ fr h k → t.length = k ∧ ∀ x ∈ t, x < h := by
  intro h
  induction h with
  | zero =>
    intro k t ht
    cases k with
    | zero => rw [fr_zero] at ht; simp at ht; subst ht; simp
    | succ k => rw [fr_nil] at ht; simp at ht
  | succ h ih =>
    intro k
    induction k with
    | zero => intro t ht; rw [fr_zero] at ht; simp at ht; subst ht; simp
    | succ k ihk =>
      intro t ht
      rw [fr_succ, List.mem_append, List.mem_map] at ht
      rcases ht with ⟨s, hs, rfl⟩ | ht
      · obtain ⟨h1, h2⟩ := ihk s hs
        refine ⟨by simp [h1], ?_⟩
        intro x hx
        rcases List.mem_cons.1 hx with rfl | hx
        · omega
        · exact h2 x hx
      · obtain ⟨h1, h2⟩ := ih (k + 1) t ht
        exact ⟨h1, fun x hx => by have := h2 x hx; omega⟩

/-- A sum over the falling rows. -/
def fs (h k : Nat) (F : List Nat → Nat) : Nat := ((fr h k).map F).sum

theorem fs_zero (h : Nat) (F : List Nat → Nat) : fs h 0 F = F [] := by simp [fs, fr_zero]
theorem fs_nil (k : Nat) (F : List Nat → Nat) : fs 0 (k + 1) F = 0 := rfl
theorem fs_succ (h k : Nat) (F : List Nat → Nat) : fs (h + 1) (k + 1) F = fs (h + 1) k (fun t => F (h :: t)) + fs h (k + 1) F := by
  simp only [fs, fr_succ, List.map_append, List.sum_append, List.map_map, Function.comp_def]

theorem sum_congr {α : Type} : ∀ (l : List α) (F G : α → Nat), (∀ t ∈ l, F t = G t) → (l.map F).sum = (l.map G).sum := by
  intro l F G h
  rw [List.map_congr_left h]

theorem fs_congr (h k : Nat) (F G : List Nat → Nat) (e : ∀ t, t.length = k → (∀ x ∈ t, x < h) → F t = G t) : fs h k F = fs h k G :=
  sum_congr _ _ _ fun t ht => e t (fr_mem h k t ht).1 (fr_mem h k t ht).2

theorem sum_mul {α : Type} (c : Nat) : ∀ (l : List α) (F : α → Nat), (l.map (fun t => c * F t)).sum = c * (l.map F).sum := by
  intro l F
  induction l with
  | nil => simp
  | cons a l ih => simp [ih, Nat.mul_add]

theorem fs_mul (h k c : Nat) (F : List Nat → Nat) : fs h k (fun t => c * F t) = c * fs h k F := sum_mul c _ F

theorem sum_add {α : Type} : ∀ (l : List α) (F G : α → Nat), (l.map (fun t => F t + G t)).sum = (l.map F).sum + (l.map G).sum := by
  intro l F G
  induction l with
  | nil => rfl
  | cons a l ih => simp only [List.map_cons, List.sum_cons]; omega

theorem fs_none (h k : Nat) (F : List Nat → Nat) (e : ∀ t, F t = 0) : fs h k F = 0 := by
  rw [show F = fun _ => 0 from funext e]
  unfold fs
  induction fr h k with
  | nil => rfl
  | cons a m ih => rw [List.map_cons, List.sum_cons, ih]

/-- The ways of j suits of four. -/
def c4 (n : Nat) : Nat := [1, 4, 6, 4, 1].getD n 0
/-- The ways of suits of a row, by the ranks below n. -/
def wpN : Nat → List Nat → Nat
  | 0, _ => 1
  | n + 1, t => wpN n t * c4 (t.count n)

theorem wp_off (h j : Nat) (t : List Nat) : ∀ n, n ≤ h → wpN n (List.replicate j h ++ t) = wpN n t := by
  intro n
  induction n with
  | zero => intro _; rfl
  | succ n ih =>
    intro hn
    rw [wpN, wpN, ih (by omega), List.count_append, List.count_replicate]
    have : (h == n) = false := by simp; omega
    rw [this]; simp

theorem wp_at (h j : Nat) (t : List Nat) (ht : t.count h = 0) : ∀ n, h < n → wpN n (List.replicate j h ++ t) = c4 j * wpN n t := by
  intro n
  induction n with
  | zero => intro hn; omega
  | succ n ih =>
    intro hn
    rw [wpN, wpN, List.count_append, List.count_replicate]
    by_cases e : h = n
    · subst e
      rw [wp_off h j t h (Nat.le_refl _), ht]
      simp only [beq_self_eq_true, if_true, Nat.add_zero]
      rw [show c4 0 = 1 from rfl, Nat.mul_one, Nat.mul_comm]
    · rw [ih (by omega)]
      have : (h == n) = false := by simpa using e
      rw [this]
      simp [Nat.mul_assoc]

theorem nocount (h : Nat) (t : List Nat) (ht : ∀ x ∈ t, x < h) : t.count h = 0 := by
  rw [List.count_eq_zero]
  intro hm
  have := ht h hm
  omega

theorem fs_wt (h j k : Nat) (hh : h < 13) (P : List Nat) (hP : P = List.replicate j h) (G : List Nat → Nat) : fs h k (fun t => wpN 13 (P ++ t) * G (P ++ t)) = c4 j * fs h k (fun t => wpN 13 t * G (P ++ t)) := by
  rw [← fs_mul]
  apply fs_congr
  intro t _ ht
  rw [hP, wp_at h j t (nocount h t ht) 13 hh, Nat.mul_assoc]

theorem fs_up0 (h : Nat) (F : List Nat → Nat) : fs (h + 1) 0 F = fs h 0 F := by rw [fs_zero, fs_zero]

/-- Hands by their ranks: each falling row counts as often as its suits have ways. -/
theorem sm_rows : ∀ (h k : Nat), h ≤ 13 → k ≤ 5 → ∀ (G : List Nat → Nat), sm k (cd h) (fun t => G (t.map (· / 4))) = fs h k (fun t => wpN 13 t * G t) := by
  intro h
  induction h with
  | zero =>
    intro k _ _ G
    cases k with
    | zero => rw [sm_zero, fs_zero]; simp [wpN, c4]
    | succ k => rw [cd, sm_nil, fs_nil]
  | succ h ih =>
    intro k hh hk G
    have d0 : 4 * h / 4 = h := by omega
    have d1 : (4 * h + 1) / 4 = h := by omega
    have d2 : (4 * h + 2) / 4 = h := by omega
    have d3 : (4 * h + 3) / 4 = h := by omega
    have w0 : wpN 13 [] = 1 := by decide
    have S0 := fun k => fun (hk : k ≤ 5) => ih k (by omega) hk G
    have S1 := fun k => fun (hk : k ≤ 5) => ih k (by omega) hk (fun t => G (h :: t))
    have S2 := fun k => fun (hk : k ≤ 5) => ih k (by omega) hk (fun t => G (h :: h :: t))
    have S3 := fun k => fun (hk : k ≤ 5) => ih k (by omega) hk (fun t => G (h :: h :: h :: t))
    have S4 := fun k => fun (hk : k ≤ 5) => ih k (by omega) hk (fun t => G (h :: h :: h :: h :: t))
    have W1 := fun k => fs_wt h 1 k (by omega) [h] rfl G
    have W2 := fun k => fs_wt h 2 k (by omega) [h, h] rfl G
    have W3 := fun k => fs_wt h 3 k (by omega) [h, h, h] rfl G
    have W4 := fun k => fs_wt h 4 k (by omega) [h, h, h, h] rfl G
    have W5 := fun k => fs_wt h 5 k (by omega) [h, h, h, h, h] rfl G
    simp only [List.cons_append, List.nil_append, show c4 1 = 4 from rfl, show c4 2 = 6 from rfl, show c4 3 = 4 from rfl, show c4 4 = 1 from rfl, show c4 5 = 0 from rfl] at W1 W2 W3 W4 W5
    match k, hk with
    | 0, _ => simp only [sm_zero, fs_zero, List.map_nil, w0, Nat.one_mul]
    | 1, _ =>
      simp only [cd, sm_cons, sm_up0, fs_succ, fs_up0, List.map_cons, d0, d1, d2, d3]
      rw [W1, S0 1 (by omega), S1 0 (by omega)]; simp only [Nat.zero_add, Nat.reduceAdd]; omega
    | 2, _ =>
      simp only [cd, sm_cons, sm_up0, fs_succ, fs_up0, List.map_cons, d0, d1, d2, d3]
      rw [W1, W2, S0 2 (by omega), S1 1 (by omega), S2 0 (by omega)]; simp only [Nat.zero_add, Nat.reduceAdd]; omega
    | 3, _ =>
      simp only [cd, sm_cons, sm_up0, fs_succ, fs_up0, List.map_cons, d0, d1, d2, d3]
      rw [W1, W2, W3, S0 3 (by omega), S1 2 (by omega), S2 1 (by omega), S3 0 (by omega)]; simp only [Nat.zero_add, Nat.reduceAdd]; omega
    | 4, _ =>
      simp only [cd, sm_cons, sm_up0, fs_succ, fs_up0, List.map_cons, d0, d1, d2, d3]
      rw [W1, W2, W3, W4, S0 4 (by omega), S1 3 (by omega), S2 2 (by omega), S3 1 (by omega), S4 0 (by omega)]; simp only [Nat.zero_add, Nat.reduceAdd]; omega
    | 5, _ =>
      simp only [cd, sm_cons, sm_up0, fs_succ, fs_up0, List.map_cons, d0, d1, d2, d3]
      rw [W1, W2, W3, W4, W5, S0 5 (by omega), S1 4 (by omega), S2 3 (by omega), S3 2 (by omega), S4 1 (by omega)]; simp only [Nat.zero_add, Nat.reduceAdd]; omega

/-- All of one suit. -/
def suitB (s : Nat) (t : List Nat) : Bool := t.all (fun x => x % 4 == s)
def one (b : Bool) : Nat := if b then 1 else 0

theorem suit_cons (s x : Nat) (t : List Nat) : suitB s (x :: t) = (x % 4 == s && suitB s t) := rfl

theorem fs_same (h k : Nat) (F : List Nat → Nat) (e : ∀ t, F (h :: h :: t) = 0) : fs (h + 1) (k + 1) F = fs h k (fun t => F (h :: t)) + fs h (k + 1) F := by
  rw [fs_succ]
  cases k with
  | zero => rw [fs_zero, fs_zero]
  | succ k => rw [fs_succ, fs_none _ _ _ e, Nat.zero_add]

theorem nd_cons (h : Nat) (t : List Nat) (ht : ∀ x ∈ t, x < h) : decide (h :: t).Nodup = decide t.Nodup := by
  have : ¬ h ∈ t := fun hm => by have := ht h hm; omega
  simp [List.nodup_cons, this]

/-- Hands of one suit: each row of unlike ranks once. -/
theorem sm_suit (s : Nat) (hs : s < 4) : ∀ (h k : Nat) (G : List Nat → Nat), sm k (cd h) (fun t => one (suitB s t) * G (t.map (· / 4))) = fs h k (fun t => one (decide t.Nodup) * G t) := by
  intro h
  induction h with
  | zero =>
    intro k G
    cases k with
    | zero => rw [sm_zero, fs_zero]; rfl
    | succ k => rw [cd, sm_nil, fs_nil]
  | succ h ih =>
    intro k G
    cases k with
    | zero => rw [sm_zero, fs_zero]; rfl
    | succ k =>
      rw [fs_same _ _ _ (fun t => by simp [one])]
      rw [fs_congr h k _ (fun t => one (decide t.Nodup) * G (h :: t)) (fun t _ ht => by rw [nd_cons h t ht])]
      rw [← ih k, ← ih (k + 1)]
      have d0 : 4 * h / 4 = h := by omega
      have d1 : (4 * h + 1) / 4 = h := by omega
      have d2 : (4 * h + 2) / 4 = h := by omega
      have d3 : (4 * h + 3) / 4 = h := by omega
      have m0 : 4 * h % 4 = 0 := by omega
      have m1 : (4 * h + 1) % 4 = 1 := by omega
      have m2 : (4 * h + 2) % 4 = 2 := by omega
      have m3 : (4 * h + 3) % 4 = 3 := by omega
      rw [cd]
      match s, hs with
      | 0, _ =>
        rw [sm_cons]
        rw [sm_skip _ _ _ _ (by intro t; simp [suit_cons, m1, one]), sm_skip _ _ _ _ (by intro t; simp [suit_cons, m2, one]), sm_skip _ _ _ _ (by intro t; simp [suit_cons, m3, one]), sm_skip _ _ _ _ (by intro t; simp [suit_cons, m1, one]), sm_skip _ _ _ _ (by intro t; simp [suit_cons, m2, one]), sm_skip _ _ _ _ (by intro t; simp [suit_cons, m3, one])]
        simp only [suit_cons, m0, List.map_cons, d0, beq_self_eq_true, Bool.true_and]
      | 1, _ =>
        rw [sm_skip _ _ _ _ (by intro t; simp [suit_cons, m0, one]), sm_cons]
        rw [sm_skip _ _ _ _ (by intro t; simp [suit_cons, m2, one]), sm_skip _ _ _ _ (by intro t; simp [suit_cons, m3, one]), sm_skip _ _ _ _ (by intro t; simp [suit_cons, m2, one]), sm_skip _ _ _ _ (by intro t; simp [suit_cons, m3, one])]
        simp only [suit_cons, m1, List.map_cons, d1, beq_self_eq_true, Bool.true_and]
      | 2, _ =>
        rw [sm_skip _ _ _ _ (by intro t; simp [suit_cons, m0, one]), sm_skip _ _ _ _ (by intro t; simp [suit_cons, m1, one]), sm_cons]
        rw [sm_skip _ _ _ _ (by intro t; simp [suit_cons, m3, one]), sm_skip _ _ _ _ (by intro t; simp [suit_cons, m3, one])]
        simp only [suit_cons, m2, List.map_cons, d2, beq_self_eq_true, Bool.true_and]
      | 3, _ =>
        rw [sm_skip _ _ _ _ (by intro t; simp [suit_cons, m0, one]), sm_skip _ _ _ _ (by intro t; simp [suit_cons, m1, one]), sm_skip _ _ _ _ (by intro t; simp [suit_cons, m2, one]), sm_cons]
        simp only [suit_cons, m3, List.map_cons, d3, beq_self_eq_true, Bool.true_and]

/-- All of the first one's suit. -/
def flB (t : List Nat) : Bool := suitB (t.getD 0 0 % 4) t

theorem flB_one (t : List Nat) (h : t ≠ []) : one (flB t) = one (suitB 0 t) + one (suitB 1 t) + one (suitB 2 t) + one (suitB 3 t) := by
  cases t with
  | nil => exact absurd rfl h
  | cons x t =>
    have hx : x % 4 < 4 := by omega
    have e : flB (x :: t) = suitB (x % 4) t := by simp [flB, suit_cons]
    rw [e]
    simp only [suit_cons]
    generalize x % 4 = r at hx
    match r, hx with
    | 0, _ => simp [one]
    | 1, _ => simp [one]
    | 2, _ => simp [one]
    | 3, _ => simp [one]

theorem c4_le (n : Nat) : c4 n ≤ 6 := by
  match n with
  | 0 | 1 | 2 | 3 | 4 => decide
  | n + 5 => simp [c4]

theorem wp_pos (t : List Nat) : ∀ n, (∀ r, r < n → t.count r ≤ 4) → 1 ≤ wpN n t := by
  intro n
  induction n with
  | zero => intro _; exact Nat.le_refl _
  | succ n ih =>
    intro h
    rw [wpN]
    have h1 := ih (fun r hr => h r (by omega))
    have h2 := h n (by omega)
    have h3 : 1 ≤ c4 (t.count n) := by
      generalize t.count n = x at h2
      match x, h2 with
      | 0, _ | 1, _ | 2, _ | 3, _ | 4, _ => decide
    exact Nat.mul_le_mul h1 h3

theorem wp_four (t : List Nat) (x : Nat) (hx : t.count x = 1) : ∀ n, x < n → (∀ r, r < n → t.count r ≤ 4) → 4 ≤ wpN n t := by
  intro n
  induction n with
  | zero => intro h; omega
  | succ n ih =>
    intro hn h
    rw [wpN]
    by_cases e : x = n
    · subst e
      rw [hx]
      exact Nat.mul_le_mul (wp_pos t x (fun r hr => h r (by omega))) (show 4 ≤ c4 1 by decide)
    · have h1 := ih (by omega) (fun r hr => h r (by omega))
      have h2 := h n (by omega)
      have h3 : 1 ≤ c4 (t.count n) := by
        generalize t.count n = x at h2
        match x, h2 with
        | 0, _ | 1, _ | 2, _ | 3, _ | 4, _ => decide
      exact Nat.mul_le_mul h1 h3

theorem wp_le (t : List Nat) : ∀ n, wpN n t ≤ 6 ^ n := by
  intro n
  induction n with
  | zero => exact Nat.le_refl _
  | succ n ih =>
    rw [wpN, Nat.pow_succ]
    exact Nat.mul_le_mul ih (c4_le _)

theorem cd_perm : (cd 13).Perm (List.range 52) := by decide +kernel

/-- What a row of ranks adds to class c, K telling the class by whether it is a flush. -/
def addC (K : Bool → List Nat → Nat) (c : Nat) (t : List Nat) : Nat :=
  if t.Nodup then (wpN 13 t - 4) * one (K false t == c) + 4 * one (K true t == c) else wpN 13 t * one (K false t == c)

theorem count_le_one (t : List Nat) (h : t.Nodup) (r : Nat) : t.count r ≤ 1 := List.nodup_iff_count.1 h r

/-- Hands by class: as the reference counts them. -/
theorem hands_rows (K : Bool → List Nat → Nat) (hK : ∀ f (s t : List Nat), s.Perm t → K f s = K f t) (c : Nat) :
    sm 5 (List.range 52) (fun t => one (K (flB t) (t.map (· / 4)) == c)) = fs 13 5 (addC K c) := by
  have hsum : ∀ f, sm 5 (List.range 52) (fun t => one (flB t) * one (K f (t.map (· / 4)) == c)) = 4 * fs 13 5 (fun t => one (decide t.Nodup) * one (K f t == c)) := by
    intro f
    have e1 : sm 5 (List.range 52) (fun t => one (flB t) * one (K f (t.map (· / 4)) == c)) = sm 5 (List.range 52) (fun t => ((one (suitB 0 t) * one (K f (t.map (· / 4)) == c) + one (suitB 1 t) * one (K f (t.map (· / 4)) == c)) + one (suitB 2 t) * one (K f (t.map (· / 4)) == c)) + one (suitB 3 t) * one (K f (t.map (· / 4)) == c)) := by
      unfold sm
      apply sum_congr
      intro t ht
      have hl := (comb_mem _ _ _ ht).1
      rw [flB_one t (by intro e; rw [e] at hl; simp at hl)]
      simp only [Nat.add_mul]
    have key : ∀ s, s < 4 → sm 5 (List.range 52) (fun t => one (suitB s t) * one (K f (t.map (· / 4)) == c)) = fs 13 5 (fun t => one (decide t.Nodup) * one (K f t == c)) := by
      intro s hs
      rw [← sm_perm cd_perm 5 _ (fun a b hab => ?_)]
      · exact sm_suit s hs 13 5 (fun t => one (K f t == c))
      · have h1 : suitB s a = suitB s b := by unfold suitB; exact hab.all_eq
        rw [h1, hK f _ _ (hab.map _)]
    rw [e1, sm_add, sm_add, sm_add, key 0 (by omega), key 1 (by omega), key 2 (by omega), key 3 (by omega)]
    omega
  have hall : sm 5 (List.range 52) (fun t => one (K false (t.map (· / 4)) == c)) = fs 13 5 (fun t => wpN 13 t * one (K false t == c)) := by
    rw [← sm_perm cd_perm 5 _ (fun a b hab => by rw [hK false _ _ (hab.map _)])]
    exact sm_rows 13 5 (by omega) (by omega) (fun t => one (K false t == c))
  have hands : sm 5 (List.range 52) (fun t => one (K (flB t) (t.map (· / 4)) == c)) + sm 5 (List.range 52) (fun t => one (flB t) * one (K false (t.map (· / 4)) == c)) = sm 5 (List.range 52) (fun t => one (K false (t.map (· / 4)) == c)) + sm 5 (List.range 52) (fun t => one (flB t) * one (K true (t.map (· / 4)) == c)) := by
    rw [← sm_add, ← sm_add]
    apply sm_congr
    intro t
    cases flB t <;> simp [one]
    omega
  have rows : fs 13 5 (addC K c) + 4 * fs 13 5 (fun t => one (decide t.Nodup) * one (K false t == c)) = fs 13 5 (fun t => wpN 13 t * one (K false t == c)) + 4 * fs 13 5 (fun t => one (decide t.Nodup) * one (K true t == c)) := by
    rw [← fs_mul, ← fs_mul]
    unfold fs
    rw [← sum_add, ← sum_add]
    apply sum_congr
    intro t ht
    obtain ⟨h1, h2⟩ := fr_mem _ _ _ ht
    unfold addC
    by_cases hn : t.Nodup
    · rw [if_pos hn]
      have hx : t.count (t.getD 0 0) = 1 := by
        have a1 := count_le_one t hn (t.getD 0 0)
        have a2 : t.getD 0 0 ∈ t := by
          cases t with
          | nil => simp at h1
          | cons x t => simp
        have a3 := List.count_pos_iff.2 a2
        omega
      have hlt : t.getD 0 0 < 13 := by
        cases t with
        | nil => simp at h1
        | cons x t => exact h2 x (by simp)
      have h4 := wp_four t _ hx 13 hlt (fun r _ => Nat.le_trans (count_le_one t hn r) (by omega))
      generalize wpN 13 t = W at h4
      obtain ⟨V, rfl⟩ : ∃ V, W = V + 4 := ⟨W - 4, by omega⟩
      simp only [hn, decide_true, show one true = 1 from rfl, Nat.one_mul, Nat.add_sub_cancel, Nat.add_mul]
      omega
    · rw [if_neg hn]
      simp [hn, one]
  rw [hsum, hsum, hall] at hands
  omega

end Go.Proofs.Ytdhacmcdbpojlaa
