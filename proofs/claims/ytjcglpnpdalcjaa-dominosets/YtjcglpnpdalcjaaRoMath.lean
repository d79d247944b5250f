/-
  Rows counted piece by piece, those that are alike once, are rows counted by the next end. No conditions beyond those that each theorem bears.
-/
import Derived.Test.YtjcglpnpdalcjaaEul2
import Derived.Test.YtjcglpnpdalcjaaRowsN
namespace Go.Proofs.Ytjcglpnpdalcjaa
open Go.RowKit
attribute [local irreducible] hz hzL

/-- May this piece come next? -/
def okE (e : Int) (p : Pc) : Bool := decide (e < 0 ∨ p.1 = e)

/-- A piece as it lies is counted, unless it was tried or does not fit. -/
def stF (f : Pc → Nat) (e : Int) (s : List Pc × Nat) (p : Pc) : List Pc × Nat := if (decide (p ∈ s.1) || !okE e p) = true then s else (s.1 ++ [p], s.2 + f p)

/-- All pieces, and turned. -/
def cl2 (l : List Pc) : List Pc := l.flatMap fun p => [p, turn p]

def sm2 (g : Nat → Nat → Nat) : Nat := sumTo (fun a => sumTo (fun b => g a b) 10) 10

theorem sumTo_cong {g h : Nat → Nat} (n : Nat) (e : ∀ x, x < n → g x = h x) : sumTo g n = sumTo h n := by
  induction n with
  | zero => rfl
  | succ n ih => rw [sumTo, sumTo, ih (fun x hx => e x (by omega)), e n (by omega)]

theorem sumTo_ptc (a k c : Nat) : sumTo (fun u => if u = a then c else 0) k = if a < k then c else 0 := by
  induction k with
  | zero => rfl
  | succ k ih =>
    rw [sumTo, ih]
    by_cases h : k = a
    · rw [if_pos h, if_neg (by omega), if_pos (by omega), Nat.zero_add]
    · rw [if_neg h]
      by_cases h2 : a < k
      · rw [if_pos h2, if_pos (by omega)]; rfl
      · rw [if_neg h2, if_neg (by omega)]

theorem sm2_cong {g h : Nat → Nat → Nat} (e : ∀ a b, a < 10 → b < 10 → g a b = h a b) : sm2 g = sm2 h :=
  sumTo_cong 10 fun a ha => sumTo_cong 10 fun b hb => e a b ha hb

theorem sm2_add (g h : Nat → Nat → Nat) : sm2 (fun a b => g a b + h a b) = sm2 g + sm2 h := by
  unfold sm2
  rw [← sumTo_addN]
  exact sumTo_cong 10 fun a _ => sumTo_addN _ _ 10

theorem sm2_pt (a0 b0 c : Nat) (ha : a0 < 10) (hb : b0 < 10) : sm2 (fun a b => if a = a0 ∧ b = b0 then c else 0) = c := by
  unfold sm2
  have h1 : sumTo (fun a => sumTo (fun b => if a = a0 ∧ b = b0 then c else 0) 10) 10 = sumTo (fun a => if a = a0 then c else 0) 10 := sumTo_cong 10 fun a _ => by
    by_cases h : a = a0
    · rw [if_pos h]
      have : sumTo (fun b => if a = a0 ∧ b = b0 then c else 0) 10 = sumTo (fun b => if b = b0 then c else 0) 10 := sumTo_cong 10 fun b _ => by simp [h]
      rw [this, sumTo_ptc, if_pos hb]
    · rw [if_neg h]
      have : sumTo (fun b => if a = a0 ∧ b = b0 then c else 0) 10 = sumTo (fun b => if b = 10 then 0 else 0) 10 := sumTo_cong 10 fun b _ => by simp [h]
      rw [this, sumTo_ptc]
      simp
  rw [h1, sumTo_ptc, if_pos ha]

theorem sm2_zero : sm2 (fun _ _ => 0) = 0 := by decide

def cnd (C T : List Pc) (e : Int) (f : Pc → Nat) (a b : Nat) : Nat := if ((a : Int), (b : Int)) ∈ C ∧ okE e ((a : Int), (b : Int)) = true ∧ ((a : Int), (b : Int)) ∉ T then f ((a : Int), (b : Int)) else 0

theorem fold_sum (f : Pc → Nat) (e : Int) : ∀ (C : List Pc), (∀ p ∈ C, ∃ a b : Nat, p = ((a : Int), (b : Int)) ∧ a < 10 ∧ b < 10) → ∀ (T : List Pc) (n : Nat), (C.foldl (stF f e) (T, n)).2 = n + sm2 (cnd C T e f) := by
  intro C
  induction C with
  | nil =>
    intro _ T n
    have : sm2 (cnd [] T e f) = sm2 (fun _ _ => 0) := sm2_cong fun a b _ _ => by unfold cnd; rw [if_neg (by simp)]
    rw [this, sm2_zero]
    rfl
  | cons p C ih =>
    intro hC T n
    have hC' : ∀ q ∈ C, ∃ a b : Nat, q = ((a : Int), (b : Int)) ∧ a < 10 ∧ b < 10 := fun q hq => hC q (by simp [hq])
    obtain ⟨a0, b0, hp, ha, hb⟩ := hC p (by simp)
    rw [List.foldl_cons]
    by_cases hs : (decide (p ∈ T) || !okE e p) = true
    · have e1 : stF f e (T, n) p = (T, n) := by unfold stF; rw [if_pos hs]
      rw [e1, ih hC' T n]
      congr 1
      refine sm2_cong fun a b _ _ => ?_
      unfold cnd
      by_cases hq : ((a : Int), (b : Int)) = p
      · rw [Bool.or_eq_true, decide_eq_true_iff, Bool.not_eq_true'] at hs
        rw [if_neg (by rw [hq]; rintro ⟨_, h2, h3⟩; rcases hs with h | h; exact h3 h; rw [h] at h2; cases h2),
          if_neg (by rw [hq]; rintro ⟨_, h2, h3⟩; rcases hs with h | h; exact h3 h; rw [h] at h2; cases h2)]
      · simp only [List.mem_cons, hq, false_or]
    · have e1 : stF f e (T, n) p = (T ++ [p], n + f p) := by unfold stF; rw [if_neg hs]
      rw [e1, ih hC' (T ++ [p]) (n + f p), Nat.add_assoc]
      congr 1
      simp only [Bool.or_eq_true, decide_eq_true_iff, Bool.not_eq_true', not_or] at hs
      have h1 : sm2 (cnd (p :: C) T e f) = sm2 (fun a b => (if a = a0 ∧ b = b0 then f p else 0) + cnd C (T ++ [p]) e f a b) := sm2_cong fun a b _ _ => by
        by_cases hq : ((a : Int), (b : Int)) = p
        · have hab : a = a0 ∧ b = b0 := by rw [hp] at hq; simp only [Prod.mk.injEq] at hq; omega
          rw [if_pos hab]
          unfold cnd
          rw [hq, if_pos ⟨by simp, by cases h : okE e p; exact absurd h hs.2; rfl, hs.1⟩, if_neg (by rintro ⟨_, _, h3⟩; exact h3 (by simp)), Nat.add_zero]
        · have hab : ¬ (a = a0 ∧ b = b0) := fun h => hq (by rw [hp, h.1, h.2])
          rw [if_neg hab, Nat.zero_add]
          unfold cnd
          simp only [List.mem_cons, hq, false_or, List.mem_append, List.mem_nil_iff, or_false]
      rw [h1, sm2_add, sm2_pt a0 b0 (f p) ha hb]

theorem fold_le (f : Pc → Nat) (e : Int) (B : Nat) (hf : ∀ p, f p ≤ B) : ∀ (C : List Pc) (T : List Pc) (n : Nat), (C.foldl (stF f e) (T, n)).2 ≤ n + C.length * B ∧ (C.foldl (stF f e) (T, n)).1.length ≤ T.length + C.length := by
  intro C
  induction C with
  | nil => intro T n; exact ⟨by simp, by simp⟩
  | cons p C ih =>
    intro T n
    rw [List.foldl_cons, List.length_cons, Nat.succ_mul]
    by_cases hs : (decide (p ∈ T) || !okE e p) = true
    · have e1 : stF f e (T, n) p = (T, n) := by unfold stF; rw [if_pos hs]
      rw [e1]
      obtain ⟨h1, h2⟩ := ih T n
      exact ⟨by omega, by omega⟩
    · have e1 : stF f e (T, n) p = (T ++ [p], n + f p) := by unfold stF; rw [if_neg hs]
      rw [e1]
      obtain ⟨h1, h2⟩ := ih (T ++ [p]) (n + f p)
      have := hf p
      rw [List.length_append, List.length_singleton] at h2
      exact ⟨by omega, by omega⟩

theorem mem_cl2 (l : List Pc) (a b : Nat) : ((a : Int), (b : Int)) ∈ cl2 l ↔ pr a b ∈ l.map lf := by
  unfold cl2
  simp only [List.mem_flatMap, List.mem_map, List.mem_cons, List.mem_nil_iff, or_false]
  constructor
  · rintro ⟨q, hq, h | h⟩
    · exact ⟨q, hq, by rw [← h]; rfl⟩
    · refine ⟨q, hq, ?_⟩
      have : q = ((b : Int), (a : Int)) := by
        unfold turn at h
        obtain ⟨x, y⟩ := q
        simp only [Prod.mk.injEq] at h
        rw [h.1, h.2]
      rw [this]
      unfold pr lf
      simp only [Prod.mk.injEq]
      omega
  · rintro ⟨q, hq, h⟩
    rcases lf_eq (a := a) (b := b) h with h | h
    · exact ⟨q, hq, Or.inl h.symm⟩
    · exact ⟨q, hq, Or.inr (by rw [h]; rfl)⟩

theorem cl2_nat (l : List Pc) (h : pcsB l = true) : ∀ p ∈ cl2 l, ∃ a b : Nat, p = ((a : Int), (b : Int)) ∧ a < 10 ∧ b < 10 := by
  intro p hp
  unfold cl2 at hp
  simp only [List.mem_flatMap, List.mem_cons, List.mem_nil_iff, or_false] at hp
  obtain ⟨q, hq, hh⟩ := hp
  obtain ⟨X, Y, e, hX, hY⟩ := pc_nat (List.all_eq_true.1 h q hq)
  rcases hh with h | h
  · exact ⟨X, Y, by rw [h, e], hX, hY⟩
  · exact ⟨Y, X, by rw [h, e]; rfl, hY, hX⟩

theorem rwN_perm (k : Nat) : ∀ {m m' : List Pc} (v : Nat), m.Perm m' → rwN k m v = rwN k m' v := by
  induction k with
  | zero => intro m m' v _; rfl
  | succ k ih =>
    intro m m' v h
    rw [rwN, rwN]
    refine sumTo_cong 10 fun x _ => ?_
    by_cases hx : pr v x ∈ m
    · rw [if_pos hx, if_pos (h.mem_iff.1 hx), ih x (h.erase _)]
    · rw [if_neg hx, if_neg (fun h' => hx (h.mem_iff.2 h'))]

/-- The rows that go on behind a piece. -/
def fv (k : Nat) (m : List Pc) (p : Pc) : Nat := rwN k (m.erase (lf p)) p.2.toNat

/-- How many rows there are, behind an end or behind none. -/
def roV (l : List Pc) (e : Int) : Nat := if l.length = 0 then 1 else if e < 0 then sumTo (fun v => rwN l.length (l.map lf) v) 10 else rwN l.length (l.map lf) e.toNat

theorem ro_fold (l : List Pc) (hB : pcsB l = true) (k : Nat) (hk : l.length = k + 1) (e : Int) (he : e < 10) :
    ((cl2 l).foldl (stF (fv k (l.map lf)) e) ([], 0)).2 = roV l e := by
  rw [fold_sum _ _ _ (cl2_nat l hB), Nat.zero_add, roV, if_neg (by omega), hk]
  have h1 : ∀ a b : Nat, cnd (cl2 l) [] e (fv k (l.map lf)) a b = if okE e ((a : Int), (b : Int)) = true then (if pr a b ∈ l.map lf then rwN k ((l.map lf).erase (pr a b)) b else 0) else 0 := by
    intro a b
    unfold cnd
    by_cases h : okE e ((a : Int), (b : Int)) = true
    · rw [if_pos h]
      by_cases h2 : pr a b ∈ l.map lf
      · rw [if_pos h2, if_pos ⟨(mem_cl2 l a b).2 h2, h, by simp⟩]
        rfl
      · rw [if_neg h2, if_neg (fun h3 => h2 ((mem_cl2 l a b).1 h3.1))]
    · rw [if_neg h, if_neg (fun h3 => h h3.2.1)]
  by_cases hneg : e < 0
  · rw [if_pos hneg]
    refine sumTo_cong 10 fun a _ => ?_
    rw [rwN]
    refine sumTo_cong 10 fun b _ => ?_
    rw [h1, if_pos (by unfold okE; rw [decide_eq_true_iff]; exact Or.inl hneg)]
  · rw [if_neg hneg]
    obtain ⟨v, rfl⟩ : ∃ v : Nat, e = v := ⟨e.toNat, by omega⟩
    rw [Int.toNat_natCast]
    have h2 : sm2 (cnd (cl2 l) [] (v : Int) (fv k (l.map lf))) = sumTo (fun a => if a = v then rwN (k + 1) (l.map lf) v else 0) 10 := sumTo_cong 10 fun a _ => by
      by_cases ha : a = v
      · rw [if_pos ha, rwN]
        refine sumTo_cong 10 fun b _ => ?_
        rw [h1, if_pos (by unfold okE; rw [decide_eq_true_iff]; right; rw [ha]), ha]
      · rw [if_neg ha]
        have : sumTo (fun b => cnd (cl2 l) [] (v : Int) (fv k (l.map lf)) a b) 10 = sumTo (fun b => if b = 10 then 0 else 0) 10 := sumTo_cong 10 fun b _ => by
          rw [h1, if_neg (by unfold okE; rw [decide_eq_true_iff]; rintro (h | h); omega; simp only at h; omega)]
          simp
        rw [this, sumTo_ptc]
        simp
    rw [h2, sumTo_ptc, if_pos (by omega)]

end Go.Proofs.Ytjcglpnpdalcjaa
