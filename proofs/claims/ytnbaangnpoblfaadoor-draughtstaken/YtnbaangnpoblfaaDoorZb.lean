/-
  Boards by their numbers: which may be, how their mover sees them, and how what is seen is told. No conditions beyond those that each theorem bears.
-/
import Derived.Test.YtnbaangnpoblfaaDoorJp
import Derived.Test.YtnbaangnpoblfaaDoorWb
namespace Go.Proofs.YtnbaangnpoblfaaDoor

/-- May a piece stand there? -/
def okP (x : Int) (p : Nat) : Bool := decide (x = 0 ∨ x = 2 ∨ x = -2 ∨ (x = 1 ∧ 4 < p) ∨ (x = -1 ∧ p ≤ 28))
/-- A player's pieces on the first so many places. -/
def cn (Z : List Int) (o k : Nat) : Nat := (List.range k).countP fun i => own3 (Z.getD (i + 1) 0) == o
theorem cn_zero (Z : List Int) (o : Nat) : cn Z o 0 = 0 := rfl
theorem cn_succ (Z : List Int) (o k : Nat) : cn Z o (k + 1) = cn Z o k + if own3 (Z.getD (k + 1) 0) = o then 1 else 0 := by
  unfold cn
  rw [List.range_succ, List.countP_append]
  simp only [List.countP_cons, List.countP_nil, beq_iff_eq, Nat.zero_add]
theorem cn_le (Z : List Int) (o k : Nat) : cn Z o k ≤ k := by
  unfold cn
  exact Nat.le_trans List.countP_le_length (by simp)
def okU (Z : List Int) (k : Nat) : Prop := ∀ i, i < k → okP (Z.getD (i + 1) 0) (i + 1) = true

/-- A board may be. -/
structure Mb (Z : List Int) (t : Int) : Prop where
  len : Z.length = 33
  z0 : Z.getD 0 0 = 0
  tt : t = 1 ∨ t = 2
  ok : okU Z 32
  c1 : cn Z 1 32 ≤ 12
  c2 : cn Z 2 32 ≤ 12

def mayD (Z : List Int) (t : Int) : Bool :=
  decide (Z.length = 33) && (decide (Z.getD 0 0 = 0) && (decide (t = 1 ∨ t = 2) && ((List.range 32).all (fun i => okP (Z.getD (i + 1) 0) (i + 1)) && (decide (cn Z 1 32 ≤ 12) && decide (cn Z 2 32 ≤ 12)))))

theorem mayD_iff (Z : List Int) (t : Int) : mayD Z t = true ↔ Mb Z t := by
  unfold mayD
  simp only [Bool.and_eq_true, decide_eq_true_eq, List.all_eq_true, List.mem_range]
  constructor
  · rintro ⟨a, b, c, d, e, f⟩; exact ⟨a, b, c, d, e, f⟩
  · rintro ⟨a, b, c, d, e, f⟩; exact ⟨a, b, c, d, e, f⟩

theorem own3_cases (x : Int) : (own3 x = 1 ∧ 0 < x) ∨ (own3 x = 2 ∧ x < 0) ∨ (own3 x = 0 ∧ x = 0) := by
  unfold own3
  by_cases h : 0 < x
  · exact Or.inl ⟨by rw [if_pos h], h⟩
  · by_cases h2 : x < 0
    · exact Or.inr (Or.inl ⟨by rw [if_neg h, if_pos h2], h2⟩)
    · exact Or.inr (Or.inr ⟨by rw [if_neg h, if_neg h2], by omega⟩)

/-! Sets of places by their numbers. -/

def mkT (P : Nat → Bool) : Nat → Nat
  | 0 => 0
  | k + 1 => if P (k + 1) = true then mkT P k ||| 2 ^ bitn (k + 1) else mkT P k

theorem mkT_succ (P : Nat → Bool) (k : Nat) : mkT P (k + 1) = if P (k + 1) = true then mkT P k ||| 2 ^ bitn (k + 1) else mkT P k := rfl
theorem rev_ind {α : Type} {P : List α → Prop} (h0 : P []) (hs : ∀ s a, P s → P (s ++ [a])) (s : List α) : P s := by
  rw [← List.reverse_reverse s]
  induction s.reverse with
  | nil => exact h0
  | cons a l ih => rw [List.reverse_cons]; exact hs _ _ ih

theorem bitn_mono {p q : Nat} (h : p < q) (hp : 1 ≤ p) : bitn p < bitn q := by unfold bitn; omega
theorem bitn_inj {p q : Nat} (hp : 1 ≤ p) (hq : 1 ≤ q) (h : bitn p = bitn q) : p = q := by
  rcases Nat.lt_trichotomy p q with h1 | h1 | h1
  · have := bitn_mono h1 hp; omega
  · exact h1
  · have := bitn_mono h1 hq; omega
theorem bitn_lt {p : Nat} (h : p ≤ 32) : bitn p < 36 := by unfold bitn; omega
theorem numb_bitn {p : Nat} (h1 : 1 ≤ p) : numb (bitn p) = p := by unfold numb bitn; omega
theorem bitn_all : ∀ p, p ≤ 32 → 1 ≤ p → ALL.testBit (bitn p) = true := by decide
theorem all_bitn : ∀ i, i < 36 → ALL.testBit i = true → ∃ p, p ≤ 32 ∧ 1 ≤ p ∧ bitn p = i := by
  intro i hi h
  have key : ∀ i, i < 36 → ALL.testBit i = true → 1 ≤ numb i ∧ numb i ≤ 32 ∧ bitn (numb i) = i := by decide
  obtain ⟨a, b, c⟩ := key i hi h
  exact ⟨numb i, b, a, c⟩

theorem tb_mkT (P : Nat → Bool) : ∀ k i, (mkT P k).testBit i = true ↔ ∃ p, 1 ≤ p ∧ p ≤ k ∧ P p = true ∧ bitn p = i
  | 0, i => by
    simp only [mkT, Nat.zero_testBit]
    constructor
    · intro h; cases h
    · rintro ⟨p, h1, h2, _⟩; omega
  | k + 1, i => by
    have ih := tb_mkT P k i
    rw [mkT_succ]
    by_cases h : P (k + 1) = true
    · rw [if_pos h, Nat.testBit_or, Bool.or_eq_true, ih, Nat.testBit_two_pow, decide_eq_true_eq]
      constructor
      · rintro (⟨p, h1, h2, h3, h4⟩ | h1)
        · exact ⟨p, h1, by omega, h3, h4⟩
        · exact ⟨k + 1, by omega, Nat.le_refl _, h, h1⟩
      · rintro ⟨p, h1, h2, h3, h4⟩
        by_cases e : p = k + 1
        · subst e; exact Or.inr h4
        · exact Or.inl ⟨p, h1, by omega, h3, h4⟩
    · rw [if_neg h, ih]
      constructor
      · rintro ⟨p, h1, h2, h3, h4⟩; exact ⟨p, h1, by omega, h3, h4⟩
      · rintro ⟨p, h1, h2, h3, h4⟩
        by_cases e : p = k + 1
        · subst e; exact absurd h3 h
        · exact ⟨p, h1, by omega, h3, h4⟩

theorem tb_mk (P : Nat → Bool) {p : Nat} (h1 : 1 ≤ p) (h2 : p ≤ 32) : (mkT P 32).testBit (bitn p) = P p := by
  rw [Bool.eq_iff_iff, tb_mkT]
  constructor
  · rintro ⟨q, q1, q2, q3, q4⟩
    rw [← bitn_inj q1 h1 q4]; exact q3
  · intro h; exact ⟨p, h1, h2, h, rfl⟩

theorem mk_sub (P : Nat → Bool) (k : Nat) (hk : k ≤ 32) : Sub (mkT P k) ALL := fun i hi => by
  obtain ⟨p, h1, h2, _, rfl⟩ := (tb_mkT P k i).1 hi
  exact bitn_all p (by omega) h1

theorem mk_count (P : Nat → Bool) : ∀ k, k ≤ 32 → (bln (mkT P k) 64).length = (List.range k).countP fun i => P (i + 1)
  | 0, _ => by simp [mkT, bln]
  | k + 1, hk => by
    have ih := mk_count P k (by omega)
    rw [List.range_succ, List.countP_append, ← ih, mkT_succ]
    by_cases h : P (k + 1) = true
    · rw [if_pos h, bln_or_one, if_pos (by have := bitn_lt (p := k + 1) hk; omega)]
      · simp [h]
      · cases hb : (mkT P k).testBit (bitn (k + 1)) with
        | false => rfl
        | true =>
          obtain ⟨p, h1, h2, _, h4⟩ := (tb_mkT P k _).1 hb
          have := bitn_mono (show p < k + 1 by omega) h1
          omega
    · rw [if_neg h]
      simp [h]

/-- Whose a place is; a king there. -/
def isO (Z : List Int) (o : Nat) (p : Nat) : Bool := own3 (Z.getD p 0) == o
def isK (Z : List Int) (p : Nat) : Bool := decide (Z.getD p 0 = 2 ∨ Z.getD p 0 = -2)

/-- The first so many places, as the mover sees them. -/
def snK (Z : List Int) (t : Nat) (k : Nat) : Bm := ⟨mkT (isO Z t) k, mkT (isO Z (3 - t)) k, mkT (isK Z) k, t⟩
def sn (Z : List Int) (t : Nat) : Bm := snK Z t 32

theorem sn_ok {Z : List Int} {t : Nat} (h : Mb Z t) : BOk (sn Z t) := by
  have ht : t = 1 ∨ t = 2 := by have := h.tt; omega
  refine ⟨mk_sub _ _ (Nat.le_refl _), mk_sub _ _ (Nat.le_refl _), mk_sub _ _ (Nat.le_refl _), ht, ?_, ?_, ?_, ?_⟩
  · show (bln (mkT (isO Z (3 - t)) 32) 64).length ≤ 12
    rw [mk_count _ _ (Nat.le_refl _)]
    rcases ht with rfl | rfl
    · exact h.c2
    · exact h.c1
  · show (bln (mkT (isO Z t) 32) 64).length ≤ 12
    rw [mk_count _ _ (Nat.le_refl _)]
    rcases ht with rfl | rfl
    · exact h.c1
    · exact h.c2
  · intro i hi
    obtain ⟨p, h1, h2, h3, rfl⟩ := (tb_mkT _ _ i).1 hi
    show (mkT (isO Z (3 - t)) 32).testBit (bitn p) = false
    rw [tb_mk _ h1 h2]
    unfold isO at h3 ⊢
    simp only [beq_iff_eq] at h3
    rw [h3]
    simp; omega
  · intro i hi
    obtain ⟨p, h1, h2, h3, rfl⟩ := (tb_mkT _ _ i).1 hi
    show (mkT (isO Z t) 32).testBit (bitn p) = true ∨ (mkT (isO Z (3 - t)) 32).testBit (bitn p) = true
    rw [tb_mk _ h1 h2, tb_mk _ h1 h2]
    unfold isK at h3
    simp only [decide_eq_true_eq] at h3
    unfold isO
    simp only [beq_iff_eq]
    rcases own3_cases (Z.getD p 0) with ⟨a, b⟩ | ⟨a, b⟩ | ⟨a, b⟩
    · rw [a]; omega
    · rw [a]; omega
    · omega

/-! What is told. -/

/-- A piece, as it is told. -/
def tolV (b : Bm) (i : Nat) : Int :=
  if decide (b.own.testBit i = true) = decide (b.mov = 1) then (if b.kin.testBit i = true then 2 else 1) else -(if b.kin.testBit i = true then 2 else 1)
def tolS (b : Bm) (s : List Nat) : List Int := s.foldl (fun L i => L.set (numb i) (tolV b i)) (List.replicate 33 0)
theorem tolS_snoc (b : Bm) (s : List Nat) (i : Nat) : tolS b (s ++ [i]) = (tolS b s).set (numb i) (tolV b i) := by simp [tolS]
theorem tolS_len (b : Bm) (s : List Nat) : (tolS b s).length = 33 := by
  unfold tolS
  suffices H : ∀ (L : List Int), L.length = 33 → (s.foldl (fun L i => L.set (numb i) (tolV b i)) L).length = 33 from H _ (by simp)
  induction s with
  | nil => intro L h; exact h
  | cons x s ih => intro L h; exact ih _ (by simp [h])
def tol (b : Bm) : List Int := tolS b (bln (b.own ||| b.oth) 64)

theorem tolS_at (b : Bm) (p : Nat) (hp : p < 33) : ∀ (s : List Nat), (∀ i ∈ s, ALL.testBit i = true) → (tolS b s).getD p 0 = if 1 ≤ p ∧ bitn p ∈ s then tolV b (bitn p) else 0 := by
  refine rev_ind ?_ ?_
  · intro _
    rw [if_neg (fun h => by cases h.2)]
    show (List.replicate 33 (0 : Int)).getD p 0 = 0
    rw [List.getD, List.getElem?_replicate, if_pos hp]
    rfl
  · intro s i ih hs
    have ih := ih (fun j hj => hs j (by simp [hj]))
    have hi := hs i (by simp)
    have hi36 : i < 36 := by
      rcases Nat.lt_or_ge i 36 with h | h
      · exact h
      · rw [Nat.testBit_lt_two_pow (Nat.lt_of_lt_of_le ALL_lt (Nat.pow_le_pow_right (by decide) h))] at hi; cases hi
    obtain ⟨q, q1, q2, rfl⟩ := all_bitn i hi36 hi
    rw [tolS_snoc, numb_bitn q2, List.getD, List.getElem?_set]
    by_cases e : q = p
    · subst e
      rw [if_pos rfl, if_pos (by rw [tolS_len]; omega), if_pos ⟨q2, by simp⟩]; rfl
    · rw [if_neg e]
      have e2 : (1 ≤ p ∧ bitn p ∈ s ++ [bitn q]) ↔ (1 ≤ p ∧ bitn p ∈ s) := by
        constructor
        · rintro ⟨h1, h2⟩
          refine ⟨h1, ?_⟩
          rcases List.mem_append.1 h2 with h | h
          · exact h
          · exact absurd (bitn_inj h1 q2 (List.mem_singleton.1 h)).symm e
        · rintro ⟨h1, h2⟩; exact ⟨h1, List.mem_append_left _ h2⟩
      have := ih
      rw [List.getD] at this
      rw [this]
      by_cases h : 1 ≤ p ∧ bitn p ∈ s
      · rw [if_pos h, if_pos (e2.2 h)]
      · rw [if_neg h, if_neg (fun k => h (e2.1 k))]

theorem tol_at {b : Bm} (hb : BOk b) {p : Nat} (h1 : 1 ≤ p) (h2 : p ≤ 32) : (tol b).getD p 0 = if b.own.testBit (bitn p) = true ∨ b.oth.testBit (bitn p) = true then tolV b (bitn p) else 0 := by
  unfold tol
  rw [tolS_at b p (by omega) _ (fun i hi => (hb.own.or hb.oth) i (mem_bln.1 hi).2)]
  have e : (1 ≤ p ∧ bitn p ∈ bln (b.own ||| b.oth) 64) ↔ (b.own.testBit (bitn p) = true ∨ b.oth.testBit (bitn p) = true) := by
    rw [mem_bln, Nat.testBit_or, Bool.or_eq_true]
    have := bitn_lt h2
    constructor
    · rintro ⟨_, _, h⟩; exact h
    · intro h; exact ⟨h1, by omega, h⟩
  by_cases h : b.own.testBit (bitn p) = true ∨ b.oth.testBit (bitn p) = true
  · rw [if_pos h, if_pos (e.2 h)]
  · rw [if_neg h, if_neg (fun k => h (e.1 k))]

theorem tol_zero {b : Bm} (hb : BOk b) : (tol b).getD 0 0 = 0 := by
  unfold tol
  rw [tolS_at b 0 (by omega) _ (fun i hi => (hb.own.or hb.oth) i (mem_bln.1 hi).2), if_neg (by omega)]

/-- What is seen is told again. -/
theorem tol_sn {Z : List Int} {t : Nat} (h : Mb Z t) : tol (sn Z t) = Z := by
  have hb := sn_ok h
  have ht : t = 1 ∨ t = 2 := by have := h.tt; omega
  apply List.ext_getElem
  · rw [h.len]; exact tolS_len _ _
  · intro p hp1 hp2
    have hp33 : p < 33 := by rw [h.len] at hp2; exact hp2
    have e1 : (tol (sn Z t))[p] = (tol (sn Z t)).getD p 0 := by simp [List.getD, hp1]
    have e2 : Z[p] = Z.getD p 0 := by simp [List.getD, hp2]
    rw [e1, e2]
    by_cases p0 : p = 0
    · subst p0; rw [tol_zero hb, h.z0]
    · have h1 : 1 ≤ p := by omega
      have h2 : p ≤ 32 := by omega
      have hok := h.ok (p - 1) (by omega)
      rw [show p - 1 + 1 = p by omega] at hok
      rw [tol_at hb h1 h2]
      have o1 : (sn Z t).own.testBit (bitn p) = isO Z t p := tb_mk _ h1 h2
      have o2 : (sn Z t).oth.testBit (bitn p) = isO Z (3 - t) p := tb_mk _ h1 h2
      have o3 : (sn Z t).kin.testBit (bitn p) = isK Z p := tb_mk _ h1 h2
      unfold tolV
      rw [o1, o2, o3, show (sn Z t).mov = t from rfl]
      unfold okP at hok
      simp only [decide_eq_true_eq] at hok
      have hv : Z.getD p 0 = 0 ∨ Z.getD p 0 = 1 ∨ Z.getD p 0 = 2 ∨ Z.getD p 0 = -1 ∨ Z.getD p 0 = -2 := by omega
      unfold isO isK own3
      rcases ht with rfl | rfl <;> rcases hv with hv | hv | hv | hv | hv <;> rw [hv] <;> decide

end Go.Proofs.YtnbaangnpoblfaaDoor
