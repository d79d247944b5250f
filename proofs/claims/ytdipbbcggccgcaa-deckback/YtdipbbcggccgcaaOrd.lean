/-
  Plain facts on riffles as moves of places: how often a riffle must be done until all is back, for 0 to 104 things (the tables are reckoned by the kernel).
-/
import Derived.Test.YtdipbbcggccgcaaRiff
namespace Go.Proofs.Ytdipbbcggccgcaa

def ident (n : Nat) : List Int := (List.range n).map Int.ofNat

theorem ident_length (n : Nat) : (ident n).length = n := by simp [ident]

theorem ident_get (n p : Nat) (h : p < n) : (ident n).getD p 0 = (p : Int) := by simp [ident, List.getD, h]

/-- Where the thing that comes to place p stood, of n things. -/
def src (n : Nat) (b : Bool) (p : Nat) : Nat := if (p % 2 == 1) = b then p / 2 else n / 2 + p / 2

def it (n : Nat) (b : Bool) : Nat → Nat → Nat
  | 0, p => p
  | t + 1, p => src n b (it n b t p)

theorem it_src (n : Nat) (b : Bool) (t p : Nat) : it n b t (src n b p) = src n b (it n b t p) := by
  induction t with
  | zero => rfl
  | succ t ih => simp only [it, ih]

theorem it_add (n : Nat) (b : Bool) (s t p : Nat) : it n b (s + t) p = it n b s (it n b t p) := by
  induction s with
  | zero => simp [it]
  | succ s ih => rw [Nat.succ_add]; simp only [it, ih]

theorem it_mul (n : Nat) (b : Bool) (c p : Nat) (h : it n b c p = p) (q : Nat) : it n b (c * q) p = p := by
  induction q with
  | zero => rfl
  | succ q ih => rw [Nat.mul_succ, it_add, h, ih]

theorem src_lt {n : Nat} (b : Bool) {p : Nat} (hn : n % 2 = 0) (hp : p < n) : src n b p < n := by
  unfold src; split <;> omega

theorem it_lt {n : Nat} (b : Bool) {p : Nat} (hn : n % 2 = 0) (hp : p < n) (t : Nat) : it n b t p < n := by
  induction t with
  | zero => exact hp
  | succ t ih => exact src_lt b hn ih

theorem rifAt_src (zs : List Int) (b : Bool) (p : Nat) : rifAt zs b p = zs.getD (src zs.length b p) 0 := by
  unfold rifAt src; split <;> rfl

/-- The things behind t riffles. -/
def R (n : Nat) (b : Bool) : Nat → List Int
  | 0 => ident n
  | t + 1 => rif (R n b t) b

theorem R_length (n : Nat) (b : Bool) (t : Nat) : (R n b t).length = n := by
  induction t with
  | zero => exact ident_length n
  | succ t ih => simp only [R, rif_length, ih]

theorem R_get {n : Nat} (b : Bool) (hn : n % 2 = 0) (t p : Nat) (hp : p < n) : (R n b t).getD p 0 = (it n b t p : Nat) := by
  induction t generalizing p with
  | zero => exact ident_get n p hp
  | succ t ih =>
    have h1 : (R n b (t + 1)).getD p 0 = rifAt (R n b t) b p := by
      simp [R, rif, List.getD, R_length, hp]
    rw [h1, rifAt_src, R_length, ih _ (src_lt b hn hp), it_src]
    rfl

theorem R_eq_iff {n : Nat} (b : Bool) (hn : n % 2 = 0) (t : Nat) : R n b t = ident n ↔ ∀ p, p < n → it n b t p = p := by
  constructor
  · intro h p hp
    have h1 := R_get b hn t p hp
    rw [h, ident_get n p hp] at h1
    omega
  · intro h
    apply List.ext_getElem (by rw [R_length, ident_length])
    intro p h1 h2
    have hp : p < n := by rwa [R_length] at h1
    have e1 := R_get b hn t p hp
    have e2 := ident_get n p hp
    rw [h p hp, ← e2] at e1
    simpa [List.getD, h1, h2] using e1

/-- How long the thing at place p is on its way; 0: the fuel was spent. -/
def cycGo (n : Nat) (b : Bool) (p : Nat) : Nat → Nat → Nat → Nat
  | 0, _, _ => 0
  | fuel + 1, x, k => if x == p then k else cycGo n b p fuel (src n b x) (k + 1)

def cyc (n : Nat) (b : Bool) (p : Nat) : Nat := cycGo n b p 105 (src n b p) 1

theorem cycGo_spec (n : Nat) (b : Bool) (p : Nat) (fuel x k : Nat) (hx : x = it n b k p) (hk : 1 ≤ k) (hlt : ∀ j, 1 ≤ j → j < k → it n b j p ≠ p) (h : cycGo n b p fuel x k ≠ 0) :
    k ≤ cycGo n b p fuel x k ∧ it n b (cycGo n b p fuel x k) p = p ∧ ∀ j, 1 ≤ j → j < cycGo n b p fuel x k → it n b j p ≠ p := by
  induction fuel generalizing x k with
  | zero => simp [cycGo] at h
  | succ fuel ih =>
    simp only [cycGo] at h ⊢
    by_cases hxp : x = p
    · simp only [beq_iff_eq, if_pos hxp] at h ⊢
      exact ⟨Nat.le_refl _, by rw [← hx]; exact hxp, hlt⟩
    · simp only [beq_iff_eq, if_neg hxp] at h ⊢
      have := ih (src n b x) (k + 1) (by rw [hx]; rfl) (by omega) (fun j h1 h2 => by
        by_cases hj : j = k
        · subst hj; rw [← hx]; exact hxp
        · exact hlt j h1 (by omega)) h
      exact ⟨by omega, this.2⟩

theorem cyc_spec (n : Nat) (b : Bool) (p : Nat) (h : cyc n b p ≠ 0) :
    1 ≤ cyc n b p ∧ it n b (cyc n b p) p = p ∧ ∀ j, 1 ≤ j → j < cyc n b p → it n b j p ≠ p :=
  cycGo_spec n b p 105 (src n b p) 1 rfl (Nat.le_refl _) (fun j h1 h2 => by omega) h

/-- The place by which the order is known. -/
def p0 (b : Bool) : Nat := if b then 0 else 1

def KK (n : Nat) (b : Bool) : Nat := if n == 0 then 1 else cyc n b (p0 b)

def okAt (m : Nat) (b : Bool) : Bool :=
  let n := 2 * m
  let k := KK n b
  Nat.ble 1 k && Nat.ble k 104 && (List.range n).all (fun p => let c := cyc n b p; Nat.ble 1 c && (k % c == 0)) && (b || n == 0 || cyc n b 0 == 1)

theorem ok_all : (List.range 53).all (fun m => okAt m false && okAt m true) = true := by decide +kernel

structure Tab (n : Nat) (b : Bool) : Prop where
  one : 1 ≤ KK n b
  le : KK n b ≤ 104
  cyc1 : ∀ p, p < n → 1 ≤ cyc n b p
  dvd : ∀ p, p < n → KK n b % cyc n b p = 0
  zero : b = false → 0 < n → cyc n b 0 = 1

theorem tab (n : Nat) (b : Bool) (hev : n % 2 = 0) (hn : n ≤ 104) : Tab n b := by
  have h := List.all_eq_true.1 ok_all (n / 2) (by simp; omega)
  rw [Bool.and_eq_true] at h
  have h2 : okAt (n / 2) b = true := by cases b; exact h.1; exact h.2
  have e : 2 * (n / 2) = n := by omega
  simp only [okAt, e, Bool.and_eq_true, Nat.ble_eq, List.all_eq_true, List.mem_range, beq_iff_eq, Bool.or_eq_true] at h2
  obtain ⟨⟨⟨h1, h2⟩, h3⟩, h4⟩ := h2
  refine ⟨h1, h2, fun p hp => (h3 p hp).1, fun p hp => (h3 p hp).2, fun hb h0 => ?_⟩
  rcases h4 with (h4 | h4) | h4
  · rw [hb] at h4; simp at h4
  · omega
  · exact h4

theorem R_back (n : Nat) (b : Bool) (hev : n % 2 = 0) (hn : n ≤ 104) : R n b (KK n b) = ident n := by
  have T := tab n b hev hn
  rw [R_eq_iff b hev]
  intro p hp
  have hc := cyc_spec n b p (by have := T.cyc1 p hp; omega)
  obtain ⟨q, hq⟩ := Nat.dvd_of_mod_eq_zero (T.dvd p hp)
  rw [hq]
  exact it_mul n b _ p hc.2.1 q

theorem R_not (n : Nat) (b : Bool) (hev : n % 2 = 0) (hn : n ≤ 104) (t : Nat) (h1 : 1 ≤ t) (h2 : t < KK n b) : R n b t ≠ ident n := by
  have T := tab n b hev hn
  intro h
  rw [R_eq_iff b hev] at h
  by_cases h0 : n = 0
  · subst h0; simp [KK] at h2; omega
  · have hp : p0 b < n := by unfold p0; split <;> omega
    have ek : KK n b = cyc n b (p0 b) := by simp [KK, h0]
    have hc := cyc_spec n b (p0 b) (by have := T.cyc1 _ hp; omega)
    exact hc.2.2 t h1 (by rw [← ek]; exact h2) (h _ hp)

end Go.Proofs.Ytdipbbcggccgcaa
