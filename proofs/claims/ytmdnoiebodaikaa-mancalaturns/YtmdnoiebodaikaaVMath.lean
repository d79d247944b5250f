/-
  A sowing brings the end nearer; what a board is worth. No conditions beyond those that each theorem bears.
-/
import Derived.Test.YtmdnoiebodaikaaPad
namespace Go.Proofs.Ytmdnoiebodaikaa
open Go.RowKit

/-- How far a seed at a place is from the end. -/
def wt (p q : Nat) : Int := if q = p ∨ q = 2 * p + 1 then 0 else if q < p then 10000 + ((p - q : Nat) : Int) else 10000 + ((2 * p + 1 - q : Nat) : Int)

theorem wt_nonneg (p q : Nat) : 0 ≤ wt p q := by
  unfold wt
  split
  · omega
  · split <;> omega

theorem wt_le {p q : Nat} (hp : p ≤ 6) : wt p q ≤ 10006 := by
  unfold wt
  split
  · omega
  · split <;> omega

def wS (p : Nat) (S : List Int) : Int := sumN (2 * (p + 1)) (fun q => wt p q * S.getD q 0)

theorem wS_set (p : Nat) (S : List Int) (q : Nat) (x : Int) (hq : q < 2 * (p + 1)) (hl : 2 * (p + 1) ≤ S.length) : wS p (S.set q x) = wS p S + wt p q * (x - S.getD q 0) := by
  unfold wS
  have key : ∀ m, m ≤ 2 * (p + 1) → sumN m (fun i => wt p i * (S.set q x).getD i 0) = sumN m (fun i => wt p i * S.getD i 0) + (if q < m then wt p q * (x - S.getD q 0) else 0) := by
    intro m
    induction m with
    | zero => intro _; simp [sumN]
    | succ m ih =>
      intro hm
      rw [sumN, sumN, ih (by omega), getD_set _ _ _ _ (by omega)]
      by_cases e : m = q
      · subst e
        rw [if_pos rfl, if_neg (by omega), if_pos (by omega), Int.mul_sub]
        omega
      · rw [if_neg e]
        by_cases e2 : q < m
        · rw [if_pos e2, if_pos (by omega)]; omega
        · rw [if_neg e2, if_neg (by omega)]; omega
  rw [key _ (Nat.le_refl _), if_pos hq]

theorem wS_nonneg {p : Nat} {S : List Int} (h : ∀ i, i < 2 * (p + 1) → 0 ≤ S.getD i 0) : 0 ≤ wS p S :=
  sumN_nonneg _ fun i hi => Int.mul_nonneg (wt_nonneg p i) (h i hi)

/-- What the seeds in hand add. -/
def sw (p t : Nat) : Nat → Nat → Int
  | 0, _ => 0
  | k + 1, q => wt p (nx p t q) + sw p t k (nx p t q)

theorem wS_spr (p t : Nat) : ∀ k S q, 2 * (p + 1) ≤ S.length → wS p (spr p t k S q).1 = wS p S + sw p t k q
  | 0, S, q, _ => by simp [spr, sw]
  | k + 1, S, q, hl => by
    rw [spr, wS_spr p t k _ _ (by rw [List.length_set]; exact hl), wS_set p S _ _ (nx_lt p t q) hl, sw]
    rw [show S.getD (nx p t q) 0 + 1 - S.getD (nx p t q) 0 = 1 by omega]
    omega

theorem sw_le {p : Nat} (hp : p ≤ 6) (t : Nat) : ∀ k q, sw p t k q ≤ 10006 * k
  | 0, q => by simp [sw]
  | k + 1, q => by
    have := sw_le hp t k (nx p t q)
    have := wt_le (q := nx p t q) hp
    rw [sw]
    omega

/-- The next place within one's own pits. -/
theorem nx_own {p t j : Nat} (ht : t ≤ 1) (hj : j < p) : nx p t (pl p t j) = pl p t (j + 1) := by
  unfold nx
  rcases (show t = 0 ∨ t = 1 by omega) with rfl | rfl
  · simp only [pl0, Nat.sub_zero, pl1]
    rw [Nat.mod_eq_of_lt (by omega), if_neg (by omega)]
  · simp only [pl1, Nat.sub_self, pl0]
    rw [Nat.mod_eq_of_lt (by omega), if_neg (by omega)]
    omega

theorem wt_own {p t j : Nat} (ht : t ≤ 1) (hj : j < p) : wt p (pl p t j) = 10000 + ((p - j : Nat) : Int) := by
  unfold wt
  rcases (show t = 0 ∨ t = 1 by omega) with rfl | rfl
  · simp only [pl0]
    rw [if_neg (by omega), if_pos hj]
  · simp only [pl1]
    rw [if_neg (by omega), if_neg (by omega)]
    omega

theorem wt_store {p t : Nat} (ht : t ≤ 1) : wt p (pl p t p) = 0 := by
  unfold wt
  rcases (show t = 0 ∨ t = 1 by omega) with rfl | rfl
  · rw [pl0, if_pos (Or.inl rfl)]
  · rw [pl1, if_pos (Or.inr (by omega))]

/-- Those that don't come home come nearer. -/
theorem sw_short {p t : Nat} (ht : t ≤ 1) : ∀ (k j : Nat), j + k < p → sw p t k (pl p t j) + k ≤ (10000 + ((p - j : Nat) : Int)) * k
  | 0, j, _ => by simp [sw]
  | k + 1, j, h => by
    have ih := sw_short (p := p) ht k (j + 1) (by omega)
    rw [sw, nx_own (j := j) ht (by omega), wt_own (j := j + 1) ht (by omega)]
    have e : ((p - j : Nat) : Int) = ((p - (j + 1) : Nat) : Int) + 1 := by omega
    rw [e]
    have hm : (10000 + (((p - (j + 1) : Nat) : Int) + 1)) * ((k + 1 : Nat) : Int) = (10000 + ((p - (j + 1) : Nat) : Int)) * (k : Int) + (k : Int) + (10000 + ((p - (j + 1) : Nat) : Int)) + 1 := by
      rw [show 10000 + (((p - (j + 1) : Nat) : Int) + 1) = (10000 + ((p - (j + 1) : Nat) : Int)) + 1 by omega, Int.add_mul, show ((k + 1 : Nat) : Int) = (k : Int) + 1 by omega, Int.mul_add]
      omega
    rw [hm]
    omega

/-- One at least comes home. -/
theorem sw_long {p t : Nat} (hp : p ≤ 6) (ht : t ≤ 1) : ∀ (k j : Nat), j < p → p ≤ j + k → sw p t k (pl p t j) + 10006 ≤ 10006 * k
  | 0, j, h1, h2 => by omega
  | k + 1, j, h1, h2 => by
    rw [sw, nx_own ht h1]
    by_cases e : j + 1 = p
    · rw [e, wt_store ht]
      have := sw_le hp t k (pl p t p)
      omega
    · have ih := sw_long hp ht k (j + 1) (by omega) (by omega)
      have := wt_le (q := pl p t (j + 1)) hp
      omega

theorem wS_sown {p t i : Nat} (hp : p ≤ 6) (ht : t ≤ 1) (hi : i < p) {S : List Int} (hl : 2 * (p + 1) ≤ S.length) (hf : Fit p S) (hz : S.getD (pl p t i) 0 ≠ 0) : wS p (sown p t i S).1 < wS p S := by
  have ha := pl_lt (p := p) ht (show i ≤ p by omega)
  have h0 := hf.pos _ ha
  have h1 := hf.le ha
  unfold sown
  rw [wS_spr p t _ _ _ (by rw [List.length_set]; exact hl), wS_set p S _ _ ha hl, wt_own ht hi]
  obtain ⟨k, hk⟩ : ∃ k : Nat, S.getD (pl p t i) 0 = (k : Int) := ⟨(S.getD (pl p t i) 0).toNat, by omega⟩
  rw [hk] at hz h1 ⊢
  rw [Int.toNat_natCast, show (0 : Int) - (k : Int) = -(k : Int) by omega, Int.mul_neg]
  by_cases e : i + k < p
  · have := sw_short (p := p) ht k i e
    omega
  · have := sw_long hp ht k i hi (by omega)
    have h2 : (10000 + ((p - i : Nat) : Int)) * (k : Int) = 10000 * (k : Int) + ((p - i : Nat) : Int) * (k : Int) := Int.add_mul _ _ _
    have h3 : 0 ≤ ((p - i : Nat) : Int) * (k : Int) := Int.mul_nonneg (by omega) (by omega)
    omega

theorem wS_capS {p t q : Nat} (ht : t ≤ 1) {S : List Int} (hl : 2 * (p + 1) ≤ S.length) (h : ∀ i, i < 2 * (p + 1) → 0 ≤ S.getD i 0) : wS p (capS p t S q) ≤ wS p S := by
  unfold capS
  split
  · next hc =>
    obtain ⟨a1, a2, a3, a4⟩ := capB_facts hc
    obtain ⟨b1, b2, b3, b4, b5, b6⟩ := pit_facts ht a1 a2
    have hs := pl_lt (p := p) ht (Nat.le_refl p)
    have l1 : 2 * (p + 1) ≤ (S.set q 0).length := by rw [List.length_set]; exact hl
    have l2 : 2 * (p + 1) ≤ ((S.set q 0).set (2 * p - q) 0).length := by rw [List.length_set]; exact l1
    have e1 : (S.set q 0).getD (2 * p - q) 0 = S.getD (2 * p - q) 0 := by rw [getD_set _ _ _ _ (by omega), if_neg b2]
    rw [wS_set p _ _ _ hs l2, wt_store ht, wS_set p _ _ _ b6 l1, wS_set p _ _ _ b5 hl, e1, Int.zero_mul]
    have m1 : 0 ≤ wt p q * S.getD q 0 := Int.mul_nonneg (wt_nonneg _ _) (h q b5)
    have m2 : 0 ≤ wt p (2 * p - q) * S.getD (2 * p - q) 0 := Int.mul_nonneg (wt_nonneg _ _) (h _ b6)
    rw [Int.zero_sub, Int.zero_sub, Int.mul_neg, Int.mul_neg]
    omega
  · exact Int.le_refl _

theorem wS_gth {p : Nat} {S : List Int} (hl : 2 * (p + 1) ≤ S.length) : wS p (gth p S) = 0 := by
  unfold wS
  rw [sumN_congr _ (g := fun _ => 0) (fun i hi => ?_), sumN_zero]
  rw [gth_getD _ _ _ (by omega)]
  by_cases e : i = p ∨ i = 2 * p + 1
  · have : wt p i = 0 := by unfold wt; rw [if_pos e]
    rw [this, Int.zero_mul]
  · rw [if_neg (by omega), if_neg (by omega), if_pos (by omega), Int.mul_zero]

theorem wS_sowS {p t i : Nat} (hp : p ≤ 6) (ht : t ≤ 1) (hi : i < p) {S : List Int} (hl : 2 * (p + 1) ≤ S.length) (hf : Fit p S) (hz : S.getD (pl p t i) 0 ≠ 0) : wS p (sowS p t i S) < wS p S := by
  have h1 := wS_sown hp ht hi hl hf hz
  have hs := sown_fit ht hi hl hf.pos
  have l1 : 2 * (p + 1) ≤ (sown p t i S).1.length := by rw [sown_length]; exact hl
  have h2 := wS_capS (q := (sown p t i S).2) ht l1 hs.1
  have l2 : 2 * (p + 1) ≤ (capS p t (sown p t i S).1 (sown p t i S).2).length := by rw [capS_length]; exact l1
  unfold sowS endS
  split
  · rw [wS_gth l2]
    have := wS_nonneg (p := p) hs.1
    omega
  · omega

/-- How near the end is. -/
def ms (p : Nat) (S : List Int) : Nat := (wS p S).toNat

theorem ms_sowS {p t i : Nat} (hp : p ≤ 6) (ht : t ≤ 1) (hi : i < p) {S : List Int} (hl : 2 * (p + 1) ≤ S.length) (hf : Fit p S) (hz : S.getD (pl p t i) 0 ≠ 0) : ms p (sowS p t i S) < ms p S := by
  have h1 := wS_sowS hp ht hi hl hf hz
  have h2 := wS_nonneg (sowS_fit ht hi hl hf).1.pos
  unfold ms
  omega

/-- By how many player 0 is ahead, as they lie. -/
def leadS (p : Nat) (S : List Int) : Int := S.getD p 0 + inP p 0 S - S.getD (2 * p + 1) 0 - inP p 1 S

/-- Better for the mover. -/
def bet (t : Nat) (x y : Int) : Bool := if t = 0 then decide (y < x) else decide (x < y)

def bst (V : Nat → List Int → Int × Int) (p t : Nat) (S : List Int) : Nat → Int × Int
  | 0 => (0, -1)
  | k + 1 =>
    if S.getD (pl p t k) 0 = 0 then bst V p t S k
    else if (bst V p t S k).2 = -1 ∨ bet t (V (sowT p t k S) (sowS p t k S)).1 (bst V p t S k).1 = true then ((V (sowT p t k S) (sowS p t k S)).1, (k : Int))
    else bst V p t S k

def valF (p : Nat) : Nat → Nat → List Int → Int × Int
  | 0, _, _ => (0, -1)
  | f + 1, t, S => if overB p S then (leadS p S, -1) else bst (valF p f) p t S p

def val (p t : Nat) (S : List Int) : Int × Int := valF p (ms p S + 1) t S

theorem bst_congr {V V' : Nat → List Int → Int × Int} {p t : Nat} {S : List Int} : ∀ k, (∀ i, i < k → S.getD (pl p t i) 0 ≠ 0 → V (sowT p t i S) (sowS p t i S) = V' (sowT p t i S) (sowS p t i S)) → bst V p t S k = bst V' p t S k
  | 0, _ => rfl
  | k + 1, h => by
    rw [bst, bst, bst_congr k (fun i hi => h i (by omega))]
    by_cases e : S.getD (pl p t k) 0 = 0
    · rw [if_pos e, if_pos e]
    · rw [if_neg e, if_neg e, h k (by omega) e]

theorem sowT_le {p t i : Nat} (ht : t ≤ 1) {S : List Int} : sowT p t i S ≤ 1 := by unfold sowT; split <;> omega

theorem valF_any {p : Nat} (hp : p ≤ 6) : ∀ f g t S, t ≤ 1 → 2 * (p + 1) ≤ S.length → Fit p S → ms p S < f → ms p S < g → valF p f t S = valF p g t S
  | 0, _, _, _, _, _, _, h, _ => by omega
  | _ + 1, 0, _, _, _, _, _, _, h => by omega
  | f + 1, g + 1, t, S, ht, hl, hf, h1, h2 => by
    rw [valF, valF]
    split
    · rfl
    · refine bst_congr p fun i hi hz => ?_
      have hm := ms_sowS hp ht hi hl hf hz
      exact valF_any hp f g _ _ (sowT_le ht) (by rw [sowS_length]; exact hl) (sowS_fit ht hi hl hf).1 (by omega) (by omega)

theorem val_over {p t : Nat} {S : List Int} (h : overB p S = true) : val p t S = (leadS p S, -1) := by
  unfold val
  rw [valF, if_pos h]

theorem val_eq {p t : Nat} (hp : p ≤ 6) (ht : t ≤ 1) {S : List Int} (hl : 2 * (p + 1) ≤ S.length) (hf : Fit p S) (h : overB p S = false) : val p t S = bst (val p) p t S p := by
  show valF p (ms p S + 1) t S = _
  rw [valF, if_neg (by rw [h]; simp)]
  refine bst_congr p fun i hi hz => ?_
  have hm := ms_sowS hp ht hi hl hf hz
  exact valF_any hp _ _ _ _ (sowT_le ht) (by rw [sowS_length]; exact hl) (sowS_fit ht hi hl hf).1 hm (by omega)

theorem bst_pit (V : Nat → List Int → Int × Int) (p t : Nat) (S : List Int) : ∀ k, (bst V p t S k).2 = -1 ∨ (0 ≤ (bst V p t S k).2 ∧ (bst V p t S k).2 < k)
  | 0 => Or.inl rfl
  | k + 1 => by
    have := bst_pit V p t S k
    rw [bst]
    split
    · rcases this with h | h
      · exact Or.inl h
      · exact Or.inr ⟨h.1, by omega⟩
    · split
      · exact Or.inr ⟨by omega, by omega⟩
      · rcases this with h | h
        · exact Or.inl h
        · exact Or.inr ⟨h.1, by omega⟩

theorem leadS_bd {p : Nat} {S : List Int} (hf : Fit p S) : -1000 ≤ leadS p S ∧ leadS p S ≤ 1000 := by
  have h0 := hf.inP (x := 0) (by omega)
  have h1 := hf.inP (x := 1) (by omega)
  have h2 := hf.pos p (by omega)
  have h3 := hf.pos (2 * p + 1) (by omega)
  have h4 := hf.sum
  rw [tot_parts] at h4
  unfold leadS
  omega

theorem bst_bd {V : Nat → List Int → Int × Int} {p t : Nat} {S : List Int} : ∀ k, (∀ i, i < k → S.getD (pl p t i) 0 ≠ 0 → -1000 ≤ (V (sowT p t i S) (sowS p t i S)).1 ∧ (V (sowT p t i S) (sowS p t i S)).1 ≤ 1000) → -1000 ≤ (bst V p t S k).1 ∧ (bst V p t S k).1 ≤ 1000
  | 0, _ => by simp [bst]
  | k + 1, h => by
    have ih := bst_bd k (fun i hi => h i (by omega))
    rw [bst]
    by_cases e : S.getD (pl p t k) 0 = 0
    · rw [if_pos e]; exact ih
    · rw [if_neg e]
      split
      · exact h k (by omega) e
      · exact ih

theorem val_bd {p : Nat} (hp : p ≤ 6) : ∀ N t S, ms p S < N → t ≤ 1 → 2 * (p + 1) ≤ S.length → Fit p S → -1000 ≤ (val p t S).1 ∧ (val p t S).1 ≤ 1000
  | 0, _, _, h, _, _, _ => by omega
  | N + 1, t, S, h, ht, hl, hf => by
    cases hov : overB p S with
    | true => rw [val_over hov]; exact leadS_bd hf
    | false =>
      rw [val_eq hp ht hl hf hov]
      refine bst_bd p fun i hi hz => ?_
      have hm := ms_sowS hp ht hi hl hf hz
      exact val_bd hp N _ _ (by omega) (sowT_le ht) (by rw [sowS_length]; exact hl) (sowS_fit ht hi hl hf).1

end Go.Proofs.Ytmdnoiebodaikaa
