/-
  Rows of one and two drops from an empty board, counted. No conditions beyond those that each theorem bears.
-/
import Derived.Test.YtaglhmkjdajgpaaDoorCt
namespace Go.Proofs.YtaglhmkjdajgpaaDoor

theorem fallN_zer (W N c y : Nat) : fallN W (zer N) c (y + 1) = some (y * W + c) := by
  rw [fallN, if_pos (zer_getD _ _)]

theorem drK_full (W H : Nat) (Z : List Int) (f : Nat → Nat) : ∀ j, (∀ c, c < j → fallN W Z c H = some (f c)) → drK W H Z j = (List.range j).map fun c => (c, f c)
  | 0, _ => rfl
  | j + 1, h => by rw [drK_some (h j (by omega)), drK_full W H Z f j (fun c hc => h c (by omega)), List.range_succ, List.map_append]; rfl

theorem drK_but (W H c0 : Nat) (Z : List Int) (h0 : fallN W Z c0 H = none) : ∀ j, (∀ c, c < j → c ≠ c0 → ∃ p, fallN W Z c H = some p) → (drK W H Z j).length = j - (if c0 < j then 1 else 0)
  | 0, _ => by rw [drK_zero]; simp
  | j + 1, h => by
    have ih := drK_but W H c0 Z h0 j (fun c hc => h c (by omega))
    by_cases e : j = c0
    · subst e
      rw [drK_none h0, ih, if_neg (by omega), if_pos (by omega)]
      omega
    · obtain ⟨p, hp⟩ := h j (by omega) e
      rw [drK_some hp, List.length_append, ih, List.length_singleton]
      by_cases e2 : c0 < j
      · rw [if_pos e2, if_pos (by omega)]; omega
      · rw [if_neg e2, if_neg (by omega)]; omega

theorem cdp_one (W H k : Nat) (Z : List Int) (m : Nat) : cdp W H k 1 Z m = (drK W H Z W).length := by
  rw [cdp_succ]
  have : ∀ xs : List (Nat × Nat), (xs.map (tmC W H k 0 Z m)).sum = xs.length := by
    intro xs
    induction xs with
    | nil => rfl
    | cons x xs ih =>
      rw [List.map_cons, List.sum_cons, ih, List.length_cons, tmC, if_pos (Or.inl rfl), cdp_zero]
      omega
  exact this _

theorem cdp1_empty (W H k m : Nat) (hH : 1 ≤ H) : cdp W H k 1 (zer (W * H)) m = W := by
  obtain ⟨y, rfl⟩ : ∃ y, H = y + 1 := ⟨H - 1, by omega⟩
  rw [cdp_one, drK_full W (y + 1) _ (fun c => y * W + c) W (fun c _ => fallN_zer W _ c y)]
  simp

/-- A single sign. -/
theorem sg_getD {n p q : Nat} {x : Int} (hp : p < n) : ((zer n).set p x).getD q 0 = if p = q then x else 0 := by
  by_cases e : p = q
  · subst e; rw [if_pos rfl]; simp [List.getD, zer_len, hp]
  · rw [if_neg e]
    have : ((zer n).set p x).getD q 0 = (zer n).getD q 0 := by simp [List.getD, e]
    rw [this, zer_getD]

theorem al_single {W H p : Nat} {x dx dy : Int} (hp : p < W * H) (hx : x ≠ 0) (hd : Dir dx dy) : al W H ((zer (W * H)).set p x) p dx dy = 0 := by
  unfold al
  by_cases hb : onB W H ((p % W : Nat) + dx) ((p / W : Nat) + dy) = true
  · rw [line_on hd hb, List.takeWhile_cons, if_neg]
    · rfl
    · obtain ⟨xn, yn, A, Q, ex, ey, hxl, hyl, hA, hQ, hQm, hidx⟩ := on_nat rfl hb
      rw [hidx, sg_getD hp, sg_getD hp, if_pos rfl, if_neg]
      · simpa using fun e : (0 : Int) = x => hx e.symm
      · intro e
        have hq : yn * W + xn = Q := by
          have : (((yn * W + xn : Nat) : Int)) = (Q : Int) := by rw [Int.natCast_add, Int.natCast_mul, hA, hQ]
          omega
        have h1 := (place_of (W := W) (y := yn) hxl).1
        have h2 := (place_of (W := W) (y := yn) hxl).2
        rw [hq, ← e] at h1 h2
        obtain ⟨d1, d2, d3⟩ := hd
        omega
  · rw [line_off (by simpa using hb)]; rfl

theorem inR_single {W H p k : Nat} {x : Int} (hp : p < W * H) (hx : x ≠ 0) (hk : 2 ≤ k) : inR W H ((zer (W * H)).set p x) p k = false := by
  unfold inR
  rw [List.any_eq_false]
  intro d hd
  rw [al_single hp hx (dirs_dir hd), al_single hp hx (dirs_dir hd).neg]
  simp; omega

theorem inR_one (W H p : Nat) (Z : List Int) : inR W H Z p 1 = true := by
  unfold inR dirs
  simp only [List.any_cons, Bool.or_eq_true, decide_eq_true_eq]
  exact Or.inl (by omega)

theorem cdp1_single (W H k m c : Nat) (hW : 1 ≤ W) (hH : 1 ≤ H) (hc : c < W) (x : Int) (hx : x ≠ 0) : cdp W H k 1 ((zer (W * H)).set ((H - 1) * W + c) x) m = if H = 1 then W - 1 else W := by
  obtain ⟨y, rfl⟩ : ∃ y, H = y + 1 := ⟨H - 1, by omega⟩
  have hp : y * W + c < W * (y + 1) := by rw [Nat.mul_succ, Nat.mul_comm W y]; omega
  rw [cdp_one, show y + 1 - 1 = y by omega]
  have hoth : ∀ c', c' < W → c' ≠ c → fallN W ((zer (W * (y + 1))).set (y * W + c) x) c' (y + 1) = some (y * W + c') := by
    intro c' hc' hne
    rw [fallN, if_pos]
    rw [sg_getD hp, if_neg (by omega)]
  have hown : fallN W ((zer (W * (y + 1))).set (y * W + c) x) c (y + 1) = fallN W ((zer (W * (y + 1))).set (y * W + c) x) c y := by
    rw [fallN, if_neg]
    rw [sg_getD hp, if_pos rfl]; exact hx
  cases y with
  | zero =>
    rw [if_pos rfl, drK_but W (0 + 1) c _ (by rw [hown]; rfl) W (fun c' h1 h2 => ⟨_, hoth c' h1 h2⟩), if_pos hc]
  | succ y =>
    rw [if_neg (by omega)]
    have h2 : fallN W ((zer (W * (y + 1 + 1))).set ((y + 1) * W + c) x) c (y + 1) = some (y * W + c) := by
      rw [fallN, if_pos]
      rw [sg_getD hp, if_neg]
      rw [Nat.succ_mul]; omega
    rw [drK_full W (y + 1 + 1) _ (fun c' => if c' = c then y * W + c else (y + 1) * W + c') W]
    · simp
    · intro c' hc'
      by_cases e : c' = c
      · subst e; rw [if_pos rfl, hown, h2]
      · rw [if_neg e, hoth c' hc' e]

/-- Rows of two drops. -/
def wantC (a b n : Nat) : Nat := if 1 < n then (if b = 1 then a * (a - 1) else a * a) else 0

theorem cdp2_empty (W H k : Nat) (hW : 1 ≤ W) (hH : 1 ≤ H) (hk : 1 ≤ k) : cdp W H k 2 (zer (W * H)) 1 = wantC W H k := by
  obtain ⟨y, hy⟩ : ∃ y, H = y + 1 := ⟨H - 1, by omega⟩
  rw [cdp_succ, drK_full W H _ (fun c => (H - 1) * W + c) W (fun c _ => by rw [hy]; exact fallN_zer W _ c y), List.map_map]
  have hall : ∀ c, c ∈ List.range W → (tmC W H k 1 (zer (W * H)) 1 ∘ fun c => (c, (H - 1) * W + c)) c = if 1 < k then (if H = 1 then W - 1 else W) else 0 := by
    intro c hc
    have hc := List.mem_range.1 hc
    have hp : (H - 1) * W + c < W * H := by rw [hy, Nat.mul_succ, Nat.mul_comm W y]; simp; omega
    simp only [Function.comp_apply, tmC]
    by_cases h1 : 1 < k
    · rw [if_pos (Or.inr (inR_single hp (by simp) (by omega))), if_pos h1, cdp1_single W H k _ c hW hH hc _ (by simp)]
    · obtain rfl : k = 1 := by omega
      rw [if_neg, if_neg h1]
      rintro (h | h)
      · omega
      · rw [inR_one] at h; cases h
  rw [List.map_congr_left hall]
  simp only [List.map_const', List.sum_replicate_nat, List.length_range]
  unfold wantC
  split
  · split <;> rfl
  · simp

end Go.Proofs.YtaglhmkjdajgpaaDoor
