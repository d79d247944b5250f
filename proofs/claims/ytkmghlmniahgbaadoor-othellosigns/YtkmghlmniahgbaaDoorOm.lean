/-
  Signs turned on a board, as numbers: runs of the other's signs between two of one's own; where a player may put a sign; a step of bits. No conditions beyond those that each theorem bears.
-/
import Derived.Test.YtkmghlmniahgbaaDoorMth
import Derived.Test.YtkmghlmniahgbaaDoorBm
namespace Go.Proofs.YtkmghlmniahgbaaDoor

/-- The bit at (x, y). -/
def bt (p : Nat) (x y : Int) : Bool := onB 8 8 x y && p.testBit (y * 8 + x).toNat

def dxs (d : Nat) : Int := [1, -1, 0, 0, 1, -1, 1, -1].getD d 0
def dys (d : Nat) : Int := [0, 0, 1, -1, 1, 1, -1, -1].getD d 0
/-- By how much bits are shifted to the left, and where they may come to lie. -/
def shs (d : Nat) : Nat := [1, 63, 8, 56, 9, 7, 57, 55].getD d 0
def mks (d : Nat) : Nat := [18374403900871474942, 9187201950435737471, 18446744073709551360, 72057594037927935, 18374403900871474688, 9187201950435737344, 71775015237779198, 35887507618889599].getD d 0

theorem ds_dir {d : Nat} (h : d < 8) : Dir (dxs d) (dys d) := by
  rcases (show d = 0 ∨ d = 1 ∨ d = 2 ∨ d = 3 ∨ d = 4 ∨ d = 5 ∨ d = 6 ∨ d = 7 by omega) with rfl | rfl | rfl | rfl | rfl | rfl | rfl | rfl <;> simp [Dir, dxs, dys]

def stp (d p : Nat) : Nat := (p * 2 ^ shs d % 2 ^ 64 ||| p / 2 ^ (64 - shs d)) &&& mks d

theorem mks_tab : ∀ d, d < 8 → ∀ i, i < 64 → (mks d).testBit i = onB 8 8 (((i % 8 : Nat) : Int) - dxs d) (((i / 8 : Nat) : Int) - dys d) ∧
    ((mks d).testBit i = true → ((((i / 8 : Nat) : Int) - dys d) * 8 + (((i % 8 : Nat) : Int) - dxs d)).toNat = (i + 64 - shs d) % 64) := by decide +kernel

theorem mks_lt : ∀ d, d < 8 → mks d < 2 ^ 64 ∧ 1 ≤ shs d ∧ shs d ≤ 63 := by decide +kernel

theorem stp_lt (d p : Nat) (hd : d < 8) : stp d p < 2 ^ 64 := Nat.and_lt_two_pow _ (mks_lt d hd).1

theorem rot_bit {p s i : Nat} (hp : p < 2 ^ 64) (h1 : 1 ≤ s) (h2 : s ≤ 63) (hi : i < 64) : (p * 2 ^ s % 2 ^ 64 ||| p / 2 ^ (64 - s)).testBit i = p.testBit ((i + 64 - s) % 64) := by
  rw [Nat.testBit_or, Nat.testBit_mod_two_pow, Nat.mul_comm, Nat.testBit_two_pow_mul, Nat.testBit_div_two_pow]
  by_cases h : s ≤ i
  · have e : (i + 64 - s) % 64 = i - s := by omega
    have e2 : p.testBit (i + (64 - s)) = false := Nat.testBit_lt_two_pow (Nat.lt_of_lt_of_le hp (Nat.pow_le_pow_right (by omega) (by omega)))
    rw [e, e2]
    simp [hi, h]
  · have e : (i + 64 - s) % 64 = i + (64 - s) := by omega
    rw [e]
    simp [h]

theorem stp_at {d p i : Nat} (hd : d < 8) (hp : p < 2 ^ 64) (hi : i < 64) : (stp d p).testBit i = bt p (((i % 8 : Nat) : Int) - dxs d) (((i / 8 : Nat) : Int) - dys d) := by
  obtain ⟨t1, t2⟩ := mks_tab d hd i hi
  obtain ⟨_, s1, s2⟩ := mks_lt d hd
  unfold stp bt
  rw [Nat.testBit_and, rot_bit hp s1 s2 hi, ← t1]
  cases hm : (mks d).testBit i with
  | false => simp
  | true => rw [t2 hm]; simp

theorem bt_nat {p i : Nat} (hi : i < 64) : bt p ((i % 8 : Nat) : Int) ((i / 8 : Nat) : Int) = p.testBit i := by
  unfold bt
  have hb : onB 8 8 ((i % 8 : Nat) : Int) ((i / 8 : Nat) : Int) = true := by rw [onB_iff]; omega
  rw [hb, Bool.true_and]
  congr 1
  omega

theorem on8_nat {x y : Int} (h : onB 8 8 x y = true) : ∃ i : Nat, i < 64 ∧ x = ((i % 8 : Nat) : Int) ∧ y = ((i / 8 : Nat) : Int) := by
  rw [onB_iff] at h
  refine ⟨(y * 8 + x).toNat, ?_, ?_, ?_⟩ <;> omega

theorem stp_bit {d p : Nat} (hd : d < 8) (hp : p < 2 ^ 64) (x y : Int) : bt (stp d p) x y = (onB 8 8 x y && bt p (x - dxs d) (y - dys d)) := by
  by_cases hb : onB 8 8 x y = true
  · obtain ⟨i, hi, rfl, rfl⟩ := on8_nat hb
    rw [bt_nat hi, stp_at hd hp hi, hb, Bool.true_and]
  · have hb' : onB 8 8 x y = false := by simpa using hb
    rw [hb', Bool.false_and]
    unfold bt
    rw [hb', Bool.false_and]

theorem bt_or (p q : Nat) (x y : Int) : bt (p ||| q) x y = (bt p x y || bt q x y) := by
  unfold bt; rw [Nat.testBit_or]; cases onB 8 8 x y <;> simp
theorem bt_and (p q : Nat) (x y : Int) : bt (p &&& q) x y = (bt p x y && bt q x y) := by
  unfold bt; rw [Nat.testBit_and]; cases onB 8 8 x y <;> simp
theorem bt_zero (x y : Int) : bt 0 x y = false := by unfold bt; simp
theorem bt_out {p : Nat} {x y : Int} (h : onB 8 8 x y = false) : bt p x y = false := by unfold bt; rw [h]; rfl
theorem bt_on {p : Nat} {x y : Int} (h : bt p x y = true) : onB 8 8 x y = true := by
  unfold bt at h; cases hb : onB 8 8 x y with
  | true => rfl
  | false => rw [hb] at h; simp at h

theorem bt_andNot {p q : Nat} (hq : q < 2 ^ 64) (x y : Int) : bt (p &&& (18446744073709551615 - q)) x y = (bt p x y && !bt q x y) := by
  by_cases hb : onB 8 8 x y = true
  · obtain ⟨i, hi, rfl, rfl⟩ := on8_nat hb
    rw [bt_nat hi, bt_nat hi, bt_nat hi, Nat.testBit_and, show 18446744073709551615 - q = 2 ^ 64 - (q + 1) by omega, Nat.testBit_two_pow_sub_succ hq]
    simp [hi]
  · have hb' : onB 8 8 x y = false := by simpa using hb
    rw [bt_out hb', bt_out hb']; rfl

/-- Two sets with the same places are one. -/
theorem bt_ext {p q : Nat} (hp : p < 2 ^ 64) (hq : q < 2 ^ 64) (h : ∀ x y, bt p x y = bt q x y) : p = q := by
  apply Nat.eq_of_testBit_eq
  intro i
  by_cases hi : i < 64
  · have := h ((i % 8 : Nat) : Int) ((i / 8 : Nat) : Int)
    rwa [bt_nat hi, bt_nat hi] at this
  · rw [Nat.testBit_lt_two_pow (Nat.lt_of_lt_of_le hp (Nat.pow_le_pow_right (by omega) (by omega))), Nat.testBit_lt_two_pow (Nat.lt_of_lt_of_le hq (Nat.pow_le_pow_right (by omega) (by omega)))]

/-- The set of one place; none off the board. -/
def bv (x y : Int) : Nat := if onB 8 8 x y = true then 2 ^ (y * 8 + x).toNat else 0

theorem bv_lt (x y : Int) : bv x y < 2 ^ 64 := by
  unfold bv
  split
  · rename_i h
    rw [onB_iff] at h
    exact Nat.pow_lt_pow_right (by omega) (by omega)
  · exact Nat.two_pow_pos 64

theorem bv_bit (x y u v : Int) : bt (bv x y) u v = (onB 8 8 x y && decide (u = x) && decide (v = y)) := by
  by_cases hb : onB 8 8 x y = true
  · rw [hb]
    unfold bv
    rw [if_pos hb]
    by_cases hc : onB 8 8 u v = true
    · unfold bt
      rw [hc, Nat.testBit_two_pow]
      rw [onB_iff] at hb hc
      by_cases e : u = x ∧ v = y
      · obtain ⟨rfl, rfl⟩ := e; simp
      · have : ¬ (y * 8 + x).toNat = (v * 8 + u).toNat := by omega
        simp only [this, decide_false, Bool.and_false, Bool.true_and]
        symm
        simp only [Bool.and_eq_false_iff, decide_eq_false_iff_not]
        omega
    · rw [bt_out (by simpa using hc)]
      symm
      simp only [Bool.and_eq_false_iff, decide_eq_false_iff_not, Bool.true_and]
      by_cases e1 : u = x
      · right
        intro e2
        subst e1 e2
        exact hc hb
      · exact Or.inl e1
  · have hb' : onB 8 8 x y = false := by simpa using hb
    unfold bv
    rw [if_neg hb, bt_zero, hb']; rfl

theorem bv_and {p : Nat} {x y : Int} : bv x y &&& p = if bt p x y = true then bv x y else 0 := by
  by_cases hb : onB 8 8 x y = true
  · unfold bt
    rw [hb, Bool.true_and]
    unfold bv
    rw [if_pos hb]
    apply Nat.eq_of_testBit_eq
    intro i
    rw [Nat.testBit_and, Nat.testBit_two_pow]
    by_cases e : (y * 8 + x).toNat = i
    · subst e
      cases p.testBit (y * 8 + x).toNat <;> simp
    · simp only [e, decide_false, Bool.false_and]
      split
      · rw [Nat.testBit_two_pow]; simp [e]
      · simp
  · have hb' : onB 8 8 x y = false := by simpa using hb
    unfold bv
    rw [if_neg hb]; simp

theorem bv_step {d : Nat} (hd : d < 8) {x y : Int} (h : onB 8 8 x y = true) : stp d (bv x y) = bv (x + dxs d) (y + dys d) := by
  refine bt_ext (stp_lt d _ hd) (bv_lt _ _) fun u v => ?_
  rw [stp_bit hd (bv_lt _ _), bv_bit, bv_bit, h, Bool.true_and]
  by_cases e : u = x + dxs d ∧ v = y + dys d
  · obtain ⟨rfl, rfl⟩ := e
    simp [show x + dxs d - dxs d = x by omega, show y + dys d - dys d = y by omega]
  · have h1 : (decide (u - dxs d = x) && decide (v - dys d = y)) = false := by simp only [Bool.and_eq_false_iff, decide_eq_false_iff_not]; omega
    have h2 : (decide (u = x + dxs d) && decide (v = y + dys d)) = false := by simp only [Bool.and_eq_false_iff, decide_eq_false_iff_not]; omega
    rw [h1, Bool.and_assoc, h2]; simp

theorem bv_off {d : Nat} (hd : d < 8) : stp d 0 = 0 := by
  refine bt_ext (stp_lt d _ hd) (by omega) fun u v => ?_
  rw [stp_bit hd (by omega), bt_zero, bt_zero]; simp

theorem bv_zero {x y : Int} : bv x y = 0 ↔ onB 8 8 x y = false := by
  unfold bv
  split
  · rename_i h; rw [h]; simp
  · rename_i h; simpa using h

/-! Runs. -/

/-- From (x, y) in a direction: n of the other's, then one of who's own. -/
def Rn (c : Int → Int → Int) (who dx dy : Int) (n : Nat) (x y : Int) : Prop :=
  (∀ j : Nat, 1 ≤ j → j ≤ n → c (x + j * dx) (y + j * dy) = 3 - who) ∧ c (x + ((n + 1 : Nat) : Int) * dx) (y + ((n + 1 : Nat) : Int) * dy) = who

/-- How many of a kind lie one behind another, at most k. -/
def opp (c : Int → Int → Int) (o dx dy : Int) : Nat → Int → Int → Nat
  | 0, _, _ => 0
  | k + 1, x, y => if c x y = o then opp c o dx dy k (x + dx) (y + dy) + 1 else 0

/-- How many are turned in a direction. -/
def fl (c : Int → Int → Int) (who dx dy x y : Int) : Nat :=
  let n := opp c (3 - who) dx dy 8 (x + dx) (y + dy)
  if c (x + ((n + 1 : Nat) : Int) * dx) (y + ((n + 1 : Nat) : Int) * dy) = who then n else 0

theorem opp_all {c : Int → Int → Int} {o dx dy : Int} : ∀ (k : Nat) (x y : Int) (j : Nat), j < opp c o dx dy k x y → c (x + j * dx) (y + j * dy) = o
  | 0, _, _, j, h => by simp [opp] at h
  | k + 1, x, y, j, h => by
    unfold opp at h
    split at h
    · rename_i hc
      cases j with
      | zero => simpa using hc
      | succ j =>
        have := opp_all (c := c) (o := o) (dx := dx) (dy := dy) k (x + dx) (y + dy) j (by omega)
        rw [Int.natCast_add, Int.add_mul, Int.add_mul]
        simp only [Int.natCast_one, Int.one_mul]
        rw [show x + ((j : Int) * dx + dx) = x + dx + j * dx by omega, show y + ((j : Int) * dy + dy) = y + dy + j * dy by omega]
        exact this
    · omega

theorem opp_is {c : Int → Int → Int} {o dx dy : Int} : ∀ (k : Nat) (x y : Int) (n : Nat), n < k → (∀ j : Nat, j < n → c (x + j * dx) (y + j * dy) = o) → c (x + n * dx) (y + n * dy) ≠ o → opp c o dx dy k x y = n
  | 0, _, _, n, h, _, _ => by omega
  | k + 1, x, y, 0, _, _, h3 => by
    unfold opp
    rw [if_neg (by simpa using h3)]
  | k + 1, x, y, n + 1, h1, h2, h3 => by
    unfold opp
    have h0 := h2 0 (by omega)
    rw [if_pos (by simpa using h0), opp_is k (x + dx) (y + dy) n (by omega)]
    · intro j hj
      have := h2 (j + 1) (by omega)
      rw [Int.natCast_add, Int.add_mul, Int.add_mul] at this
      simp only [Int.natCast_one, Int.one_mul] at this
      rwa [show x + ((j : Int) * dx + dx) = x + dx + j * dx by omega, show y + ((j : Int) * dy + dy) = y + dy + j * dy by omega] at this
    · intro e
      apply h3
      rw [Int.natCast_add, Int.add_mul, Int.add_mul]
      simp only [Int.natCast_one, Int.one_mul]
      rwa [show x + ((n : Int) * dx + dx) = x + dx + n * dx by omega, show y + ((n : Int) * dy + dy) = y + dy + n * dy by omega]

/-- No eight steps lead from a place to a place. -/
theorem far_8 {dx dy x y : Int} (hd : Dir dx dy) (h : onB 8 8 x y = true) {m : Nat} (h2 : onB 8 8 (x + m * dx) (y + m * dy) = true) : m ≤ 7 := by
  rw [onB_iff] at h h2
  obtain ⟨d1, d2, d3⟩ := hd
  rcases d1 with rfl | rfl | rfl <;> rcases d2 with rfl | rfl | rfl <;> omega

/-- Signs lie on the board alone. -/
def OnC (c : Int → Int → Int) : Prop := ∀ x y, 0 ≤ c x y → onB 8 8 x y = true

theorem cl_onC {W H : Nat} (hW : W ≤ 8) (hH : H ≤ 8) (Z : List Int) : OnC (cl W H Z) := by
  intro x y h
  have := cl_on (W := W) (H := H) (zs := Z) (v := cl W H Z x y) h rfl
  rw [onB_iff] at this ⊢
  omega

theorem fl_run {c : Int → Int → Int} {who dx dy x y : Int} (hc : OnC c) (hd : Dir dx dy) (hw : who = 1 ∨ who = 2) (h : onB 8 8 x y = true) {n : Nat} (hn : 1 ≤ n) : fl c who dx dy x y = n ↔ Rn c who dx dy n x y := by
  have sh : ∀ (j : Nat) (a t : Int), a + ((j + 1 : Nat) : Int) * t = a + t + j * t := fun j a t => by
    rw [Int.natCast_add, Int.add_mul]; simp only [Int.natCast_one, Int.one_mul]; omega
  constructor
  · intro hf
    unfold fl at hf
    simp only at hf
    split at hf
    · rename_i hw2
      rw [hf] at hw2
      refine ⟨fun j h1 h2 => ?_, hw2⟩
      have := opp_all (c := c) (o := 3 - who) (dx := dx) (dy := dy) 8 (x + dx) (y + dy) (j - 1) (by omega)
      rw [← sh, ← sh, show j - 1 + 1 = j by omega] at this
      exact this
    · omega
  · rintro ⟨h1, h2⟩
    have hb := hc _ _ (by rw [h2]; omega)
    have h8 := far_8 hd h hb
    have ho : opp c (3 - who) dx dy 8 (x + dx) (y + dy) = n := by
      refine opp_is 8 _ _ n (by omega) (fun j hj => ?_) ?_
      · rw [← sh, ← sh]; exact h1 (j + 1) (by omega) (by omega)
      · rw [← sh, ← sh, h2]; omega
    unfold fl
    simp only [ho]
    rw [if_pos h2]

theorem fl_lt {c : Int → Int → Int} {who dx dy x y : Int} (hc : OnC c) (hd : Dir dx dy) (hw : who = 1 ∨ who = 2) (h : onB 8 8 x y = true) : fl c who dx dy x y ≤ 6 := by
  by_cases hn : 1 ≤ fl c who dx dy x y
  · have hr := (fl_run hc hd hw h hn).1 rfl
    have hb := hc _ _ (by rw [hr.2]; omega)
    have := far_8 hd h hb
    omega
  · omega

/-- Where a player may put a sign. -/
def lg (c : Int → Int → Int) (who x y : Int) : Bool := decide (c x y = 0) && (List.range 8).any fun d => decide (1 ≤ fl c who (dxs d) (dys d) x y)

/-- What is turned by a sign at (x, y). -/
def tn (c : Int → Int → Int) (who x y u v : Int) : Bool := (List.range 8).any fun d => (List.range 7).any fun j => decide (j + 1 ≤ fl c who (dxs d) (dys d) x y) && decide (u = x + ((j + 1 : Nat) : Int) * dxs d) && decide (v = y + ((j + 1 : Nat) : Int) * dys d)

theorem tn_iff {c : Int → Int → Int} {who x y u v : Int} (hc : OnC c) (hw : who = 1 ∨ who = 2) (h : onB 8 8 x y = true) : tn c who x y u v = true ↔ ∃ d, d < 8 ∧ ∃ j : Nat, 1 ≤ j ∧ j ≤ fl c who (dxs d) (dys d) x y ∧ u = x + j * dxs d ∧ v = y + j * dys d := by
  unfold tn
  simp only [List.any_eq_true, List.mem_range, Bool.and_eq_true, decide_eq_true_eq]
  constructor
  · rintro ⟨d, hd, j, hj, ⟨h1, h2⟩, h3⟩
    exact ⟨d, hd, j + 1, by omega, h1, h2, h3⟩
  · rintro ⟨d, hd, j, h1, h2, h3, h4⟩
    have := fl_lt hc (ds_dir hd) hw h
    exact ⟨d, hd, j - 1, by omega, ⟨by omega, by rw [show j - 1 + 1 = j by omega]; exact h3⟩, by rw [show j - 1 + 1 = j by omega]; exact h4⟩

/-- What is turned was the other's. -/
theorem tn_other {c : Int → Int → Int} {who x y u v : Int} (hc : OnC c) (hw : who = 1 ∨ who = 2) (h : onB 8 8 x y = true) (ht : tn c who x y u v = true) : c u v = 3 - who := by
  obtain ⟨d, hd, j, h1, h2, rfl, rfl⟩ := (tn_iff hc hw h).1 ht
  exact ((fl_run hc (ds_dir hd) hw h (by omega)).1 rfl).1 j h1 h2

theorem lg_iff {c : Int → Int → Int} {who x y : Int} : lg c who x y = true ↔ c x y = 0 ∧ ∃ d, d < 8 ∧ 1 ≤ fl c who (dxs d) (dys d) x y := by
  unfold lg
  simp only [Bool.and_eq_true, decide_eq_true_eq, List.any_eq_true, List.mem_range]

/-- The opposite direction. -/
def opd (d : Nat) : Nat := [1, 0, 3, 2, 7, 6, 5, 4].getD d 0
theorem opd_is : ∀ d, d < 8 → opd d < 8 ∧ dxs (opd d) = - dxs d ∧ dys (opd d) = - dys d ∧ opd (opd d) = d := by decide

/-- By runs that come from the other end. -/
theorem lg_run {c : Int → Int → Int} {who x y : Int} (hc : OnC c) (hw : who = 1 ∨ who = 2) : lg c who x y = true ↔ c x y = 0 ∧ ∃ d, d < 8 ∧ ∃ n : Nat, 1 ≤ n ∧ Rn c who (- dxs d) (- dys d) n x y := by
  rw [lg_iff]
  constructor
  · rintro ⟨h0, d, hd, h1⟩
    obtain ⟨o1, o2, o3, o4⟩ := opd_is d hd
    have hb := hc x y (by omega)
    refine ⟨h0, opd d, o1, _, h1, ?_⟩
    rw [o2, o3, Int.neg_neg, Int.neg_neg]
    exact (fl_run hc (ds_dir hd) hw hb h1).1 rfl
  · rintro ⟨h0, d, hd, n, h1, hr⟩
    obtain ⟨o1, o2, o3, o4⟩ := opd_is d hd
    have hb := hc x y (by omega)
    refine ⟨h0, opd d, o1, ?_⟩
    rw [← o2, ← o3] at hr
    rw [(fl_run hc (ds_dir o1) hw hb h1).2 hr]
    exact h1

end Go.Proofs.YtkmghlmniahgbaaDoor
