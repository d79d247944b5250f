/-
  Boards as three sets of bits; the places of a player, and what is turned, as sets; how the loops of the program find them. No conditions beyond those that each theorem bears.
-/
import Derived.Test.YtkmghlmniahgbaaDoorOm
namespace Go.Proofs.YtkmghlmniahgbaaDoor

/-- The set of the places of which f tells true, of the first n bits. -/
def setN (f : Int → Int → Bool) : Nat → Nat
  | 0 => 0
  | n + 1 => if f ((n % 8 : Nat) : Int) ((n / 8 : Nat) : Int) = true then setN f n + 2 ^ n else setN f n

def setOf (f : Int → Int → Bool) : Nat := setN f 64

theorem setN_lt (f : Int → Int → Bool) : ∀ n, setN f n < 2 ^ n
  | 0 => by simp [setN]
  | n + 1 => by
    have := setN_lt f n
    unfold setN
    rw [Nat.pow_succ]
    split <;> omega

theorem setN_bit (f : Int → Int → Bool) : ∀ n i, (setN f n).testBit i = (decide (i < n) && f ((i % 8 : Nat) : Int) ((i / 8 : Nat) : Int))
  | 0, i => by simp [setN]
  | n + 1, i => by
    have ih := setN_bit f n i
    have hl := setN_lt f n
    unfold setN
    split
    · rename_i h
      rw [Nat.add_comm, show 2 ^ n = 2 ^ n * 1 by omega, Nat.testBit_two_pow_mul_add 1 hl]
      by_cases hi : i < n
      · rw [if_pos hi, ih]; simp [hi, show i < n + 1 by omega]
      · rw [if_neg hi]
        by_cases e : i = n
        · subst e; rw [h]; simp
        · rw [Nat.testBit_lt_two_pow (Nat.one_lt_two_pow (show i - n ≠ 0 by omega))]
          simp [show ¬ i < n + 1 by omega]
    · rename_i h
      rw [ih]
      by_cases e : i = n
      · subst e
        have : f ((i % 8 : Nat) : Int) ((i / 8 : Nat) : Int) = false := by simpa using h
        rw [this]; simp
      · have : (i < n) ↔ (i < n + 1) := by omega
        simp [this]

theorem setOf_lt (f : Int → Int → Bool) : setOf f < 2 ^ 64 := setN_lt f 64

theorem setOf_bt (f : Int → Int → Bool) (x y : Int) : bt (setOf f) x y = (onB 8 8 x y && f x y) := by
  by_cases hb : onB 8 8 x y = true
  · obtain ⟨i, hi, rfl, rfl⟩ := on8_nat hb
    rw [bt_nat hi, hb]
    unfold setOf
    rw [setN_bit]; simp [hi]
  · have hb' : onB 8 8 x y = false := by simpa using hb
    rw [bt_out hb', hb']; rfl

theorem setOf_is {M : Nat} {f : Int → Int → Bool} (hM : M < 2 ^ 64) (h : ∀ x y, bt M x y = true ↔ onB 8 8 x y = true ∧ f x y = true) : M = setOf f := by
  refine bt_ext hM (setOf_lt f) fun x y => ?_
  rw [setOf_bt, Bool.eq_iff_iff, h, Bool.and_eq_true]

/-- The places with a sign. -/
def so (W H : Nat) (Z : List Int) (v : Nat) : Nat := setOf fun x y => decide (cl W H Z x y = (v : Int))

theorem so_lt (W H : Nat) (Z : List Int) (v : Nat) : so W H Z v < 2 ^ 64 := setOf_lt _

theorem so_bt {W H : Nat} (hW : W ≤ 8) (hH : H ≤ 8) (Z : List Int) (v : Nat) (x y : Int) : bt (so W H Z v) x y = true ↔ cl W H Z x y = (v : Int) := by
  unfold so
  rw [setOf_bt, Bool.and_eq_true, decide_eq_true_eq]
  constructor
  · exact fun h => h.2
  · exact fun h => ⟨cl_onC hW hH Z x y (by omega), h⟩

/-- Where a player may put a sign, as a set. -/
def mvS (W H : Nat) (Z : List Int) (m : Nat) : Nat := setOf fun x y => lg (cl W H Z) (m : Int) x y

theorem mvS_lt (W H : Nat) (Z : List Int) (m : Nat) : mvS W H Z m < 2 ^ 64 := setOf_lt _

/-- What a sign at (x, y) turns, as a set. -/
def tnS (W H : Nat) (Z : List Int) (m : Nat) (x y : Int) : Nat := setOf fun u v => tn (cl W H Z) (m : Int) x y u v

theorem tnS_lt (W H : Nat) (Z : List Int) (m : Nat) (x y : Int) : tnS W H Z m x y < 2 ^ 64 := setOf_lt _

theorem rn_shift (c : Int → Int → Int) (who dx dy : Int) (n : Nat) (x y : Int) : Rn c who (-dx) (-dy) (n + 1) (x + dx) (y + dy) ↔ c x y = 3 - who ∧ Rn c who (-dx) (-dy) n x y := by
  have sh : ∀ (j : Nat) (a t : Int), a + t + ((j + 1 : Nat) : Int) * -t = a + (j : Int) * -t := fun j a t => by
    rw [Int.natCast_add, Int.add_mul]; simp only [Int.natCast_one, Int.one_mul]; omega
  unfold Rn
  rw [sh (n + 1), sh (n + 1)]
  constructor
  · rintro ⟨h1, h2⟩
    refine ⟨?_, fun j a b => ?_, h2⟩
    · have := h1 1 (by omega) (by omega)
      rw [sh 0, sh 0] at this
      simpa using this
    · have := h1 (j + 1) (by omega) (by omega)
      rwa [sh j, sh j] at this
  · rintro ⟨h0, h1, h2⟩
    refine ⟨fun j a b => ?_, h2⟩
    obtain ⟨k, rfl⟩ : ∃ k, j = k + 1 := ⟨j - 1, by omega⟩
    rw [sh k, sh k]
    cases k with
    | zero => simpa using h0
    | succ k => exact h1 (k + 1) (by omega) (by omega)

theorem rn_zero (c : Int → Int → Int) (who dx dy x y : Int) : Rn c who (-dx) (-dy) 0 x y ↔ c (x - dx) (y - dy) = who := by
  unfold Rn
  simp only [Nat.zero_add, Int.natCast_one, Int.one_mul]
  rw [show x + -dx = x - dx by omega, show y + -dy = y - dy by omega]
  constructor
  · exact fun h => h.2
  · exact fun h => ⟨fun j a b => by omega, h⟩

/-- The set of the ends of runs of i, in a direction. -/
def RowI (c : Int → Int → Int) (who dx dy : Int) (i : Nat) (r : Nat) : Prop := r < 2 ^ 64 ∧ ∀ x y, bt r x y = true ↔ Rn c who (-dx) (-dy) i (x + dx) (y + dy)

theorem row_start {c : Int → Int → Int} {m d o t : Nat} (hc : OnC c) (hm : m = 1 ∨ m = 2) (hd : d < 8) (ho : o < 2 ^ 64) (hbo : ∀ x y, bt o x y = true ↔ c x y = (m : Int)) (hbt : ∀ x y, bt t x y = true ↔ c x y = 3 - (m : Int)) :
    RowI c m (dxs d) (dys d) 1 (stp d o &&& t) := by
  refine ⟨Nat.lt_of_le_of_lt Nat.and_le_left (stp_lt d o hd), fun x y => ?_⟩
  rw [bt_and, stp_bit hd ho, Bool.and_eq_true, Bool.and_eq_true, hbo, hbt, rn_shift, rn_zero]
  constructor
  · rintro ⟨⟨_, h1⟩, h2⟩; exact ⟨h2, h1⟩
  · rintro ⟨h2, h1⟩; exact ⟨⟨hc _ _ (by omega), h1⟩, h2⟩

theorem row_step {c : Int → Int → Int} {m d i r : Nat} (hd : d < 8) (h : RowI c m (dxs d) (dys d) i r) (x y : Int) : bt (stp d r) x y = true ↔ onB 8 8 x y = true ∧ Rn c m (- dxs d) (- dys d) i x y := by
  rw [stp_bit hd h.1, Bool.and_eq_true, h.2, show x - dxs d + dxs d = x by omega, show y - dys d + dys d = y by omega]

theorem row_next {c : Int → Int → Int} {m d i r t : Nat} (hc : OnC c) (hm : m = 1 ∨ m = 2) (hd : d < 8) (hbt : ∀ x y, bt t x y = true ↔ c x y = 3 - (m : Int)) (h : RowI c m (dxs d) (dys d) i r) : RowI c m (dxs d) (dys d) (i + 1) (stp d r &&& t) := by
  refine ⟨Nat.lt_of_le_of_lt Nat.and_le_left (stp_lt d r hd), fun x y => ?_⟩
  rw [bt_and, Bool.and_eq_true, row_step hd h, hbt, rn_shift]
  constructor
  · rintro ⟨⟨_, h1⟩, h2⟩; exact ⟨h2, h1⟩
  · rintro ⟨h2, h1⟩; exact ⟨⟨hc _ _ (by omega), h1⟩, h2⟩

theorem row_len {c : Int → Int → Int} {m d i r : Nat} (hc : OnC c) (hm : m = 1 ∨ m = 2) (hd : d < 8) (hi : 1 ≤ i) (h : RowI c m (dxs d) (dys d) i r) (hr : r ≠ 0) : i ≤ 7 := by
  by_cases he : ∃ x y, bt r x y = true
  · obtain ⟨x, y, hb⟩ := he
    have hR := (h.2 x y).1 hb
    obtain ⟨k, rfl⟩ : ∃ k, i = k + 1 := ⟨i - 1, by omega⟩
    obtain ⟨h0, h1⟩ := (rn_shift _ _ _ _ _ _ _).1 hR
    have b0 := hc x y (by omega)
    have b1 := hc _ _ (show 0 ≤ c _ _ by rw [h1.2]; omega)
    have := far_8 (ds_dir hd).neg b0 b1
    omega
  · exfalso
    apply hr
    refine bt_ext h.1 (by omega) fun x y => ?_
    rw [bt_zero]
    cases hb : bt r x y with
    | false => rfl
    | true => exact absurd ⟨x, y, hb⟩ he

/-- Where the runs of fewer than i in direction d, and those of the directions ahead of it, lead. -/
def FndI (c : Int → Int → Int) (who : Int) (d i : Nat) (f : Nat) : Prop := f < 2 ^ 64 ∧ ∀ x y, bt f x y = true ↔ c x y = 0 ∧ ((∃ e, e < d ∧ ∃ n : Nat, 1 ≤ n ∧ Rn c who (- dxs e) (- dys e) n x y) ∨ ∃ n : Nat, 1 ≤ n ∧ n < i ∧ Rn c who (- dxs d) (- dys d) n x y)

theorem fnd_start (c : Int → Int → Int) (who : Int) : FndI c who 0 1 0 :=
  ⟨by omega, fun x y => by
    rw [bt_zero]
    constructor
    · intro h; cases h
    · rintro ⟨_, ⟨e, he, _⟩ | ⟨n, h1, h2, _⟩⟩ <;> omega⟩

theorem fnd_next {c : Int → Int → Int} {m d i r f e : Nat} (hc : OnC c) (hd : d < 8) (hi : 1 ≤ i) (hbe : ∀ x y, bt e x y = true ↔ c x y = 0) (h : RowI c m (dxs d) (dys d) i r) (hf : FndI c m d i f) : FndI c m d (i + 1) (f ||| (stp d r &&& e)) := by
  refine ⟨Nat.or_lt_two_pow hf.1 (Nat.lt_of_le_of_lt Nat.and_le_left (stp_lt d r hd)), fun x y => ?_⟩
  rw [bt_or, Bool.or_eq_true, bt_and, Bool.and_eq_true, hf.2, row_step hd h, hbe]
  constructor
  · rintro (⟨h0, h1⟩ | ⟨⟨_, h1⟩, h0⟩)
    · refine ⟨h0, ?_⟩
      rcases h1 with h1 | ⟨n, a, b, h1⟩
      · exact Or.inl h1
      · exact Or.inr ⟨n, a, by omega, h1⟩
    · exact ⟨h0, Or.inr ⟨i, hi, by omega, h1⟩⟩
  · rintro ⟨h0, h1⟩
    rcases h1 with h1 | ⟨n, a, b, h1⟩
    · exact Or.inl ⟨h0, Or.inl h1⟩
    · by_cases e : n = i
      · subst e
        exact Or.inr ⟨⟨hc x y (by omega), h1⟩, h0⟩
      · exact Or.inl ⟨h0, Or.inr ⟨n, a, by omega, h1⟩⟩

theorem rn_tail {c : Int → Int → Int} {who dx dy : Int} : ∀ (k i : Nat) (x y : Int), Rn c who (-dx) (-dy) (i + k) x y → ∃ u v, Rn c who (-dx) (-dy) i u v
  | 0, i, x, y, h => ⟨x, y, h⟩
  | k + 1, i, x, y, h => by
    have h' : Rn c who (-dx) (-dy) (i + k + 1) (x - dx + dx) (y - dy + dy) := by
      rw [show x - dx + dx = x by omega, show y - dy + dy = y by omega]; exact h
    exact rn_tail k i _ _ ((rn_shift _ _ _ _ _ _ _).1 h').2

theorem fnd_end {c : Int → Int → Int} {m d i f : Nat} (h : RowI c m (dxs d) (dys d) i 0) (hf : FndI c m d i f) : FndI c m (d + 1) 1 f := by
  refine ⟨hf.1, fun x y => ?_⟩
  rw [hf.2]
  constructor
  · rintro ⟨h0, h1⟩
    refine ⟨h0, Or.inl ?_⟩
    rcases h1 with ⟨e, he, h1⟩ | ⟨n, a, _, h1⟩
    · exact ⟨e, by omega, h1⟩
    · exact ⟨d, by omega, n, a, h1⟩
  · rintro ⟨h0, h1⟩
    refine ⟨h0, ?_⟩
    rcases h1 with ⟨e, he, n, a, h1⟩ | ⟨n, a, b, _⟩
    · by_cases ed : e = d
      · subst ed
        by_cases hn : n < i
        · exact Or.inr ⟨n, a, hn, h1⟩
        · exfalso
          obtain ⟨u, v, h2⟩ := rn_tail (n - i) i x y (by rw [show i + (n - i) = n by omega]; exact h1)
          have := (h.2 (u - dxs e) (v - dys e)).2 (by rw [show u - dxs e + dxs e = u by omega, show v - dys e + dys e = v by omega]; exact h2)
          rw [bt_zero] at this
          cases this
      · exact Or.inl ⟨e, by omega, n, a, h1⟩
    · omega

theorem fnd_all {W H : Nat} {Z : List Int} {m f : Nat} (hW : W ≤ 8) (hH : H ≤ 8) (hm : m = 1 ∨ m = 2) (hf : FndI (cl W H Z) m 8 1 f) : f = mvS W H Z m := by
  refine setOf_is hf.1 fun x y => ?_
  rw [hf.2, lg_run (cl_onC hW hH Z) (by omega)]
  constructor
  · rintro ⟨h0, h1⟩
    refine ⟨cl_onC hW hH Z x y (by omega), h0, ?_⟩
    rcases h1 with h1 | ⟨n, a, b, _⟩
    · exact h1
    · omega
  · rintro ⟨_, h0, h1⟩
    exact ⟨h0, Or.inl h1⟩

/-! What is turned. -/

/-- i of the other's lie one behind another; r is the set of them. -/
def TrI (c : Int → Int → Int) (who dx dy x y : Int) (i r : Nat) : Prop := r < 2 ^ 64 ∧ (∀ j : Nat, 1 ≤ j → j ≤ i → c (x + j * dx) (y + j * dy) = 3 - who) ∧ ∀ u v, bt r u v = true ↔ ∃ j : Nat, 1 ≤ j ∧ j ≤ i ∧ u = x + j * dx ∧ v = y + j * dy

theorem tr_start (c : Int → Int → Int) (who dx dy x y : Int) : TrI c who dx dy x y 0 0 :=
  ⟨by omega, fun j a b => by omega, fun u v => by
    rw [bt_zero]
    constructor
    · intro h; cases h
    · rintro ⟨j, a, b, _⟩; omega⟩

theorem tr_next {c : Int → Int → Int} {who dx dy x y : Int} {i r : Nat} (hc : OnC c) (hw : who = 1 ∨ who = 2) (h : TrI c who dx dy x y i r) (ho : c (x + ((i + 1 : Nat) : Int) * dx) (y + ((i + 1 : Nat) : Int) * dy) = 3 - who) :
    TrI c who dx dy x y (i + 1) (r ||| bv (x + ((i + 1 : Nat) : Int) * dx) (y + ((i + 1 : Nat) : Int) * dy)) := by
  refine ⟨Nat.or_lt_two_pow h.1 (bv_lt _ _), fun j a b => ?_, fun u v => ?_⟩
  · by_cases e : j = i + 1
    · subst e; exact ho
    · exact h.2.1 j a (by omega)
  · have hb := hc _ _ (show 0 ≤ c _ _ by rw [ho]; omega)
    rw [bt_or, Bool.or_eq_true, h.2.2, bv_bit, hb, Bool.true_and, Bool.and_eq_true, decide_eq_true_eq, decide_eq_true_eq]
    constructor
    · rintro (⟨j, a, b, e1, e2⟩ | ⟨e1, e2⟩)
      · exact ⟨j, a, by omega, e1, e2⟩
      · exact ⟨i + 1, by omega, by omega, e1, e2⟩
    · rintro ⟨j, a, b, e1, e2⟩
      by_cases e : j = i + 1
      · subst e; exact Or.inr ⟨e1, e2⟩
      · exact Or.inl ⟨j, a, by omega, e1, e2⟩

theorem sh1 (j : Nat) (a t : Int) : a + ((j + 1 : Nat) : Int) * t = a + t + j * t := by
  rw [Int.natCast_add, Int.add_mul]; simp only [Int.natCast_one, Int.one_mul]; omega

theorem fl_exit {c : Int → Int → Int} {who dx dy x y : Int} {i : Nat} (hi : i < 8) (h1 : ∀ j : Nat, 1 ≤ j → j ≤ i → c (x + j * dx) (y + j * dy) = 3 - who) (h2 : c (x + ((i + 1 : Nat) : Int) * dx) (y + ((i + 1 : Nat) : Int) * dy) ≠ 3 - who) :
    fl c who dx dy x y = if c (x + ((i + 1 : Nat) : Int) * dx) (y + ((i + 1 : Nat) : Int) * dy) = who then i else 0 := by
  have ho : opp c (3 - who) dx dy 8 (x + dx) (y + dy) = i := by
    refine opp_is 8 _ _ i hi (fun j hj => ?_) ?_
    · rw [← sh1, ← sh1]; exact h1 (j + 1) (by omega) (by omega)
    · rw [← sh1, ← sh1]; exact h2
  unfold fl
  simp only [ho]

/-- What the first d directions turn. -/
def AlI (c : Int → Int → Int) (who x y : Int) (d a : Nat) : Prop := a < 2 ^ 64 ∧ ∀ u v, bt a u v = true ↔ ∃ e, e < d ∧ ∃ j : Nat, 1 ≤ j ∧ j ≤ fl c who (dxs e) (dys e) x y ∧ u = x + j * dxs e ∧ v = y + j * dys e

theorem al_start (c : Int → Int → Int) (who x y : Int) : AlI c who x y 0 0 :=
  ⟨by omega, fun u v => by
    rw [bt_zero]
    constructor
    · intro h; cases h
    · rintro ⟨e, he, _⟩; omega⟩

theorem al_yes {c : Int → Int → Int} {who x y : Int} {d a i r : Nat} (h : AlI c who x y d a) (hr : TrI c who (dxs d) (dys d) x y i r) (hf : fl c who (dxs d) (dys d) x y = i) : AlI c who x y (d + 1) (a ||| r) := by
  refine ⟨Nat.or_lt_two_pow h.1 hr.1, fun u v => ?_⟩
  rw [bt_or, Bool.or_eq_true, h.2, hr.2.2]
  constructor
  · rintro (⟨e, he, h1⟩ | ⟨j, b, c, e1, e2⟩)
    · exact ⟨e, by omega, h1⟩
    · exact ⟨d, by omega, j, b, by omega, e1, e2⟩
  · rintro ⟨e, he, j, b, c, e1, e2⟩
    by_cases ed : e = d
    · subst ed; exact Or.inr ⟨j, b, by omega, e1, e2⟩
    · exact Or.inl ⟨e, by omega, j, b, c, e1, e2⟩

theorem al_no {c : Int → Int → Int} {who x y : Int} {d a : Nat} (h : AlI c who x y d a) (hf : fl c who (dxs d) (dys d) x y = 0) : AlI c who x y (d + 1) a := by
  refine ⟨h.1, fun u v => ?_⟩
  rw [h.2]
  constructor
  · rintro ⟨e, he, h1⟩; exact ⟨e, by omega, h1⟩
  · rintro ⟨e, he, j, b, c, e1, e2⟩
    by_cases ed : e = d
    · subst ed; omega
    · exact ⟨e, by omega, j, b, c, e1, e2⟩

theorem al_all {W H : Nat} {Z : List Int} {m a : Nat} {x y : Int} (hW : W ≤ 8) (hH : H ≤ 8) (hm : m = 1 ∨ m = 2) (hb : onB 8 8 x y = true) (h : AlI (cl W H Z) m x y 8 a) : a = tnS W H Z m x y := by
  refine setOf_is h.1 fun u v => ?_
  rw [h.2, tn_iff (cl_onC hW hH Z) (by omega) hb]
  constructor
  · intro h1
    refine ⟨?_, h1⟩
    have : tn (cl W H Z) m x y u v = true := (tn_iff (cl_onC hW hH Z) (by omega) hb).2 h1
    exact cl_onC hW hH Z u v (by rw [tn_other (cl_onC hW hH Z) (by omega) hb this]; omega)
  · exact fun h1 => h1.2

end Go.Proofs.YtkmghlmniahgbaaDoor
