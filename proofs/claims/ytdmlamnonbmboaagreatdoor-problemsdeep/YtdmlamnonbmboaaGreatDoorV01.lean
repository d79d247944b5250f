/-
  Sets of places as bits of a number: the lowest bit, its going, how many there are, a step in a direction. No conditions beyond those that each theorem bears.
-/
namespace Go.Proofs.YtdmlamnonbmboaaGreatDoor

/-- A number that is not 0 has a lowest bit. -/
theorem low_split : ∀ (m : Nat), m ≠ 0 → ∃ k q, m = 2 ^ k * (2 * q + 1) := by
  intro m
  induction m using Nat.strongRecOn with
  | ind m ih =>
    intro h
    by_cases e : m % 2 = 1
    · exact ⟨0, m / 2, by rw [Nat.pow_zero]; omega⟩
    · obtain ⟨k, q, hk⟩ := ih (m / 2) (by omega) (by omega)
      refine ⟨k + 1, q, ?_⟩
      rw [Nat.pow_succ, Nat.mul_comm (2 ^ k) 2, Nat.mul_assoc, ← hk]
      omega

theorem bit_odd (q i : Nat) : (2 * q + 1).testBit i = (if i = 0 then true else (2 * q).testBit i) := by
  cases i with
  | zero => simp [Nat.testBit_zero]
  | succ i =>
    rw [if_neg (by omega), Nat.testBit_succ, Nat.testBit_succ]
    congr 1
    omega

theorem bit_low (k q j : Nat) : (2 ^ k * (2 * q + 1)).testBit j = (if j < k then false else if j = k then true else (2 * q).testBit (j - k)) := by
  have h := Nat.testBit_two_pow_mul_add (2 * q + 1) (b := 0) (i := k) (Nat.two_pow_pos k) j
  rw [Nat.add_zero] at h
  rw [h]
  by_cases e : j < k
  · simp [e]
  · rw [if_neg e, if_neg e, bit_odd]
    by_cases e2 : j = k
    · rw [if_pos (by omega), if_pos e2]
    · rw [if_neg (by omega), if_neg e2]

theorem bit_pred (k q j : Nat) : (2 ^ k * (2 * q + 1) - 1).testBit j = (if j < k then true else if j = k then false else (2 * q).testBit (j - k)) := by
  have hp := Nat.two_pow_pos k
  have e : 2 ^ k * (2 * q + 1) - 1 = 2 ^ k * (2 * q) + (2 ^ k - 1) := by
    rw [Nat.mul_add, Nat.mul_one]; omega
  rw [e, Nat.testBit_two_pow_mul_add (2 * q) (b := 2 ^ k - 1) (i := k) (by omega) j]
  by_cases h : j < k
  · rw [if_pos h, if_pos h, Nat.testBit_two_pow_sub_one]; simpa using h
  · rw [if_neg h, if_neg h]
    by_cases e2 : j = k
    · rw [if_pos e2, show j - k = 0 by omega]; simp [Nat.testBit_zero]
    · rw [if_neg e2]

/-- m & (m - 1): the lowest bit goes. -/
theorem bit_drop (k q j : Nat) : ((2 ^ k * (2 * q + 1)) &&& (2 ^ k * (2 * q + 1) - 1)).testBit j = ((2 ^ k * (2 * q + 1)).testBit j && decide (j ≠ k)) := by
  rw [Nat.testBit_and, bit_low, bit_pred]
  by_cases h : j < k
  · simp [h]
  · by_cases e : j = k
    · subst e; simp
    · simp [h, e]

/-- m & -m of 64 bits: the lowest bit alone. -/
theorem bit_alone (k q : Nat) (h : 2 ^ k * (2 * q + 1) < 2 ^ 64) : (2 ^ k * (2 * q + 1)) &&& (2 ^ 64 - 2 ^ k * (2 * q + 1)) = 2 ^ k := by
  have hp : 0 < 2 ^ k * (2 * q + 1) := Nat.mul_pos (Nat.two_pow_pos k) (by omega)
  apply Nat.eq_of_testBit_eq
  intro j
  have hx : 2 ^ 64 - 2 ^ k * (2 * q + 1) = 2 ^ 64 - ((2 ^ k * (2 * q + 1) - 1) + 1) := by omega
  rw [Nat.testBit_and, hx, Nat.testBit_two_pow_sub_succ (by omega), bit_pred, Nat.testBit_two_pow]
  rw [bit_low]
  by_cases h1 : j < k
  · simp [h1]; omega
  · by_cases e : j = k
    · subst e
      have : j < 64 := by
        have : 2 ^ j ≤ 2 ^ j * (2 * q + 1) := Nat.le_mul_of_pos_right _ (by omega)
        exact (Nat.pow_lt_pow_iff_right (by omega : 1 < 2)).1 (Nat.lt_of_le_of_lt this h)
      simp [this]
    · have : ¬ k = j := fun h => e h.symm
      simp [h1, e, this]
      intro a _
      exact a

theorem low_lt (k q : Nat) (h : 2 ^ k * (2 * q + 1) < 2 ^ 64) : k < 64 := by
  have : 2 ^ k ≤ 2 ^ k * (2 * q + 1) := Nat.le_mul_of_pos_right _ (by omega)
  exact (Nat.pow_lt_pow_iff_right (by omega : 1 < 2)).1 (Nat.lt_of_le_of_lt this h)

/-- What is left of a set from a place on. -/
def From (m r lo : Nat) : Prop := ∀ j, r.testBit j = (m.testBit j && decide (lo ≤ j))

theorem from_zero (m : Nat) : From m m 0 := fun j => by simp

theorem from_step (m r lo k q : Nat) (h : From m r lo) (e : r = 2 ^ k * (2 * q + 1)) : lo ≤ k ∧ m.testBit k = true ∧ (∀ j, lo ≤ j → j < k → m.testBit j = false) ∧ From m (r &&& (r - 1)) (k + 1) := by
  subst e
  have hk := h k
  rw [bit_low, if_neg (by omega), if_pos rfl] at hk
  have hk2 : m.testBit k = true ∧ lo ≤ k := by simpa using hk.symm
  refine ⟨hk2.2, hk2.1, fun j h1 h2 => ?_, fun j => ?_⟩
  · have hj := h j
    rw [bit_low, if_pos h2] at hj
    simpa [h1] using hj.symm
  · rw [bit_drop]
    have hj := h j
    rw [bit_low] at hj ⊢
    by_cases h1 : j < k
    · rw [if_pos h1] at hj ⊢
      simp; intro _; omega
    · by_cases e : j = k
      · subst e; simp
      · rw [if_neg h1, if_neg e] at hj ⊢
        rw [hj]
        have a1 : lo ≤ j := by omega
        have a2 : k + 1 ≤ j := by omega
        simp [a1, a2, e]


/-- The bits below n, rising. -/
def bln (m n : Nat) : List Nat := (List.range n).filter m.testBit

theorem bln_zero (m : Nat) : bln m 0 = [] := rfl

theorem bln_no {m n : Nat} (h : m.testBit n = false) : bln m (n + 1) = bln m n := by
  unfold bln; rw [List.range_succ, List.filter_append]; simp [h]

theorem bln_yes {m n : Nat} (h : m.testBit n = true) : bln m (n + 1) = bln m n ++ [n] := by
  unfold bln; rw [List.range_succ, List.filter_append]; simp [h]

theorem bln_skip (m lo : Nat) : ∀ d, (∀ j, lo ≤ j → j < lo + d → m.testBit j = false) → bln m (lo + d) = bln m lo := by
  intro d
  induction d with
  | zero => intro _; rfl
  | succ d ih =>
    intro h
    rw [← ih (fun j a b => h j a (by omega)), show lo + (d + 1) = lo + d + 1 by omega]
    exact bln_no (h (lo + d) (by omega) (by omega))

theorem bln_step {m r lo k q : Nat} (h : From m r lo) (e : r = 2 ^ k * (2 * q + 1)) : bln m (k + 1) = bln m lo ++ [k] := by
  obtain ⟨h1, h2, h3, _⟩ := from_step m r lo k q h e
  obtain ⟨d, rfl⟩ : ∃ d, k = lo + d := ⟨k - lo, by omega⟩
  rw [bln_yes h2, bln_skip m lo d (fun j a b => h3 j a b)]

theorem bln_end {m lo : Nat} (h : From m 0 lo) (hl : lo ≤ 64) : bln m lo = bln m 64 := by
  obtain ⟨d, hd⟩ : ∃ d, 64 = lo + d := ⟨64 - lo, by omega⟩
  rw [hd]
  refine (bln_skip m lo d ?_).symm
  intro j h1 _
  have := h j
  simpa [h1] using this.symm

theorem bln_pre {m i j : Nat} (h : i ≤ j) : bln m i <+: bln m j := by
  induction j with
  | zero => obtain rfl : i = 0 := by omega
            exact List.prefix_refl _
  | succ j ih =>
    by_cases e : i = j + 1
    · subst e; exact List.prefix_refl _
    · refine (ih (by omega)).trans ?_
      cases hf : m.testBit j with
      | false => rw [bln_no hf]; exact List.prefix_refl _
      | true => rw [bln_yes hf]; exact List.prefix_append _ _

theorem mem_bln {m n i : Nat} : i ∈ bln m n ↔ i < n ∧ m.testBit i = true := by
  unfold bln; simp [List.mem_filter]

theorem bln_zero_iff {m : Nat} (hm : m < 2 ^ 64) : m = 0 ↔ bln m 64 = [] := by
  constructor
  · rintro rfl; unfold bln; simp
  · intro h
    apply Nat.eq_of_testBit_eq
    intro i
    rw [Nat.zero_testBit]
    by_cases hi : i < 64
    · cases hb : m.testBit i with
      | false => rfl
      | true =>
        have := (mem_bln (m := m) (n := 64)).2 ⟨hi, hb⟩
        rw [h] at this; cases this
    · exact Nat.testBit_lt_two_pow (Nat.lt_of_lt_of_le hm (Nat.pow_le_pow_right (by omega) (by omega)))

theorem bln_len (m : Nat) : ∀ n, (bln m n).length ≤ n
  | 0 => by simp [bln]
  | n + 1 => by
    have := bln_len m n
    cases hb : m.testBit n with
    | false => rw [bln_no hb]; omega
    | true => rw [bln_yes hb]; simp; omega

/-! How many bits. -/

/-- Bytes, the lowest first. -/
def vB : List Nat → Nat
  | [] => 0
  | b :: t => b + 256 * vB t

theorem and_byte (a b c d : Nat) (hb : b < 256) (hd : d < 256) : (b + 256 * a) &&& (d + 256 * c) = (b &&& d) + 256 * (a &&& c) := by
  have h1 : (b &&& d) < 2 ^ 8 := Nat.and_lt_two_pow _ hd
  apply Nat.eq_of_testBit_eq
  intro i
  rw [Nat.testBit_and, Nat.add_comm b, Nat.add_comm d, Nat.add_comm (b &&& d), show (256 : Nat) = 2 ^ 8 from rfl,
    Nat.testBit_two_pow_mul_add _ hb, Nat.testBit_two_pow_mul_add _ hd, Nat.testBit_two_pow_mul_add _ h1]
  split
  · rw [Nat.testBit_and]
  · rw [Nat.testBit_and]

theorem and_1 : ∀ q, q < 2 → ∀ r, r < 256 → (r / 2 + 128 * q) &&& 85 = (r / 2) &&& 85 := by decide +kernel
theorem and_2 : ∀ q, q < 4 → ∀ r, r < 256 → (r / 4 + 64 * q) &&& 51 = (r / 4) &&& 51 := by decide +kernel

def rep (d n : Nat) : List Nat := List.replicate n d

theorem sh_1 (B : List Nat) (h : ∀ b ∈ B, b < 256) : (vB B / 2 &&& vB (rep 85 B.length)) + (vB B &&& vB (rep 85 B.length)) = vB (B.map fun b => (b / 2 &&& 85) + (b &&& 85)) := by
  induction B with
  | nil => rfl
  | cons b t ih =>
    have hb := h b (by simp)
    have ih := ih (fun x hx => h x (by simp [hx]))
    simp only [rep, List.length_cons, List.replicate_succ, List.map_cons, vB] at ih ⊢
    generalize vB t = q at *
    generalize vB (List.replicate t.length 85) = M at *
    rw [← ih, and_byte _ _ _ _ hb (by omega)]
    have e : (b + 256 * q) / 2 = (b / 2 + 128 * (q % 2)) + 256 * (q / 2) := by omega
    rw [e, and_byte _ _ _ _ (by omega) (by omega), and_1 _ (by omega) _ hb]
    omega

theorem sh_2 (B : List Nat) (h : ∀ b ∈ B, b < 256) : (vB B / 4 &&& vB (rep 51 B.length)) + (vB B &&& vB (rep 51 B.length)) = vB (B.map fun b => (b / 4 &&& 51) + (b &&& 51)) := by
  induction B with
  | nil => rfl
  | cons b t ih =>
    have hb := h b (by simp)
    have ih := ih (fun x hx => h x (by simp [hx]))
    simp only [rep, List.length_cons, List.replicate_succ, List.map_cons, vB] at ih ⊢
    generalize vB t = q at *
    generalize vB (List.replicate t.length 51) = M at *
    rw [← ih, and_byte _ _ _ _ hb (by omega)]
    have e : (b + 256 * q) / 4 = (b / 4 + 64 * (q % 4)) + 256 * (q / 4) := by omega
    rw [e, and_byte _ _ _ _ (by omega) (by omega), and_2 _ (by omega) _ hb]
    omega

theorem and_4 : ∀ q, q < 5 → ∀ r, r < 69 → (r / 16 + 16 * q + r) &&& 15 = (r / 16 + r) &&& 15 := by decide +kernel

theorem sh_4 (B : List Nat) (h : ∀ b ∈ B, b < 69 ∧ b % 16 < 5) : ((vB B / 16 + vB B) &&& vB (rep 15 B.length)) = vB (B.map fun b => (b / 16 + b) &&& 15) := by
  induction B with
  | nil => rfl
  | cons b t ih =>
    have hb := h b (by simp)
    have hq : vB t % 16 < 5 := by
      cases t with
      | nil => simp [vB]
      | cons c s => have := h c (by simp); simp only [vB]; omega
    have ih := ih (fun x hx => h x (by simp [hx]))
    simp only [rep, List.length_cons, List.replicate_succ, List.map_cons, vB] at ih ⊢
    generalize vB t = q at *
    generalize vB (List.replicate t.length 15) = M at *
    rw [← ih]
    have e : (b + 256 * q) / 16 + (b + 256 * q) = (b / 16 + 16 * (q % 16) + b) + 256 * (q / 16 + q) := by omega
    rw [e, and_byte _ _ _ _ (by omega) (by omega), and_4 _ hq _ hb.1]

/-- How many bits of the first n are set. -/
def pcB (n m : Nat) : Nat := (bln m n).length

theorem pcB_byte (b q : Nat) (hb : b < 256) : ∀ n, pcB (8 + n) (b + 256 * q) = pcB 8 b + pcB n q := by
  have hbit : ∀ j, (b + 256 * q).testBit j = if j < 8 then b.testBit j else q.testBit (j - 8) := by
    intro j
    rw [Nat.add_comm b, show (256 : Nat) = 2 ^ 8 from rfl, Nat.testBit_two_pow_mul_add _ hb]
  intro n
  induction n with
  | zero =>
    unfold pcB bln
    rw [Nat.add_zero]
    have : (List.range 8).filter (b + 256 * q).testBit = (List.range 8).filter b.testBit := by
      apply List.filter_congr
      intro j hj
      rw [hbit, if_pos (by simpa using hj)]
    rw [this]; simp
  | succ n ih =>
    have e := hbit (8 + n)
    rw [if_neg (by omega), show 8 + n - 8 = n by omega] at e
    unfold pcB at ih ⊢
    rw [show 8 + (n + 1) = 8 + n + 1 by omega]
    cases hq : q.testBit n with
    | false => rw [bln_no (e.trans hq), bln_no hq]; exact ih
    | true => rw [bln_yes (e.trans hq), bln_yes hq]; simp only [List.length_append, List.length_singleton]; omega

/-- The first three rounds on a byte. -/
def p1 (b : Nat) : Nat := (b / 2 &&& 85) + (b &&& 85)
def p2 (b : Nat) : Nat := (b / 4 &&& 51) + (b &&& 51)
def p4 (b : Nat) : Nat := (b / 16 + b) &&& 15

theorem p_byte : ∀ b, b < 256 → p1 b < 256 ∧ p2 (p1 b) < 69 ∧ p2 (p1 b) % 16 < 5 ∧ p4 (p2 (p1 b)) = pcB 8 b ∧ pcB 8 b ≤ 8 := by decide +kernel

theorem vB_pc : ∀ (B : List Nat), (∀ b ∈ B, b < 256) → pcB (8 * B.length) (vB B) = (B.map (pcB 8)).sum
  | [], _ => by simp [pcB, bln]
  | b :: t, h => by
    rw [List.length_cons, show 8 * (t.length + 1) = 8 + 8 * t.length by omega, vB, pcB_byte _ _ (h b (by simp)), vB_pc t (fun x hx => h x (by simp [hx]))]
    simp

theorem vB_add (a s b t : Nat) : (a + 256 * s) + (b + 256 * t) = (a + b) + 256 * (s + t) := by omega

theorem vB_three (B : List Nat) (h : ∀ b ∈ B, b < 256) : ∃ C, C.length = B.length ∧ C = B.map (pcB 8) ∧
    (let x1 := (vB B / 2 &&& vB (rep 85 B.length)) + (vB B &&& vB (rep 85 B.length))
     let x2 := (x1 / 4 &&& vB (rep 51 B.length)) + (x1 &&& vB (rep 51 B.length))
     (x2 / 16 + x2) &&& vB (rep 15 B.length)) = vB C := by
  refine ⟨B.map (pcB 8), by simp, rfl, ?_⟩
  have h1 := sh_1 B h
  have h2 := sh_2 (B.map p1) (fun b hb => by obtain ⟨c, hc, rfl⟩ := List.mem_map.1 hb; exact (p_byte c (h c hc)).1)
  have h3 := sh_4 ((B.map p1).map p2) (fun b hb => by
    obtain ⟨c, hc, rfl⟩ := List.mem_map.1 hb
    obtain ⟨d, hd, rfl⟩ := List.mem_map.1 hc
    exact ⟨(p_byte d (h d hd)).2.1, (p_byte d (h d hd)).2.2.1⟩)
  rw [show (fun b => (b / 2 &&& 85) + (b &&& 85)) = p1 from rfl] at h1
  rw [show (fun b => (b / 4 &&& 51) + (b &&& 51)) = p2 from rfl, List.length_map] at h2
  rw [show (fun b => (b / 16 + b) &&& 15) = p4 from rfl, List.length_map, List.length_map] at h3
  show _ &&& _ = _
  simp only [h1, h2]
  rw [h3, List.map_map, List.map_map]
  congr 1
  apply List.map_congr_left
  intro b hb
  exact (p_byte b (h b hb)).2.2.2.1

/-- The last four rounds. -/
theorem vB_last (c0 c1 c2 c3 c4 c5 c6 c7 : Nat) (h : c0 ≤ 8 ∧ c1 ≤ 8 ∧ c2 ≤ 8 ∧ c3 ≤ 8 ∧ c4 ≤ 8 ∧ c5 ≤ 8 ∧ c6 ≤ 8 ∧ c7 ≤ 8) :
    let x3 := vB [c0, c1, c2, c3, c4, c5, c6, c7]
    let x4 := x3 + x3 / 256
    let x5 := x4 + x4 / 65536
    let x6 := x5 + x5 / 4294967296
    x6 % 128 = c0 + c1 + c2 + c3 + c4 + c5 + c6 + c7 ∧ x3 < 2 ^ 60 ∧ x4 < 2 ^ 61 ∧ x5 < 2 ^ 62 ∧ x6 < 2 ^ 63 := by
  intro x3 x4 x5 x6
  have d1 : ∀ a s, a < 256 → (a + 256 * s) / 256 = s := by intro a s ha; omega
  have e3 : x3 = c0 + 256 * (c1 + 256 * (c2 + 256 * (c3 + 256 * (c4 + 256 * (c5 + 256 * (c6 + 256 * c7)))))) := by
    show vB _ = _; simp only [vB]; omega
  have e3' : x3 / 256 = c1 + 256 * (c2 + 256 * (c3 + 256 * (c4 + 256 * (c5 + 256 * (c6 + 256 * c7))))) := by
    rw [e3, d1 _ _ (by omega)]
  have e4 : x4 = (c0 + c1) + 256 * ((c1 + c2) + 256 * ((c2 + c3) + 256 * ((c3 + c4) + 256 * ((c4 + c5) + 256 * ((c5 + c6) + 256 * ((c6 + c7) + 256 * c7)))))) := by
    show x3 + x3 / 256 = _
    rw [e3', e3]; omega
  have e4' : x4 / 65536 = (c2 + c3) + 256 * ((c3 + c4) + 256 * ((c4 + c5) + 256 * ((c5 + c6) + 256 * ((c6 + c7) + 256 * c7)))) := by
    rw [show (65536 : Nat) = 256 * 256 from rfl, ← Nat.div_div_eq_div_mul, e4, d1 _ _ (by omega), d1 _ _ (by omega)]
  have e5 : ∃ r, x5 = (c0 + c1 + c2 + c3) + 256 * ((c1 + c2 + c3 + c4) + 256 * ((c2 + c3 + c4 + c5) + 256 * ((c3 + c4 + c5 + c6) + 256 * ((c4 + c5 + c6 + c7) + 256 * r)))) ∧ r ≤ 32 + 256 * (32 + 256 * 32) := by
    refine ⟨(c5 + c6 + c7) + 256 * (c6 + c7 + 256 * c7), ?_, by omega⟩
    show x4 + x4 / 65536 = _
    rw [e4', e4]; omega
  obtain ⟨r, e5, hr⟩ := e5
  have e5' : x5 / 4294967296 = (c4 + c5 + c6 + c7) + 256 * r := by
    rw [show (4294967296 : Nat) = 256 * 256 * 256 * 256 from rfl, ← Nat.div_div_eq_div_mul, ← Nat.div_div_eq_div_mul, ← Nat.div_div_eq_div_mul, e5, d1 _ _ (by omega), d1 _ _ (by omega), d1 _ _ (by omega), d1 _ _ (by omega)]
  have e6 : x6 = (c0 + c1 + c2 + c3 + c4 + c5 + c6 + c7) + 256 * ((c1 + c2 + c3 + c4) + r + 256 * ((c2 + c3 + c4 + c5) + 256 * ((c3 + c4 + c5 + c6) + 256 * ((c4 + c5 + c6 + c7) + 256 * r)))) := by
    show x5 + x5 / 4294967296 = _
    rw [e5', e5]; omega
  refine ⟨by rw [e6]; omega, by rw [e3]; omega, by rw [e4]; omega, by rw [e5]; omega, by rw [e6]; omega⟩

theorem bytes_of (m : Nat) (hm : m < 2 ^ 64) : ∃ b0 b1 b2 b3 b4 b5 b6 b7, m = vB [b0, b1, b2, b3, b4, b5, b6, b7] ∧ (∀ b ∈ [b0, b1, b2, b3, b4, b5, b6, b7], b < 256) := by
  have s : ∀ x, x = x % 256 + 256 * (x / 256) := fun x => by omega
  refine ⟨m % 256, m / 256 % 256, m / 256 / 256 % 256, m / 256 / 256 / 256 % 256, m / 256 / 256 / 256 / 256 % 256, m / 256 / 256 / 256 / 256 / 256 % 256, m / 256 / 256 / 256 / 256 / 256 / 256 % 256, m / 256 / 256 / 256 / 256 / 256 / 256 / 256 % 256, ?_, ?_⟩
  · simp only [vB]
    omega
  · intro b hb
    simp only [List.mem_cons, List.not_mem_nil, or_false] at hb
    rcases hb with rfl | rfl | rfl | rfl | rfl | rfl | rfl | rfl <;> exact Nat.mod_lt _ (by omega)

theorem k85 : vB [85, 85, 85, 85, 85, 85, 85, 85] = 6148914691236517205 := by decide +kernel
theorem k51 : vB [51, 51, 51, 51, 51, 51, 51, 51] = 3689348814741910323 := by decide +kernel
theorem k15 : vB [15, 15, 15, 15, 15, 15, 15, 15] = 1085102592571150095 := by decide +kernel

/-- What package bits reckons is how many bits are set. -/
theorem ones_is (m : Nat) (hm : m < 2 ^ 64) :
    let x1 := (m / 2 &&& 6148914691236517205) + (m &&& 6148914691236517205)
    let x2 := (x1 / 4 &&& 3689348814741910323) + (x1 &&& 3689348814741910323)
    let x3 := (x2 / 16 + x2) &&& 1085102592571150095
    let x4 := x3 + x3 / 256
    let x5 := x4 + x4 / 65536
    let x6 := x5 + x5 / 4294967296
    x6 % 128 = (bln m 64).length ∧ x3 < 2 ^ 60 ∧ x4 < 2 ^ 61 ∧ x5 < 2 ^ 62 ∧ x6 < 2 ^ 63 := by
  obtain ⟨b0, b1, b2, b3, b4, b5, b6, b7, rfl, hb⟩ := bytes_of m hm
  obtain ⟨C, -, rfl, h3⟩ := vB_three [b0, b1, b2, b3, b4, b5, b6, b7] hb
  have hpc := vB_pc [b0, b1, b2, b3, b4, b5, b6, b7] hb
  have k8 : ∀ b ∈ [b0, b1, b2, b3, b4, b5, b6, b7], pcB 8 b ≤ 8 := fun b h => (p_byte b (hb b h)).2.2.2.2
  have hl := vB_last (pcB 8 b0) (pcB 8 b1) (pcB 8 b2) (pcB 8 b3) (pcB 8 b4) (pcB 8 b5) (pcB 8 b6) (pcB 8 b7) ⟨k8 _ (by simp), k8 _ (by simp), k8 _ (by simp), k8 _ (by simp), k8 _ (by simp), k8 _ (by simp), k8 _ (by simp), k8 _ (by simp)⟩
  rw [show rep 85 [b0, b1, b2, b3, b4, b5, b6, b7].length = [85, 85, 85, 85, 85, 85, 85, 85] from rfl, show rep 51 [b0, b1, b2, b3, b4, b5, b6, b7].length = [51, 51, 51, 51, 51, 51, 51, 51] from rfl, show rep 15 [b0, b1, b2, b3, b4, b5, b6, b7].length = [15, 15, 15, 15, 15, 15, 15, 15] from rfl, k85, k51, k15] at h3
  simp only [List.map_cons, List.map_nil] at h3 hpc
  generalize vB [b0, b1, b2, b3, b4, b5, b6, b7] = m at *
  generalize vB [pcB 8 b0, pcB 8 b1, pcB 8 b2, pcB 8 b3, pcB 8 b4, pcB 8 b5, pcB 8 b6, pcB 8 b7] = y at *
  intro x1 x2 x3
  have e3 : x3 = y := h3
  rw [e3]
  intro x4 x5 x6
  refine ⟨?_, hl.2⟩
  rw [hl.1]
  have : (bln m 64).length = pcB (8 * [b0, b1, b2, b3, b4, b5, b6, b7].length) m := rfl
  rw [this, hpc]
  simp only [List.sum_cons, List.sum_nil]
  omega

end Go.Proofs.YtdmlamnonbmboaaGreatDoor
