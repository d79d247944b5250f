/-
  A board behind a move, as a list and as three sets; the places of a set in their order. No conditions beyond those that each theorem bears.
-/
import Derived.Test.YtkmghlmniahgbaaDoorOs
namespace Go.Proofs.YtkmghlmniahgbaaDoor

/-- Two rising lists with the same members are one. -/
theorem rise_eq : ∀ (l r : List Nat), l.Pairwise (· < ·) → r.Pairwise (· < ·) → (∀ x, x ∈ l ↔ x ∈ r) → l = r
  | [], [], _, _, _ => rfl
  | [], b :: r, _, _, h => absurd ((h b).2 (by simp)) (by simp)
  | a :: l, [], _, _, h => absurd ((h a).1 (by simp)) (by simp)
  | a :: l, b :: r, h1, h2, h => by
    rw [List.pairwise_cons] at h1 h2
    have hab : a = b := by
      have ha := (h a).1 (by simp)
      have hb := (h b).2 (by simp)
      rcases List.mem_cons.1 ha with e | ha
      · exact e
      · rcases List.mem_cons.1 hb with e | hb
        · exact e.symm
        · have := h1.1 b hb
          have := h2.1 a ha
          omega
    subst hab
    have := rise_eq l r h1.2 h2.2 (fun x => by
      constructor
      · intro hx
        rcases List.mem_cons.1 ((h x).1 (by simp [hx])) with e | e
        · subst e; have := h1.1 x hx; omega
        · exact e
      · intro hx
        rcases List.mem_cons.1 ((h x).2 (by simp [hx])) with e | e
        · subst e; have := h2.1 x hx; omega
        · exact e)
    rw [this]

theorem bln_rise (m n : Nat) : (bln m n).Pairwise (· < ·) := List.Pairwise.sublist List.filter_sublist List.pairwise_lt_range

/-- A bit's number on a board of that width. -/
def num (W i : Nat) : Nat := i / 8 * W + i % 8

/-- The places of a set, in their order. -/
theorem places_of {W H S : Nat} (hW : 1 ≤ W ∧ W ≤ 8) (hH : H ≤ 8) (hS : ∀ x y, bt S x y = true → onB W H x y = true) :
    (bln S 64).map (num W) = (List.range (W * H)).filter fun p => bt S ((p % W : Nat) : Int) ((p / W : Nat) : Int) := by
  have hon : ∀ i, i ∈ bln S 64 → i < 64 ∧ i % 8 < W ∧ i / 8 < H := by
    intro i hi
    obtain ⟨h1, h2⟩ := mem_bln.1 hi
    have := hS _ _ (show bt S ((i % 8 : Nat) : Int) ((i / 8 : Nat) : Int) = true by rw [bt_nat h1]; exact h2)
    rw [onB_iff] at this
    omega
  apply rise_eq
  · rw [List.pairwise_map]
    refine List.Pairwise.imp_of_mem ?_ (bln_rise S 64)
    intro a b ha hb hab
    obtain ⟨a1, a2, a3⟩ := hon a ha
    obtain ⟨b1, b2, b3⟩ := hon b hb
    unfold num
    by_cases e : a / 8 = b / 8
    · rw [e]; omega
    · have h1 : (a / 8 + 1) * W ≤ b / 8 * W := Nat.mul_le_mul_right W (by omega)
      rw [Nat.add_mul, Nat.one_mul] at h1
      omega
  · exact List.Pairwise.sublist List.filter_sublist List.pairwise_lt_range
  · intro p
    rw [List.mem_map, List.mem_filter, List.mem_range]
    constructor
    · rintro ⟨i, hi, rfl⟩
      obtain ⟨a1, a2, a3⟩ := hon i hi
      obtain ⟨e1, e2⟩ := place_of (W := W) (x := i % 8) (y := i / 8) a2
      unfold num
      refine ⟨?_, ?_⟩
      · have h1 : (i / 8 + 1) * W ≤ H * W := Nat.mul_le_mul_right W (by omega)
        rw [Nat.add_mul, Nat.one_mul, Nat.mul_comm H W] at h1
        omega
      · rw [e1, e2, bt_nat a1]; exact (mem_bln.1 hi).2
    · rintro ⟨h1, h2⟩
      have hx : p % W < W := Nat.mod_lt _ (by omega)
      have hy : p / W < H := Nat.div_lt_of_lt_mul h1
      have hdm := Nat.div_add_mod p W
      refine ⟨p / W * 8 + p % W, ?_, ?_⟩
      · rw [mem_bln]
        refine ⟨by omega, ?_⟩
        have := bt_nat (p := S) (i := p / W * 8 + p % W) (by omega)
        rw [← this, show (p / W * 8 + p % W) % 8 = p % W by omega, show (p / W * 8 + p % W) / 8 = p / W by omega]
        exact h2
      · unfold num
        rw [show (p / W * 8 + p % W) % 8 = p % W by omega, show (p / W * 8 + p % W) / 8 = p / W by omega, Nat.mul_comm]
        exact hdm

/-- Where a player may put a sign, in their order. -/
def sps (W H : Nat) (Z : List Int) (m : Nat) : List Nat := (List.range (W * H)).filter fun p => lg (cl W H Z) (m : Int) ((p % W : Nat) : Int) ((p / W : Nat) : Int)

theorem mvS_bt {W H : Nat} (hW : W ≤ 8) (hH : H ≤ 8) (Z : List Int) (m : Nat) (x y : Int) : bt (mvS W H Z m) x y = lg (cl W H Z) (m : Int) x y := by
  unfold mvS
  rw [setOf_bt]
  cases hl : lg (cl W H Z) (m : Int) x y with
  | false => simp
  | true =>
    have := cl_onC hW hH Z x y (by rw [(lg_iff.1 hl).1]; omega)
    rw [this]; rfl

theorem mvS_places {W H : Nat} (hW : 1 ≤ W ∧ W ≤ 8) (hH : H ≤ 8) (Z : List Int) (m : Nat) : (bln (mvS W H Z m) 64).map (num W) = sps W H Z m := by
  rw [places_of hW hH (fun x y h => by
    rw [mvS_bt hW.2 hH] at h
    exact cl_on (v := 0) (by omega) (lg_iff.1 h).1)]
  unfold sps
  apply List.filter_congr
  intro p _
  rw [mvS_bt hW.2 hH]

theorem mvS_zero {W H : Nat} (hW : 1 ≤ W ∧ W ≤ 8) (hH : H ≤ 8) (Z : List Int) (m : Nat) : mvS W H Z m = 0 ↔ sps W H Z m = [] := by
  rw [← mvS_places hW hH, List.map_eq_nil_iff]
  exact bln_zero_iff (mvS_lt W H Z m)

/-- The board behind a sign put at p. -/
def pz (W H : Nat) (Z : List Int) (m p : Nat) : List Int := (List.range (W * H)).map fun k => if k = p ∨ tn (cl W H Z) (m : Int) ((p % W : Nat) : Int) ((p / W : Nat) : Int) ((k % W : Nat) : Int) ((k / W : Nat) : Int) = true then (m : Int) else Z.getD k 0

theorem pz_len (W H : Nat) (Z : List Int) (m p : Nat) : (pz W H Z m p).length = W * H := by unfold pz; simp

theorem pz_at {W H : Nat} {Z : List Int} {m p k : Nat} (hk : k < W * H) : (pz W H Z m p).getD k 0 = if k = p ∨ tn (cl W H Z) (m : Int) ((p % W : Nat) : Int) ((p / W : Nat) : Int) ((k % W : Nat) : Int) ((k / W : Nat) : Int) = true then (m : Int) else Z.getD k 0 := by
  unfold pz
  simp [List.getD, hk]

theorem onB_place {W H : Nat} {x y : Int} (h : onB W H x y = true) : ∃ k : Nat, k < W * H ∧ x = ((k % W : Nat) : Int) ∧ y = ((k / W : Nat) : Int) := by
  rw [onB_iff] at h
  obtain ⟨a, rfl⟩ := Int.eq_ofNat_of_zero_le h.1
  obtain ⟨b, rfl⟩ := Int.eq_ofNat_of_zero_le h.2.2.1
  have ha : a < W := by omega
  have hb : b < H := by omega
  obtain ⟨e1, e2⟩ := place_of (W := W) (x := a) (y := b) ha
  refine ⟨b * W + a, ?_, by rw [e1], by rw [e2]⟩
  have h1 : (b + 1) * W ≤ H * W := Nat.mul_le_mul_right W (by omega)
  rw [Nat.add_mul, Nat.one_mul, Nat.mul_comm H W] at h1
  omega

theorem on8_of {W H : Nat} (hW : W ≤ 8) (hH : H ≤ 8) {x y : Int} (h : onB W H x y = true) : onB 8 8 x y = true := by
  rw [onB_iff] at *; omega

theorem cl_pz {W H : Nat} {Z : List Int} {m p : Nat} (hW : 1 ≤ W ∧ W ≤ 8) (hH : H ≤ 8) (hm : m = 1 ∨ m = 2) (hp : p < W * H) (x y : Int) :
    cl W H (pz W H Z m p) x y = if (x = ((p % W : Nat) : Int) ∧ y = ((p / W : Nat) : Int)) ∨ tn (cl W H Z) (m : Int) ((p % W : Nat) : Int) ((p / W : Nat) : Int) x y = true then (m : Int) else cl W H Z x y := by
  obtain ⟨-, hpb⟩ := cl_at (zs := Z) (show 0 < W by omega) hp
  have hp8 := on8_of hW.2 hH hpb
  by_cases hb : onB W H x y = true
  · obtain ⟨k, hk, rfl, rfl⟩ := onB_place hb
    obtain ⟨e1, -⟩ := cl_at (zs := pz W H Z m p) (show 0 < W by omega) hk
    obtain ⟨e2, -⟩ := cl_at (zs := Z) (show 0 < W by omega) hk
    rw [e1, e2, pz_at hk]
    have : (((k % W : Nat) : Int) = ((p % W : Nat) : Int) ∧ ((k / W : Nat) : Int) = ((p / W : Nat) : Int)) ↔ k = p := by
      constructor
      · rintro ⟨h1, h2⟩
        have a := Nat.div_add_mod k W
        have b := Nat.div_add_mod p W
        have h1' : k % W = p % W := by omega
        have h2' : k / W = p / W := by omega
        rw [← a, ← b, h1', h2']
      · rintro rfl; exact ⟨rfl, rfl⟩
    simp only [this]
  · have hz : cl W H (pz W H Z m p) x y = -1 ∧ cl W H Z x y = -1 := by unfold cl; rw [if_neg hb, if_neg hb]; exact ⟨rfl, rfl⟩
    rw [hz.1, hz.2, if_neg]
    rintro (⟨rfl, rfl⟩ | ht)
    · exact hb hpb
    · have := tn_other (cl_onC hW.2 hH Z) (by omega) hp8 ht
      omega

theorem pz_may {W H : Nat} {Z : List Int} {m p : Nat} (hm : m = 1 ∨ m = 2) (hZ : ∀ z, z ∈ Z → 0 ≤ z ∧ z ≤ 2) : ∀ z, z ∈ pz W H Z m p → 0 ≤ z ∧ z ≤ 2 := by
  intro z hz
  unfold pz at hz
  obtain ⟨k, _, rfl⟩ := List.mem_map.1 hz
  split
  · omega
  · by_cases hk : k < Z.length
    · exact hZ _ (by simp [List.getD, hk])
    · simp [List.getD, Nat.le_of_not_lt hk]

theorem other_int {m : Nat} (hm : m = 1 ∨ m = 2) : ((3 - m : Nat) : Int) = 3 - (m : Int) := by omega

/-- The three sets behind a move, as the other sees them. -/
theorem put_sets {W H : Nat} {Z : List Int} {m p : Nat} (hW : 1 ≤ W ∧ W ≤ 8) (hH : H ≤ 8) (hm : m = 1 ∨ m = 2) (hp : p < W * H) (h0 : Z.getD p 0 = 0) :
    so W H Z (3 - m) &&& (18446744073709551615 - tnS W H Z m ((p % W : Nat) : Int) ((p / W : Nat) : Int)) = so W H (pz W H Z m p) (3 - m) ∧
    so W H Z m ||| tnS W H Z m ((p % W : Nat) : Int) ((p / W : Nat) : Int) ||| bv ((p % W : Nat) : Int) ((p / W : Nat) : Int) = so W H (pz W H Z m p) m ∧
    so W H Z 0 &&& (18446744073709551615 - bv ((p % W : Nat) : Int) ((p / W : Nat) : Int)) = so W H (pz W H Z m p) 0 := by
  obtain ⟨hpc, hpb⟩ := cl_at (zs := Z) (show 0 < W by omega) hp
  rw [h0] at hpc
  have hp8 := on8_of hW.2 hH hpb
  have hc := cl_onC hW.2 hH Z
  have htb : ∀ x y, bt (tnS W H Z m ((p % W : Nat) : Int) ((p / W : Nat) : Int)) x y = true ↔ tn (cl W H Z) (m : Int) ((p % W : Nat) : Int) ((p / W : Nat) : Int) x y = true := by
    intro x y
    unfold tnS
    rw [setOf_bt, Bool.and_eq_true]
    constructor
    · exact fun h => h.2
    · intro h
      exact ⟨hc x y (by rw [tn_other hc (by omega) hp8 h]; omega), h⟩
  have hto := fun x y (h : tn (cl W H Z) (m : Int) ((p % W : Nat) : Int) ((p / W : Nat) : Int) x y = true) => tn_other hc (by omega) hp8 h
  refine ⟨?_, ?_, ?_⟩
  · refine bt_ext (Nat.lt_of_le_of_lt Nat.and_le_left (so_lt _ _ _ _)) (so_lt _ _ _ _) fun x y => ?_
    rw [bt_andNot (tnS_lt _ _ _ _ _ _), Bool.eq_iff_iff, Bool.and_eq_true, Bool.not_eq_true', so_bt hW.2 hH, so_bt hW.2 hH, cl_pz hW hH hm hp, other_int hm]
    by_cases ht : tn (cl W H Z) (m : Int) ((p % W : Nat) : Int) ((p / W : Nat) : Int) x y = true
    · rw [if_pos (Or.inr ht), (htb x y).2 ht]; constructor
      · rintro ⟨_, h⟩; cases h
      · intro h; omega
    · have hf : bt (tnS W H Z m ((p % W : Nat) : Int) ((p / W : Nat) : Int)) x y = false := by
        cases hb : bt (tnS W H Z m ((p % W : Nat) : Int) ((p / W : Nat) : Int)) x y with
        | false => rfl
        | true => exact absurd ((htb x y).1 hb) ht
      rw [hf]
      by_cases hxy : x = ((p % W : Nat) : Int) ∧ y = ((p / W : Nat) : Int)
      · rw [if_pos (Or.inl hxy), hxy.1, hxy.2, hpc]; omega
      · rw [if_neg (by rintro (h | h) <;> contradiction)]; simp
  · refine bt_ext (Nat.or_lt_two_pow (Nat.or_lt_two_pow (so_lt _ _ _ _) (tnS_lt _ _ _ _ _ _)) (bv_lt _ _)) (so_lt _ _ _ _) fun x y => ?_
    rw [bt_or, bt_or, Bool.eq_iff_iff, Bool.or_eq_true, Bool.or_eq_true, so_bt hW.2 hH, so_bt hW.2 hH, cl_pz hW hH hm hp, htb, bv_bit, hp8, Bool.true_and, Bool.and_eq_true, decide_eq_true_eq, decide_eq_true_eq]
    split
    · rename_i h
      constructor
      · intro _; rfl
      · intro _; rcases h with h | h
        · exact Or.inr h
        · exact Or.inl (Or.inr h)
    · rename_i h
      constructor
      · rintro ((h1 | h1) | h1)
        · exact h1
        · exact absurd (Or.inr h1) h
        · exact absurd (Or.inl h1) h
      · intro h1; exact Or.inl (Or.inl h1)
  · refine bt_ext (Nat.lt_of_le_of_lt Nat.and_le_left (so_lt _ _ _ _)) (so_lt _ _ _ _) fun x y => ?_
    rw [bt_andNot (bv_lt _ _), Bool.eq_iff_iff, Bool.and_eq_true, Bool.not_eq_true', so_bt hW.2 hH, so_bt hW.2 hH, cl_pz hW hH hm hp, bv_bit, hp8, Bool.true_and]
    by_cases hxy : x = ((p % W : Nat) : Int) ∧ y = ((p / W : Nat) : Int)
    · rw [if_pos (Or.inl hxy), hxy.1, hxy.2]; simp; omega
    · have hf : (decide (x = ((p % W : Nat) : Int)) && decide (y = ((p / W : Nat) : Int))) = false := by
        simp only [Bool.and_eq_false_iff, decide_eq_false_iff_not]; omega
      rw [hf]
      by_cases ht : tn (cl W H Z) (m : Int) ((p % W : Nat) : Int) ((p / W : Nat) : Int) x y = true
      · rw [if_pos (Or.inr ht), hto x y ht]; simp; omega
      · rw [if_neg (by rintro (h | h) <;> contradiction)]; simp

/-- How many signs of a kind. -/
theorem so_count {W H : Nat} {Z : List Int} (hW : 1 ≤ W ∧ W ≤ 8) (hH : H ≤ 8) (v : Nat) : (bln (so W H Z v) 64).length = ((List.range (W * H)).filter fun k => decide (Z.getD k 0 = (v : Int))).length := by
  have h := places_of (W := W) (H := H) (S := so W H Z v) hW hH (fun x y h => by
    rw [so_bt hW.2 hH] at h
    exact cl_on (v := (v : Int)) (by omega) h)
  have h2 := congrArg List.length h
  rw [List.length_map] at h2
  rw [h2]
  congr 1
  apply List.filter_congr
  intro k hk
  obtain ⟨e, -⟩ := cl_at (zs := Z) (show 0 < W by omega) (List.mem_range.1 hk)
  rw [Bool.eq_iff_iff, so_bt hW.2 hH, e]
  simp

end Go.Proofs.YtkmghlmniahgbaaDoor
