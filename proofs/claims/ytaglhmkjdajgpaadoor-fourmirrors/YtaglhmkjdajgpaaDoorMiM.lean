/-
  Mirrored boards: the same rows, the same drops, the same value; a threat that a sign can fall to wins. No conditions beyond those that each theorem bears.
-/
import Derived.Test.YtaglhmkjdajgpaaDoorBestsLaw
import Derived.Test.YtaglhmkjdajgpaaDoorDp3
namespace Go.Proofs.YtaglhmkjdajgpaaDoor

/-- The mirrored place. -/
def mir (W i : Nat) : Nat := i / W * W + (W - 1 - i % W)

def mirL (W : Nat) (Z : List Int) : List Int := (List.range Z.length).map fun i => Z.getD (mir W i) 0

theorem mir_mod {W i : Nat} (hW : 0 < W) : mir W i % W = W - 1 - i % W ∧ mir W i / W = i / W := by
  have := Nat.mod_lt i hW
  exact place_of (W := W) (y := i / W) (x := W - 1 - i % W) (by omega)

theorem mir_mir {W i : Nat} (hW : 0 < W) : mir W (mir W i) = i := by
  obtain ⟨h1, h2⟩ := mir_mod (i := i) hW
  have h3 := Nat.mod_lt i hW
  have h4 := Nat.div_add_mod i W
  unfold mir at h1 h2 ⊢
  rw [h1, h2]
  rw [Nat.mul_comm] at h4
  omega

theorem mir_lt {W H i : Nat} (hW : 0 < W) (hi : i < W * H) : mir W i < W * H := by
  have h1 : i / W < H := Nat.div_lt_of_lt_mul hi
  have h2 : (i / W + 1) * W ≤ H * W := Nat.mul_le_mul_right _ h1
  rw [Nat.succ_mul] at h2
  have h3 := Nat.mod_lt i hW
  unfold mir
  rw [Nat.mul_comm W H]
  omega

theorem mir_row (W y c : Nat) (hc : c < W) : mir W (y * W + c) = y * W + (W - 1 - c) := by
  obtain ⟨h1, h2⟩ := place_of (W := W) (y := y) hc
  unfold mir
  rw [h1, h2]

theorem mirL_len (W : Nat) (Z : List Int) : (mirL W Z).length = Z.length := by simp [mirL]

theorem mirL_getD {W i : Nat} {Z : List Int} (hi : i < Z.length) : (mirL W Z).getD i 0 = Z.getD (mir W i) 0 := by
  simp [mirL, List.getD, hi]

theorem mirL_set {W H p : Nat} {Z : List Int} {x : Int} (hW : 0 < W) (hl : Z.length = W * H) (hp : p < W * H) : mirL W (Z.set p x) = (mirL W Z).set (mir W p) x := by
  apply List.ext_getElem (by simp [mirL_len])
  intro i h1 h2
  rw [mirL_len, List.length_set, hl] at h1
  have e1 : (mirL W (Z.set p x))[i] = (mirL W (Z.set p x)).getD i 0 := by simp [List.getD, mirL_len, hl, h1]
  have e2 : ((mirL W Z).set (mir W p) x)[i] = ((mirL W Z).set (mir W p) x).getD i 0 := by simp [List.getD, mirL_len, hl, h1]
  rw [e1, e2, mirL_getD (by rw [List.length_set, hl]; exact h1)]
  by_cases e : mir W p = i
  · subst e
    rw [mir_mir hW, getD_set_same (by rw [hl]; exact hp), getD_set_same (by rw [mirL_len, hl]; exact mir_lt hW hp)]
  · rw [getD_set_other e, mirL_getD (by rw [hl]; exact h1), getD_set_other (fun h => e (by rw [h, mir_mir hW]))]

theorem mirL_ok {W H : Nat} {Z : List Int} (hW : 0 < W) (h : Zok (W * H) Z) : Zok (W * H) (mirL W Z) := by
  refine ⟨by rw [mirL_len]; exact h.1, fun i hi => ?_⟩
  rw [mirL_getD (by rw [h.1]; exact hi)]
  exact h.2 _ (mir_lt hW hi)

theorem cl_mir {W H : Nat} {Z : List Int} (hl : Z.length = W * H) (x y : Int) : cl W H (mirL W Z) x y = cl W H Z ((W : Int) - 1 - x) y := by
  unfold cl
  by_cases hb : onB W H x y = true
  · have hb2 : onB W H ((W : Int) - 1 - x) y = true := by rw [onB_iff] at hb ⊢; omega
    rw [if_pos hb, if_pos hb2]
    rw [onB_iff] at hb
    obtain ⟨a, rfl⟩ := Int.eq_ofNat_of_zero_le hb.1
    obtain ⟨b, rfl⟩ := Int.eq_ofNat_of_zero_le hb.2.2.1
    have ha : a < W := by omega
    have hbH : b < H := by omega
    have e1 : ((b : Int) * W + (a : Int)).toNat = b * W + a := by rw [← Int.natCast_mul, ← Int.natCast_add, Int.toNat_natCast]
    have e2 : ((b : Int) * W + ((W : Int) - 1 - (a : Int))).toNat = b * W + (W - 1 - a) := by
      rw [show (W : Int) - 1 - (a : Int) = ((W - 1 - a : Nat) : Int) by omega, ← Int.natCast_mul, ← Int.natCast_add, Int.toNat_natCast]
    have h3 : (b + 1) * W ≤ H * W := Nat.mul_le_mul_right _ hbH
    rw [Nat.succ_mul] at h3
    rw [e1, e2, mirL_getD (by rw [hl, Nat.mul_comm W H]; omega), mir_row W b a ha]
  · have hb2 : ¬ onB W H ((W : Int) - 1 - x) y = true := by rw [onB_iff] at hb ⊢; omega
    rw [if_neg hb, if_neg hb2]

theorem al_mir {W H p : Nat} {Z : List Int} {dx dy : Int} (hW : 0 < W) (hl : Z.length = W * H) (hp : p < W * H) (hd : Dir dx dy) (hd2 : Dir (-dx) dy) (hv : 0 ≤ Z.getD p 0) : al W H (mirL W Z) (mir W p) dx dy = al W H Z p (-dx) dy := by
  have hg : (mirL W Z).getD (mir W p) 0 = Z.getD p 0 := by rw [mirL_getD (by rw [hl]; exact mir_lt hW hp), mir_mir hW]
  obtain ⟨m1, m2⟩ := mir_mod (i := p) hW
  have hpm := Nat.mod_lt p hW
  have key : ∀ t, t ≤ al W H (mirL W Z) (mir W p) dx dy ↔ t ≤ al W H Z p (-dx) dy := by
    intro t
    rw [al_spec hd (by rw [hg]; exact hv), al_spec hd2 hv, hg, m1, m2]
    constructor
    · intro h j h1 h2
      have := h j h1 h2
      rw [cl_mir hl] at this
      rw [← this]
      congr 1
      rw [Int.mul_neg]
      omega
    · intro h j h1 h2
      have := h j h1 h2
      rw [cl_mir hl, ← this]
      congr 1
      rw [Int.mul_neg]
      omega
  exact Nat.le_antisymm ((key _).1 (Nat.le_refl _)) ((key _).2 (Nat.le_refl _))

theorem inR_eqs (W H : Nat) (Z : List Int) (p k : Nat) : inR W H Z p k = (decide (k ≤ 1 + al W H Z p 1 0 + al W H Z p (-1) 0) || (decide (k ≤ 1 + al W H Z p 0 1 + al W H Z p 0 (-1)) || (decide (k ≤ 1 + al W H Z p 1 1 + al W H Z p (-1) (-1)) || decide (k ≤ 1 + al W H Z p (-1) 1 + al W H Z p 1 (-1))))) := by
  unfold inR dirs
  simp only [List.any_cons, List.any_nil, Bool.or_false]
  rfl

theorem inR_mir {W H p k : Nat} {Z : List Int} (hW : 0 < W) (hl : Z.length = W * H) (hp : p < W * H) (hv : 0 ≤ Z.getD p 0) : inR W H (mirL W Z) (mir W p) k = inR W H Z p k := by
  have d10 : Dir 1 0 := ⟨by simp, by simp, by simp⟩
  have d10' : Dir (-1) 0 := ⟨by simp, by simp, by simp⟩
  have d01 : Dir 0 1 := ⟨by simp, by simp, by simp⟩
  have d01' : Dir 0 (-1) := ⟨by simp, by simp, by simp⟩
  have d11 : Dir 1 1 := ⟨by simp, by simp, by simp⟩
  have d11' : Dir (-1) (-1) := ⟨by simp, by simp, by simp⟩
  have dm1 : Dir (-1) 1 := ⟨by simp, by simp, by simp⟩
  have dm1' : Dir 1 (-1) := ⟨by simp, by simp, by simp⟩
  have a1 := al_mir hW hl hp d10 (by simpa using d10') hv
  have a2 := al_mir hW hl hp d10' (by simpa using d10) hv
  have a3 := al_mir hW hl hp d01 (by simpa using d01) hv
  have a4 := al_mir hW hl hp d01' (by simpa using d01') hv
  have a5 := al_mir hW hl hp d11 (by simpa using dm1) hv
  have a6 := al_mir hW hl hp d11' (by simpa using dm1') hv
  have a7 := al_mir hW hl hp dm1 (by simpa using d11) hv
  have a8 := al_mir hW hl hp dm1' (by simpa using d11') hv
  simp only [Int.neg_neg, Int.neg_zero] at a1 a2 a3 a4 a5 a6 a7 a8
  rw [inR_eqs, inR_eqs, a1, a2, a3, a4, a5, a6, a7, a8]
  rw [Nat.add_right_comm 1 (al W H Z p (-1) 0)]
  congr 2
  rw [Bool.or_comm]

theorem fallN_mir {W H c : Nat} {Z : List Int} (hl : Z.length = W * H) (hc : c < W) : ∀ y, y ≤ H → fallN W (mirL W Z) (W - 1 - c) y = (fallN W Z c y).map (mir W)
  | 0, _ => rfl
  | y + 1, hy => by
    have ih := fallN_mir hl hc y (by omega)
    have h3 : (y + 1) * W ≤ H * W := Nat.mul_le_mul_right _ hy
    rw [Nat.succ_mul] at h3
    have hg : (mirL W Z).getD (y * W + (W - 1 - c)) 0 = Z.getD (y * W + c) 0 := by
      rw [mirL_getD (by rw [hl, Nat.mul_comm W H]; omega), mir_row W y (W - 1 - c) (by omega), show W - 1 - (W - 1 - c) = c by omega]
    by_cases e : Z.getD (y * W + c) 0 = 0
    · rw [fallN_hit (by rw [hg]; exact e), fallN_hit e, Option.map_some, mir_row W y c hc]
    · rw [fallN_miss (by rw [hg]; exact e), fallN_miss e, ih]

theorem wnZ_mir {W H k : Nat} {Z : List Int} (hW : 0 < W) (hz : Zok (W * H) Z) : wnZ W H k (mirL W Z) = wnZ W H k Z := by
  have key : ∀ v : Int, v ∈ sg (mirL W Z) (prt W H (mirL W Z) k (W * H)) ↔ v ∈ sg Z (prt W H Z k (W * H)) := by
    intro v
    unfold sg
    rw [List.mem_map, List.mem_map]
    constructor
    · rintro ⟨q, hq, rfl⟩
      obtain ⟨h1, h2, h3⟩ := mem_prt.1 hq
      have hm := mir_lt hW h1
      rw [mirL_getD (by rw [hz.1]; exact h1)] at h2 ⊢
      refine ⟨mir W q, mem_prt.2 ⟨hm, h2, ?_⟩, rfl⟩
      rw [← inR_mir hW hz.1 hm (hz.2 _ hm).1, mir_mir hW]
      exact h3
    · rintro ⟨q, hq, rfl⟩
      obtain ⟨h1, h2, h3⟩ := mem_prt.1 hq
      have hm := mir_lt hW h1
      have hg : (mirL W Z).getD (mir W q) 0 = Z.getD q 0 := by rw [mirL_getD (by rw [hz.1]; exact hm), mir_mir hW]
      refine ⟨mir W q, mem_prt.2 ⟨hm, by rw [hg]; exact h2, ?_⟩, hg⟩
      rw [inR_mir hW hz.1 h1 (hz.2 _ h1).1]
      exact h3
  unfold wnZ wn
  simp only [key]

theorem mvO_mir {W H : Nat} {Z : List Int} (hW : 0 < W) (hl : Z.length = W * H) : mvO (mirL W Z) = mvO Z := by
  have hperm : ((List.range (W * H)).map (mir W)).Perm (List.range (W * H)) := by
    refine (List.perm_ext_iff_of_nodup ?_ List.nodup_range).2 (fun a => ?_)
    · refine List.pairwise_map.2 (List.nodup_range.imp (fun h e => h ?_))
      have := congrArg (mir W) e
      rwa [mir_mir hW, mir_mir hW] at this
    · rw [List.mem_map, List.mem_range]
      constructor
      · rintro ⟨q, hq, rfl⟩; exact mir_lt hW (List.mem_range.1 hq)
      · intro ha; exact ⟨mir W a, List.mem_range.2 (mir_lt hW ha), mir_mir hW⟩
  have hZ : Z = (List.range (W * H)).map fun i => Z.getD i 0 := by
    apply List.ext_getElem (by simp [hl])
    intro i h1 h2
    simp [List.getD, h1]
  have hp2 : (mirL W Z).Perm Z := by
    have h := hperm.map (fun i => Z.getD i 0)
    rw [List.map_map, ← hZ] at h
    unfold mirL
    rw [hl]
    exact h
  have hc : ∀ v : Int, cnt (mirL W Z) v (mirL W Z).length = cnt Z v Z.length := by
    intro v
    unfold cnt
    rw [List.take_length, List.take_length]
    exact (hp2.filter _).length_eq
  unfold mvO
  rw [hc 1, hc 2]

theorem hng_iff {W : Nat} {Z : List Int} : hng W Z = false ↔ ∀ i, i + W < Z.length → Z.getD i 0 ≠ 0 → Z.getD (i + W) 0 ≠ 0 := by
  unfold hng hngJ
  rw [List.any_eq_false]
  constructor
  · intro h i hi h1 h2
    have := h i (List.mem_range.2 (by omega))
    simp only [Bool.and_eq_true, bne_iff_ne, beq_iff_eq] at this
    exact this ⟨h1, h2⟩
  · intro h i hi
    rw [List.mem_range] at hi
    simp only [Bool.and_eq_true, bne_iff_ne, beq_iff_eq]
    exact fun ⟨h1, h2⟩ => h i (by omega) h1 h2

theorem mir_add (W i : Nat) (hW : 0 < W) : mir W (i + W) = mir W i + W := by
  unfold mir
  rw [Nat.add_mod_right, Nat.add_div_right _ hW, Nat.succ_mul]
  omega

theorem hng_mir {W H : Nat} {Z : List Int} (hW : 0 < W) (hl : Z.length = W * H) (h : hng W Z = false) : hng W (mirL W Z) = false := by
  rw [hng_iff] at h ⊢
  intro i hi h1
  rw [mirL_len] at hi
  rw [mirL_getD hi, mir_add W i hW]
  rw [mirL_getD (by omega)] at h1
  have := mir_lt (H := H) hW (show i + W < W * H by rw [← hl]; exact hi)
  rw [mir_add W i hW] at this
  exact h _ (by rw [hl]; exact this) h1

theorem bw_mir {gW gH n : Nat} {Z : List Int} (b : Bw gW gH n Z) : Bw gW gH n (mirL gW Z) := by
  have hW : 0 < gW := by have := b.wd; omega
  have hz := b.z
  rw [← b.mul] at hz
  have hz2 := mirL_ok hW hz
  refine ⟨b.wd, b.ht, b.mul, ?_, hng_mir hW hz.1 b.hn, by rw [← b.mul]; exact hz2⟩
  refine ⟨by have := b.wd; omega, by have := b.wd; omega, by have := b.ht; omega, by have := b.ht; omega, ?_, ?_⟩
  · rw [hz2.1]; simp
  · intro z hzm
    obtain ⟨i, hi, rfl⟩ := List.getElem_of_mem hzm
    have := hz2.2 i (by rw [← hz2.1]; exact hi)
    simpa [List.getD, hi] using this

/-- The greatest of all values. -/
theorem rst_max {V : Nat × Nat → Int} : ∀ (xs : List (Nat × Nat)) (r : Int × Int), r.1 ≤ (xs.foldl (rst1 V) r).1 ∧ (∀ x, x ∈ xs → V x ≤ (xs.foldl (rst1 V) r).1) ∧ ((xs.foldl (rst1 V) r).1 = r.1 ∨ ∃ x, x ∈ xs ∧ (xs.foldl (rst1 V) r).1 = V x)
  | [], r => ⟨Int.le_refl _, (fun x hx => by cases hx), Or.inl rfl⟩
  | y :: xs, r => by
    rw [List.foldl_cons]
    obtain ⟨h1, h2, h3⟩ := rst_max (V := V) xs (rst1 V r y)
    have h4 : r.1 ≤ (rst1 V r y).1 ∧ V y ≤ (rst1 V r y).1 ∧ ((rst1 V r y).1 = r.1 ∨ (rst1 V r y).1 = V y) := by
      unfold rst1
      split
      · exact ⟨by dsimp only; omega, Int.le_refl _, Or.inr rfl⟩
      · exact ⟨Int.le_refl _, by omega, Or.inl rfl⟩
    refine ⟨by omega, ?_, ?_⟩
    · intro x hx
      rcases List.mem_cons.1 hx with rfl | hx
      · omega
      · exact h2 x hx
    · rcases h3 with h3 | ⟨x, hx, h3⟩
      · rcases h4.2.2 with h5 | h5
        · exact Or.inl (by omega)
        · exact Or.inr ⟨y, by simp, by omega⟩
      · exact Or.inr ⟨x, by simp [hx], h3⟩

theorem rst_two {V V' : Nat × Nat → Int} {xs ys : List (Nat × Nat)} (h1 : ∀ x, x ∈ xs → ∃ y, y ∈ ys ∧ V x = V' y) (h2 : ∀ y, y ∈ ys → ∃ x, x ∈ xs ∧ V x = V' y) : (xs.foldl (rst1 V) (-1000, -1)).1 = (ys.foldl (rst1 V') (-1000, -1)).1 := by
  obtain ⟨a1, a2, a3⟩ := rst_max (V := V) xs (-1000, -1)
  obtain ⟨b1, b2, b3⟩ := rst_max (V := V') ys (-1000, -1)
  dsimp only at a1 a3 b1 b3
  apply Int.le_antisymm
  · rcases a3 with a3 | ⟨x, hx, a3⟩
    · omega
    · obtain ⟨y, hy, e⟩ := h1 x hx
      have := b2 y hy
      omega
  · rcases b3 with b3 | ⟨y, hy, b3⟩
    · omega
    · obtain ⟨x, hx, e⟩ := h2 y hy
      have := a2 x hx
      omega

theorem rfin_val {V : Nat × Nat → Int} (hV : ∀ x, -100 ≤ V x ∧ V x ≤ 100) (xs : List (Nat × Nat)) (hx : ∀ x, x ∈ xs → x.1 ≤ 1000) : (rfin (xs.foldl (rst1 V) (-1000, -1))).1 = if xs = [] then 0 else (xs.foldl (rst1 V) (-1000, -1)).1 := by
  have h := rst1_bd hV xs (-1000, -1) (Or.inl ⟨rfl, rfl⟩) hx
  cases xs with
  | nil => rfl
  | cons x xs =>
    rw [if_neg (by simp)]
    obtain ⟨_, a2, _⟩ := rst_max (V := V) (x :: xs) (-1000, -1)
    have := a2 x (by simp)
    have := hV x
    unfold rfin
    rw [if_neg (by omega)]

/-- Mirrored boards have the same value. -/
theorem rbd_mir {W H k : Nat} (hW : 1 ≤ W ∧ W ≤ 10) : ∀ (d s : Nat) (Z : List Int) (m : Nat), (m = 1 ∨ m = 2) → s + d ≤ 6 → Zok (W * H) Z → (rbd W H k d s (mirL W Z) m).1 = (rbd W H k d s Z m).1
  | d, s, Z, m, hm, hs, hz => by
    have hw := wnZ_mir (k := k) (show 0 < W by omega) hz
    by_cases h1 : wnZ W H k Z = m
    · rw [rbd_who h1, rbd_who (hw.trans h1)]
    · by_cases h2 : 0 < wnZ W H k Z
      · rw [rbd_won h1 h2, rbd_won (by rw [hw]; exact h1) (by rw [hw]; exact h2)]
      · cases d with
        | zero => rw [rbd_zero h1 h2, rbd_zero (by rw [hw]; exact h1) (by rw [hw]; exact h2)]
        | succ d =>
          rw [rbd_succ h1 h2, rbd_succ (by rw [hw]; exact h1) (by rw [hw]; exact h2)]
          have hbd : ∀ (Z : List Int) (x : Nat × Nat), -100 ≤ -(rbd W H k d (s + 1) (Z.set x.2 (m : Int)) (3 - m)).1 ∧ -(rbd W H k d (s + 1) (Z.set x.2 (m : Int)) (3 - m)).1 ≤ 100 := fun Z x => by
            have := rbd_bd W H k hW.2 d (s + 1) (Z.set x.2 (m : Int)) (3 - m) (by omega)
            omega
          have hval : ∀ x : Nat × Nat, x ∈ drK W H Z W → (W - 1 - x.1, mir W x.2) ∈ drK W H (mirL W Z) W ∧ -(rbd W H k d (s + 1) ((mirL W Z).set (mir W x.2) (m : Int)) (3 - m)).1 = -(rbd W H k d (s + 1) (Z.set x.2 (m : Int)) (3 - m)).1 := by
            intro x hx
            obtain ⟨hx1, hx2⟩ := drK_mem.1 hx
            obtain ⟨hp, _, _⟩ := fallN_lt hx1 _ _ hx2
            refine ⟨drK_mem.2 ⟨by dsimp only; omega, ?_⟩, ?_⟩
            · dsimp only
              rw [fallN_mir hz.1 hx1 H (Nat.le_refl _), hx2]
              rfl
            · rw [← mirL_set (by omega) hz.1 hp, rbd_mir hW d (s + 1) (Z.set x.2 (m : Int)) (3 - m) (by omega) (by omega) (hz.set x.2 (by omega))]
          have hback : ∀ y : Nat × Nat, y ∈ drK W H (mirL W Z) W → ∃ x, x ∈ drK W H Z W ∧ y = (W - 1 - x.1, mir W x.2) := by
            intro y hy
            obtain ⟨hy1, hy2⟩ := drK_mem.1 hy
            have hf := fallN_mir (c := W - 1 - y.1) hz.1 (by omega) H (Nat.le_refl _)
            rw [show W - 1 - (W - 1 - y.1) = y.1 by omega, hy2] at hf
            cases hq : fallN W Z (W - 1 - y.1) H with
            | none => rw [hq] at hf; cases hf
            | some q =>
              rw [hq] at hf
              refine ⟨(W - 1 - y.1, q), drK_mem.2 ⟨by dsimp only; omega, hq⟩, ?_⟩
              have : y.2 = mir W q := Option.some.inj hf
              dsimp only
              rw [← this, show W - 1 - (W - 1 - y.1) = y.1 by omega]
          rw [rfin_val (hbd (mirL W Z)) _ (fun x hx => by have := drK_fst hx; omega), rfin_val (hbd Z) _ (fun x hx => by have := drK_fst hx; omega)]
          have hnil : drK W H (mirL W Z) W = [] ↔ drK W H Z W = [] := by
            constructor
            · intro h
              apply List.eq_nil_iff_forall_not_mem.2
              intro x hx
              have := (hval x hx).1
              rw [h] at this
              cases this
            · intro h
              apply List.eq_nil_iff_forall_not_mem.2
              intro y hy
              obtain ⟨x, hx, _⟩ := hback y hy
              rw [h] at hx
              cases hx
          by_cases he : drK W H Z W = []
          · rw [if_pos he, if_pos (hnil.2 he)]
          · rw [if_neg he, if_neg (fun h => he (hnil.1 h))]
            refine rst_two (fun y hy => ?_) (fun x hx => ?_)
            · obtain ⟨x, hx, rfl⟩ := hback y hy
              exact ⟨x, hx, (hval x hx).2⟩
            · exact ⟨_, (hval x hx).1, (hval x hx).2⟩

theorem fall_iff {W c : Nat} {Z : List Int} : ∀ (Y p : Nat), fallN W Z c Y = some p ↔ ∃ y, y < Y ∧ p = y * W + c ∧ Z.getD p 0 = 0 ∧ ∀ y', y < y' → y' < Y → Z.getD (y' * W + c) 0 ≠ 0
  | 0, p => by
    rw [fallN_zero]
    exact ⟨(fun h => by cases h), fun ⟨y, hy, _⟩ => by omega⟩
  | Y + 1, p => by
    by_cases e : Z.getD (Y * W + c) 0 = 0
    · rw [fallN_hit e]
      constructor
      · intro h
        obtain rfl := Option.some.inj h
        exact ⟨Y, by omega, rfl, e, fun y' h1 h2 => by omega⟩
      · rintro ⟨y, hy, rfl, h0, hall⟩
        by_cases e2 : y = Y
        · rw [e2]
        · exact absurd e (hall Y (by omega) (by omega))
    · rw [fallN_miss e, fall_iff Y p]
      constructor
      · rintro ⟨y, hy, h1, h2, hall⟩
        refine ⟨y, by omega, h1, h2, fun y' h3 h4 => ?_⟩
        by_cases e2 : y' = Y
        · rw [e2]; exact e
        · exact hall y' h3 (by omega)
      · rintro ⟨y, hy, h1, h2, hall⟩
        refine ⟨y, ?_, h1, h2, fun y' h3 h4 => hall y' h3 (by omega)⟩
        rcases Nat.lt_or_ge y Y with h | h
        · exact h
        · obtain rfl : y = Y := by omega
          rw [h1] at h2
          exact absurd h2 e

/-- Can a sign fall to this place? -/
def falls (W n : Nat) (Z : List Int) (q : Nat) : Bool := decide (n ≤ q + W) || (Z.getD (q + W) 0 != 0)

theorem falls_iff {W H q : Nat} {Z : List Int} (hW : 0 < W) (hl : Z.length = W * H) (hh : hng W Z = false) (hq : q < W * H) (h0 : Z.getD q 0 = 0) : falls W (W * H) Z q = true ↔ fallN W Z (q % W) H = some q := by
  rw [hng_iff] at hh
  have hdm := Nat.div_add_mod q W
  rw [Nat.mul_comm] at hdm
  have hy : q / W < H := Nat.div_lt_of_lt_mul hq
  have hc := Nat.mod_lt q hW
  rw [fall_iff]
  unfold falls
  rw [Bool.or_eq_true, decide_eq_true_eq, bne_iff_ne]
  constructor
  · intro h
    refine ⟨q / W, hy, hdm.symm, h0, ?_⟩
    have key : ∀ t, q / W + 1 + t < H → Z.getD ((q / W + 1 + t) * W + q % W) 0 ≠ 0 := by
      intro t
      induction t with
      | zero =>
        intro ht
        rw [Nat.add_zero, Nat.succ_mul, show q / W * W + W + q % W = q + W by omega]
        rcases h with h | h
        · have h3 : (q / W + 2) * W ≤ H * W := Nat.mul_le_mul_right _ (by omega)
          rw [Nat.add_mul] at h3
          rw [Nat.mul_comm] at h
          omega
        · exact h
      | succ t ih =>
        intro ht
        have i1 := ih (by omega)
        have h3 : (q / W + 1 + t + 2) * W ≤ H * W := Nat.mul_le_mul_right _ (by omega)
        rw [Nat.add_mul (q / W + 1 + t) 2 W] at h3
        have := hh ((q / W + 1 + t) * W + q % W) (by rw [hl, Nat.mul_comm W H]; omega) i1
        rw [show q / W + 1 + (t + 1) = (q / W + 1 + t) + 1 by omega, Nat.succ_mul]
        rw [show (q / W + 1 + t) * W + W + q % W = (q / W + 1 + t) * W + q % W + W by omega]
        exact this
    intro y' h1 h2
    have := key (y' - (q / W + 1)) (by omega)
    rwa [show q / W + 1 + (y' - (q / W + 1)) = y' by omega] at this
  · rintro ⟨y, hyH, h1, h2, hall⟩
    have e : y = q / W := by
      have := (place_of (W := W) (y := y) hc).2
      rw [← h1] at this
      exact this.symm
    by_cases hn : W * H ≤ q + W
    · exact Or.inl hn
    · right
      have hlt : y + 1 < H := by
        rcases Nat.lt_or_ge (y + 1) H with h | h
        · exact h
        · have h3 : H * W ≤ (y + 1) * W := Nat.mul_le_mul_right _ h
          rw [Nat.succ_mul] at h3
          rw [Nat.mul_comm W H] at hn
          omega
      have := hall (y + 1) (by omega) hlt
      rw [Nat.succ_mul, show y * W + W + q % W = q + W by omega] at this
      exact this

/-- A threat that a sign can fall to wins, and nothing else does at once. -/
theorem wins_iff {W H k m d : Nat} {Z : List Int} (hW : 1 ≤ W ∧ W ≤ 10) (hk : 1 ≤ k) (hm : m = 1 ∨ m = 2) (hd : 1 ≤ d ∧ d ≤ 6) (hz : Zok (W * H) Z) (hh : hng W Z = false) (h0 : wnZ W H k Z = 0) :
    ((thr W H k Z m (W * H)).any fun q => falls W (W * H) Z q) = decide ((rbd W H k d 0 Z m).1 = 99) := by
  obtain ⟨e, rfl⟩ : ∃ e, d = e + 1 := ⟨d - 1, by omega⟩
  have hthr : ∀ q, q ∈ thr W H k Z m (W * H) ↔ q < W * H ∧ Z.getD q 0 = 0 ∧ inR W H (Z.set q (m : Int)) q k = true := by
    intro q
    unfold thr
    rw [List.mem_filter, List.mem_range, Bool.and_eq_true, beq_iff_eq]
  have hrb := (rbd_bvl hW hk (e + 1) 0 Z m hm (by omega) hz h0).1
  cases hf : (drK W H Z W).find? (fun x => inR W H (Z.set x.2 (m : Int)) x.2 k) with
  | some x0 =>
    obtain ⟨hx0, pre, rest, hDL, hpre⟩ := List.find?_eq_some_iff_append.1 hf
    have hpre' : ∀ y, y ∈ pre → inR W H (Z.set y.2 (m : Int)) y.2 k = false := fun y hy => by simpa using hpre y hy
    rw [hrb, bvl_hit hDL hpre' hx0, decide_eq_true (by simp)]
    obtain ⟨h1, h2⟩ := drK_mem.1 (show x0 ∈ drK W H Z W by rw [hDL]; simp)
    obtain ⟨p1, p2, p3⟩ := fallN_lt h1 _ _ h2
    refine List.any_eq_true.2 ⟨x0.2, (hthr _).2 ⟨p1, p2, hx0⟩, ?_⟩
    rw [falls_iff (by omega) hz.1 hh p1 p2, p3]
    exact h2
  | none =>
    have hall : ∀ y, y ∈ drK W H Z W → inR W H (Z.set y.2 (m : Int)) y.2 k = false := fun y hy => by simpa using List.find?_eq_none.1 hf y hy
    have hlt : (rbd W H k (e + 1) 0 Z m).1 < 99 := by
      rw [rbd_succ (by omega) (by omega)]
      have h1 := rst_lt (V := fun x => -(rbd W H k e (0 + 1) (Z.set x.2 (m : Int)) (3 - m)).1) (B := 99) (drK W H Z W) (-1000, -1) (fun x hx => by
        obtain ⟨hx1, hx2⟩ := drK_mem.1 hx
        obtain ⟨hp, hp0, _⟩ := fallN_lt hx1 _ _ hx2
        have hw := wnZ_set (p := x.2) (m := m) (by omega) hk hz.1 hp hm hz.2 h0
        rw [if_neg (by rw [hall x hx]; simp)] at hw
        have := (rbd_bvl hW hk e (0 + 1) (Z.set x.2 (m : Int)) (3 - m) (by omega) (by omega) (hz.set x.2 (by omega)) hw).2.1
        omega) (by dsimp only; omega)
      unfold rfin
      split
      · dsimp only; omega
      · exact h1
    rw [decide_eq_false (by omega)]
    rw [List.any_eq_false]
    intro q hq hfq
    obtain ⟨q1, q2, q3⟩ := (hthr q).1 hq
    have := (falls_iff (by omega) hz.1 hh q1 q2).1 hfq
    have hc := Nat.mod_lt q (show 0 < W by omega)
    have := hall (q % W, q) (drK_mem.2 ⟨hc, this⟩)
    dsimp only at this
    rw [q3] at this
    cases this

end Go.Proofs.YtaglhmkjdajgpaaDoor
