/-
  Chess: the pieces that attack a place, found from the place, are those that the document finds from theirs. No conditions beyond those that each theorem bears.
  Boards as values and in blocks; which boards may be. No conditions beyond those that each theorem bears.
-/
import Derived.Test.YtdmlamnonbmboaaDoorQ01
import Derived.Deep.MidRow
import Derived.ChangeKeysEq
import Derived.BigRegion
import Derived.Laws.Rows
import Derived.Deep.Cut
import Derived.Deep.CutRange
import Derived.Deep.DeepCutAuto
import Derived.Deep.RegionHeld3
namespace Go.Proofs.YtdmlamnonbmboaaDoor
set_option maxRecDepth 20000

theorem R_len (t i : Nat) : (R t i).length = rl t i := by simp [R]

theorem R_get {t i j : Nat} (hj : j < rl t i) : (R t i)[j]? = some (rP t i j) := by
  simp [R, hj]

theorem rl_le {t i : Nat} (ht : t < 64) (hi : i < 16) : rl t i ≤ 7 := by
  have h := allN (all64 tab_ins ht) hi
  simp only [Bool.and_eq_true] at h
  exact Nat.le_of_ble_eq_true h.1

theorem ins_iff {t i j : Nat} (ht : t < 64) (hi : i < 16) (hj : j < 8) : ins (rX t i j) (rY t i j) = decide (j < rl t i) := by
  have h := allN (all64 tab_ins ht) hi
  simp only [Bool.and_eq_true] at h
  have h2 := allN h.2 hj
  simp only [Bool.and_eq_true, beq_iff_eq] at h2
  rw [h2.1]
  by_cases hh : j < rl t i
  · rw [decide_eq_true hh, Nat.blt_eq]; exact hh
  · rw [decide_eq_false hh, Bool.eq_false_iff]; intro h; exact hh (Nat.blt_eq ▸ h)

theorem rP_at {t i j : Nat} (ht : t < 64) (hi : i < 16) (hj : j < rl t i) : rP t i j < 64 ∧ ((rP t i j : Nat) : Int) = rY t i j * 8 + rX t i j := by
  have h := allN (all64 tab_ins ht) hi
  have hle := rl_le ht hi
  simp only [Bool.and_eq_true] at h
  have h2 := allN h.2 (show j < 8 by omega)
  simp only [Bool.and_eq_true, beq_iff_eq, Bool.or_eq_true, Bool.not_eq_true', decide_eq_true_eq, Nat.blt_eq] at h2
  rcases h2.2 with h3 | h3
  · exfalso
    have : Nat.blt j (rl t i) = true := by rw [Nat.blt_eq]; exact hj
    rw [this] at h3; exact absurd h3 (by simp)
  · exact h3

theorem R_lt {t i : Nat} (ht : t < 64) (hi : i < 16) : ∀ q ∈ R t i, q < 64 := by
  intro q hq
  simp only [R, List.mem_map, List.mem_range] at hq
  obtain ⟨j, hj, rfl⟩ := hq
  exact (rP_at ht hi hj).1

theorem vis_iff (Z : List Int) : ∀ (L : List Nat) (f : Nat), f ∈ vis Z true L ↔ ∃ j, L[j]? = some f ∧ ∀ a ∈ L.take j, zg Z a = 0 := by
  intro L
  induction L with
  | nil => intro f; simp [vis]
  | cons q r ih =>
    intro f
    simp only [vis, List.mem_cons, true_and]
    constructor
    · rintro (rfl | h)
      · exact ⟨0, by simp, by simp⟩
      · by_cases hq : zg Z q = 0
        · rw [if_pos hq] at h
          obtain ⟨j, hj, ha⟩ := (ih f).1 h
          exact ⟨j + 1, by simpa using hj, by simpa [hq] using ha⟩
        · rw [if_neg hq] at h; exact absurd h (by simp)
    · rintro ⟨j, hj, ha⟩
      cases j with
      | zero => left; simpa using hj.symm
      | succ j =>
        right
        have hq : zg Z q = 0 := ha q (by simp)
        rw [if_pos hq]
        exact (ih f).2 ⟨j, by simpa using hj, fun a h => ha a (by simp [h])⟩

theorem vis_near (Z : List Int) (L : List Nat) : vis Z false L = L.take 1 := by
  cases L with
  | nil => rfl
  | cons q r => simp [vis]

theorem vis_sub (Z : List Int) (b : Bool) : ∀ L : List Nat, (vis Z b L).Sublist L := by
  intro L
  induction L with
  | nil => simp [vis]
  | cons q r ih =>
    simp only [vis]
    split
    · exact List.Sublist.cons_cons q ih
    · exact List.Sublist.cons_cons q (List.nil_sublist r)

/-- So far as the walk has come. -/
theorem vis_take (Z : List Int) (b : Bool) : ∀ (j : Nat) (L : List Nat), (∀ a ∈ L.take j, b = true ∧ zg Z a = 0) → vis Z b L = L.take j ++ vis Z b (L.drop j) := by
  intro j
  induction j with
  | zero => intro L _; simp
  | succ j ih =>
    intro L h
    cases L with
    | nil => simp [vis]
    | cons q r =>
      have hq := h q (by simp)
      have := ih r (fun a ha => h a (by simp [ha]))
      simp only [vis, List.take_succ_cons, List.drop_succ_cons, List.cons_append]
      rw [if_pos hq, this]

theorem flat_sub {α β : Type} {f g : α → List β} : ∀ {A B : List α}, A.Sublist B → (∀ a, (f a).Sublist (g a)) → (A.flatMap f).Sublist (B.flatMap g) := by
  intro A B h hf
  induction h with
  | slnil => simp
  | cons a _ ih => simp only [List.flatMap_cons]; exact List.Sublist.trans ih (List.sublist_append_right _ _)
  | cons_cons a _ ih => simp only [List.flatMap_cons]; exact List.Sublist.append (hf a) ih

def KX (x : Int) : Prop := x = 1 ∨ x = -1 ∨ x = 2 ∨ x = -2 ∨ x = 3 ∨ x = -3 ∨ x = 4 ∨ x = -4 ∨ x = 5 ∨ x = -5 ∨ x = 6 ∨ x = -6

theorem KX_of {x : Int} (h1 : -6 ≤ x) (h2 : x ≤ 6) (h0 : x ≠ 0) : KX x := by unfold KX; omega
theorem KX_neg {x : Int} (h : KX x) : KX (-x) := by unfold KX at *; omega

theorem ixs_lt {x : Int} (h : KX x) : ∀ i ∈ ixs x, i < 16 := by
  rcases h with rfl | rfl | rfl | rfl | rfl | rfl | rfl | rfl | rfl | rfl | rfl | rfl <;> decide

theorem rch_lt {Z : List Int} {x : Int} (h : KX x) {t : Nat} (ht : t < 64) : ∀ q ∈ rch Z x t, q < 64 := by
  intro q hq
  simp only [rch, List.mem_flatMap] at hq
  obtain ⟨i, hi, hq⟩ := hq
  exact R_lt ht (ixs_lt h i hi) q ((vis_sub Z _ _).subset hq)

theorem nd_far {t : Nat} (ht : t < 64) : ((List.range 8).flatMap (R t)).Nodup := by
  have h := all64 tab_C ht
  simp only [Bool.and_eq_true, decide_eq_true_eq] at h
  exact h.1
theorem nd_leap {t : Nat} (ht : t < 64) : (((List.range 8).map (8 + ·)).flatMap fun i => (R t i).take 1).Nodup := by
  have h := all64 tab_C ht
  simp only [Bool.and_eq_true, decide_eq_true_eq] at h
  exact h.2

theorem sub8 {L : List Nat} (h : (List.isSublist L (List.range 8)) = true) : L.Sublist (List.range 8) := List.isSublist_iff_sublist.1 h

theorem rch_nodup (Z : List Int) {x : Int} (h : KX x) {t : Nat} (ht : t < 64) : (rch Z x t).Nodup := by
  have hs : (ixs x).Sublist (List.range 8) ∨ (x = 2 ∨ x = -2) := by
    rcases h with rfl | rfl | rfl | rfl | rfl | rfl | rfl | rfl | rfl | rfl | rfl | rfl <;>
      first | (left; exact sub8 (by decide)) | (right; decide)
  rcases hs with hs | hs
  · exact List.Pairwise.sublist (flat_sub hs (fun i => vis_sub Z _ (R t i))) (nd_far ht)
  · have hf : far x = false := by rcases hs with rfl | rfl <;> decide
    have hi : ixs x = (List.range 8).map (8 + ·) := by rcases hs with rfl | rfl <;> decide
    rw [rch, hf, hi]
    simp only [vis_near]
    exact nd_leap ht

theorem dd_ne {f t : Nat} : (dX f t = 0 ∧ dY f t = 0) ↔ f = t := by
  unfold dX dY
  omega

theorem near_at {x : Int} (hx : x = 1 ∨ x = -1 ∨ x = 2 ∨ x = -2 ∨ x = 6 ∨ x = -6) {f t : Nat} (hf : f < 64) (ht : t < 64) :
    near x f t = (((ixs (-x)).flatMap fun i => (R t i).take 1).elem f) := by
  have h := List.all_eq_true.1 tab_D x (by simp; omega)
  have h2 := all64 (all64 h ht) hf
  exact beq_iff_eq.1 h2

theorem far_at {Z : List Int} {i t f : Nat} (hi : i < 8) (ht : t < 64) (h : f ∈ vis Z true (R t i)) :
    (∀ a ∈ btw f t, zg Z a = 0) ∧ ¬ (dX f t = 0 ∧ dY f t = 0) ∧ (i < 4 → strai f t = true) ∧ (4 ≤ i → slant f t = true) := by
  obtain ⟨j, hj, ha⟩ := (vis_iff Z _ f).1 h
  have hjl : j < rl t i := by
    have := (List.getElem?_eq_some_iff.1 hj).1
    rwa [R_len] at this
  rw [R_get hjl] at hj
  have hj' : rP t i j = f := by simpa using hj
  have hA := allN (allN (all64 tab_A ht) hi) hjl
  simp only [Bool.and_eq_true, decide_eq_true_eq] at hA
  rw [hj'] at hA
  obtain ⟨⟨h1, h2⟩, h3⟩ := hA
  refine ⟨fun a h => ha a ?_, ?_, ?_, ?_⟩
  · rw [h1]; exact List.mem_reverse.2 h
  · rintro ⟨e1, e2⟩
    rw [e1, e2] at h2; simp at h2
  · intro h4
    rw [if_pos (by rw [Nat.blt_eq]; exact h4)] at h3; exact h3
  · intro h4
    rw [if_neg (by rw [Nat.blt_eq]; omega)] at h3; exact h3

theorem far_of {Z : List Int} {i t f : Nat} (hi : i < 8) (ht : t < 64) (hf : f ∈ R t i) (h : ∀ a ∈ btw f t, zg Z a = 0) : f ∈ vis Z true (R t i) := by
  obtain ⟨j, hj⟩ := List.mem_iff_getElem?.1 hf
  have hjl : j < rl t i := by
    have := (List.getElem?_eq_some_iff.1 hj).1
    rwa [R_len] at this
  refine (vis_iff Z _ f).2 ⟨j, hj, ?_⟩
  rw [R_get hjl] at hj
  have hj' : rP t i j = f := by simpa using hj
  have hA := allN (allN (all64 tab_A ht) hi) hjl
  simp only [Bool.and_eq_true, decide_eq_true_eq] at hA
  rw [hj'] at hA
  intro a ha
  rw [hA.1.1] at ha
  exact h a (List.mem_reverse.1 ha)

theorem lines {t f : Nat} (ht : t < 64) (hf : f < 64) (hne : f ≠ t) : (strai f t = true → ∃ i, i < 4 ∧ f ∈ R t i) ∧ (slant f t = true → ∃ i, 4 ≤ i ∧ i < 8 ∧ f ∈ R t i) := by
  have h := all64 (all64 tab_B ht) hf
  simp only [Bool.or_eq_true, Bool.and_eq_true, Bool.not_eq_true', List.any_eq_true, List.mem_range, List.elem_eq_mem, decide_eq_true_eq] at h
  rcases h with h | ⟨h1, h2⟩
  · exact absurd (Nat.eq_of_beq_eq_true h) hne
  · refine ⟨fun e => ?_, fun e => ?_⟩
    · rcases h1 with h1 | ⟨i, hi, h1⟩
      · rw [e] at h1; simp at h1
      · exact ⟨i, hi, h1⟩
    · rcases h2 with h2 | ⟨i, hi, h2⟩
      · rw [e] at h2; simp at h2
      · exact ⟨4 + i, by omega, by omega, h2⟩

/-- ATTACKS FROM THERE AND FROM HERE ARE THE SAME. -/
theorem atR_iff (Z : List Int) {f t : Nat} (hf : f < 64) (ht : t < 64) (hx : KX (zg Z f)) : atR Z f t = true ↔ f ∈ rch Z (-(zg Z f)) t := by
  have hnear : ∀ x : Int, zg Z f = x → (x = 1 ∨ x = -1 ∨ x = 2 ∨ x = -2 ∨ x = 6 ∨ x = -6) → (atR Z f t = true ↔ f ∈ rch Z (-x) t) := by
    intro x e hx
    have hfar : far (-x) = false := by rcases hx with rfl | rfl | rfl | rfl | rfl | rfl <;> decide
    have hn := near_at hx hf ht
    have hr : f ∈ rch Z (-x) t ↔ near x f t = true := by
      rw [hn, rch, hfar]
      simp only [vis_near, List.elem_eq_mem, decide_eq_true_eq]
    rw [hr]
    unfold atR near
    rw [e]
    by_cases hz : dX f t = 0 ∧ dY f t = 0
    · simp [hz]
    · have hz' : (!(decide (dX f t = 0) && decide (dY f t = 0))) = true := by
        simp only [Bool.not_eq_true', Bool.and_eq_false_iff, decide_eq_false_iff_not]
        by_cases h1 : dX f t = 0
        · exact Or.inr (fun h2 => hz ⟨h1, h2⟩)
        · exact Or.inl h1
      rw [if_neg hz, hz', Bool.true_and]
      rcases hx with rfl | rfl | rfl | rfl | rfl | rfl <;> simp
  have hfar : ∀ x : Int, zg Z f = x → (x = 3 ∨ x = -3 ∨ x = 4 ∨ x = -4 ∨ x = 5 ∨ x = -5) → (atR Z f t = true ↔ f ∈ rch Z (-x) t) := by
    intro x e hx
    have hfr : far (-x) = true := by rcases hx with rfl | rfl | rfl | rfl | rfl | rfl <;> decide
    have h1 : ¬ x.natAbs = 1 := by omega
    have h2 : ¬ x.natAbs = 2 := by omega
    have h6 : ¬ x.natAbs = 6 := by omega
    have h0 : ¬ x = 0 := by omega
    unfold atR
    rw [e, if_neg h1, if_neg h2, if_neg h6, rch, hfr]
    simp only [List.mem_flatMap]
    constructor
    · intro h
      by_cases hz : dX f t = 0 ∧ dY f t = 0
      · rw [if_pos hz] at h; simp at h
      · rw [if_neg hz] at h
        by_cases hc : x = 0 ∨ (slant f t = false ∧ strai f t = false) ∨ (x.natAbs = 3 ∧ slant f t = false) ∨ (x.natAbs = 4 ∧ strai f t = false)
        · rw [if_pos hc] at h; simp at h
        · rw [if_neg hc] at h
          have hb : ∀ a ∈ btw f t, zg Z a = 0 := by
            intro a ha
            have := List.all_eq_true.1 h a ha
            simpa using this
          have hne : f ≠ t := fun e => hz (dd_ne.2 e)
          obtain ⟨l1, l2⟩ := lines ht hf hne
          have hcs : (strai f t = true ∧ x.natAbs ≠ 3) ∨ (slant f t = true ∧ x.natAbs ≠ 4) := by
            cases hs : strai f t <;> cases hl : slant f t <;> simp [hs, hl] at hc ⊢ <;> omega
          rcases hcs with ⟨hs, hk⟩ | ⟨hs, hk⟩
          · obtain ⟨i, hi, hm⟩ := l1 hs
            refine ⟨i, ?_, far_of (by omega) ht hm hb⟩
            have : i = 0 ∨ i = 1 ∨ i = 2 ∨ i = 3 := by omega
            rcases hx with rfl | rfl | rfl | rfl | rfl | rfl <;> first | (exact absurd rfl hk) | (rcases this with rfl | rfl | rfl | rfl <;> decide)
          · obtain ⟨i, hi, hi8, hm⟩ := l2 hs
            refine ⟨i, ?_, far_of hi8 ht hm hb⟩
            have : i = 4 ∨ i = 5 ∨ i = 6 ∨ i = 7 := by omega
            rcases hx with rfl | rfl | rfl | rfl | rfl | rfl <;> first | (exact absurd rfl hk) | (rcases this with rfl | rfl | rfl | rfl <;> decide)
    · rintro ⟨i, hi, hv⟩
      have hi8 : i < 8 ∧ (x.natAbs = 3 → 4 ≤ i) ∧ (x.natAbs = 4 → i < 4) := by
        rcases hx with rfl | rfl | rfl | rfl | rfl | rfl <;> (clear hv; revert hi; revert i; decide)
      obtain ⟨hb, hz, hs, hl⟩ := far_at hi8.1 ht hv
      rw [if_neg hz]
      have hc : ¬ (x = 0 ∨ (slant f t = false ∧ strai f t = false) ∨ (x.natAbs = 3 ∧ slant f t = false) ∨ (x.natAbs = 4 ∧ strai f t = false)) := by
        rintro (h | ⟨ha, hb2⟩ | ⟨ha, hb2⟩ | ⟨ha, hb2⟩)
        · exact h0 h
        · by_cases h4 : i < 4
          · rw [hs h4] at hb2; simp at hb2
          · rw [hl (by omega)] at ha; simp at ha
        · rw [hl (hi8.2.1 ha)] at hb2; simp at hb2
        · rw [hs (hi8.2.2 ha)] at hb2; simp at hb2
      rw [if_neg hc]
      exact List.all_eq_true.2 (fun a ha => by simpa using hb a ha)
  unfold KX at hx
  rcases hx with h | h | h | h | h | h | h | h | h | h | h | h <;> rw [h] <;>
    first | exact hnear _ h (by decide) | exact hfar _ h (by decide)

/-- Numbers as pieces have them. -/
def Pz (Z : List Int) : Prop := Z.length = 64 ∧ ∀ q, -6 ≤ zg Z q ∧ zg Z q ≤ 6

theorem pc_kx {b k : Nat} (hk : k < 6) : KX (pc b (k + 1)) := by
  unfold pc KX
  split <;> omega

theorem pc_inj {b k k2 : Nat} (h : pc b (k + 1) = pc b (k2 + 1)) : k = k2 := by
  unfold pc at h
  split at h <;> omega

theorem mem_atk {Z : List Int} (hz : Pz Z) {t b : Nat} (ht : t < 64) (hb : b = 0 ∨ b = 1) (q : Nat) : q ∈ atk Z t b ↔ q ∈ atL Z t b := by
  simp only [atk, atL, List.mem_flatMap, List.mem_range, List.mem_filter, beq_iff_eq, Bool.and_eq_true]
  constructor
  · rintro ⟨k, hk, hm, hq⟩
    have hk6 := pc_kx (b := b) hk
    have hq64 := rch_lt (KX_neg hk6) ht q hm
    refine ⟨hq64, ?_, ?_⟩
    · rw [hq]; unfold sd pc
      rcases hb with rfl | rfl
      · simp only [if_true]; rw [if_pos (by omega)]; rfl
      · simp only [Nat.succ_ne_zero, if_false]; rw [if_neg (by omega), if_pos (by omega)]; rfl
    · rw [← hq] at hm hk6
      exact (atR_iff Z hq64 ht hk6).2 hm
  · rintro ⟨hq64, hs, ha⟩
    have hx : zg Z q ≠ 0 ∧ ∃ k, k < 6 ∧ zg Z q = pc b (k + 1) := by
      have := hz.2 q
      unfold sd at hs
      refine ⟨fun e => ?_, (zg Z q).natAbs - 1, ?_, ?_⟩
      · rw [e] at hs; simp only [Int.lt_irrefl, if_false] at hs; omega
      · split at hs <;> first | omega | (split at hs <;> omega)
      · unfold pc
        rcases hb with rfl | rfl
        · split at hs <;> first | (simp; omega) | (split at hs <;> simp at hs)
        · split at hs <;> first | (simp at hs; done) | (split at hs <;> first | (simp; omega) | (simp at hs))
    obtain ⟨h0, k, hk, he⟩ := hx
    have hkx := KX_of (hz.2 q).1 (hz.2 q).2 h0
    exact ⟨k, hk, by rw [← he]; exact (atR_iff Z hq64 ht hkx).1 ha, he⟩

theorem atk_lt {Z : List Int} (hz : Pz Z) {t b : Nat} (ht : t < 64) (hb : b = 0 ∨ b = 1) : ∀ q ∈ atk Z t b, q < 64 := by
  intro q hq
  have := (mem_atk hz ht hb q).1 hq
  simp only [atL, List.mem_filter, List.mem_range] at this
  exact this.1

theorem nodup_flat {α : Type} {f : α → List Nat} : ∀ {L : List α}, L.Nodup → (∀ a, (f a).Nodup) → (∀ a b q, q ∈ f a → q ∈ f b → a = b) → (L.flatMap f).Nodup := by
  intro L hL hf hd
  induction L with
  | nil => simp
  | cons a r ih =>
    rw [List.nodup_cons] at hL
    simp only [List.flatMap_cons]
    refine List.nodup_append.2 ⟨hf a, ih hL.2, ?_⟩
    intro x hx y hy hxy
    subst hxy
    obtain ⟨b, hb, hxb⟩ := List.mem_flatMap.1 hy
    have := hd a b x hx hxb
    subst this
    exact hL.1 hb

theorem atk_nodup (Z : List Int) {t : Nat} (b : Nat) (ht : t < 64) : (atk Z t b).Nodup := by
  unfold atk
  have : ((List.range 6).flatMap fun k => if k < 6 then (rch Z (-(pc b (k + 1))) t).filter (fun q => zg Z q == pc b (k + 1)) else []) = (List.range 6).flatMap fun k => (rch Z (-(pc b (k + 1))) t).filter fun q => zg Z q == pc b (k + 1) := by
    simp [List.range_succ]
  rw [← this]
  refine nodup_flat (List.nodup_range) ?_ ?_
  · intro k
    by_cases hk : k < 6
    · rw [if_pos hk]
      exact List.Pairwise.sublist List.filter_sublist (rch_nodup Z (KX_neg (pc_kx hk)) ht)
    · rw [if_neg hk]; simp
  · intro k k2 q h1 h2
    by_cases hk : k < 6 <;> by_cases hk2 : k2 < 6
    · rw [if_pos hk] at h1; rw [if_pos hk2] at h2
      simp only [List.mem_filter, beq_iff_eq] at h1 h2
      exact pc_inj (h1.2.symm.trans h2.2)
    · rw [if_neg hk2] at h2; simp at h2
    · rw [if_neg hk] at h1; simp at h1
    · rw [if_neg hk] at h1; simp at h1

end Go.Proofs.YtdmlamnonbmboaaDoor

namespace Go.Proofs.YtdmlamnonbmboaaDoor
open Go.RowKit

/-- Of the blocks that there were, those that X does not name are as they were. -/
structure Keeps (X : Nat → Prop) (w w' : World) : Prop where
  os : w'.os = w.os
  tape : w'.tape = w.tape
  output : w'.output = w.output
  size : w.heap.size ≤ w'.heap.size
  block : ∀ k, k < w.heap.size → ¬ X k → w'.heap[k]? = w.heap[k]?

theorem Keeps.refl (X : Nat → Prop) (w : World) : Keeps X w w := ⟨rfl, rfl, rfl, Nat.le_refl _, fun _ _ _ => rfl⟩

theorem Keeps.trans {X : Nat → Prop} {a b c : World} (h : Keeps X a b) (k : Keeps X b c) : Keeps X a c :=
  ⟨k.os.trans h.os, k.tape.trans h.tape, k.output.trans h.output, Nat.le_trans h.size k.size, fun i hi hx => (k.block i (Nat.lt_of_lt_of_le hi h.size) hx).trans (h.block i hi hx)⟩

theorem Keeps.mono {X Y : Nat → Prop} {a b : World} (h : Keeps X a b) (hs : ∀ k, k < a.heap.size → X k → Y k) : Keeps Y a b :=
  ⟨h.os, h.tape, h.output, h.size, fun i hi hx => h.block i hi (fun k => hx (hs i hi k))⟩

theorem Keeps.of_below {B : Nat} {a b : World} (h : Below B a b) : Keeps (fun k => B ≤ k) a b :=
  ⟨h.os, h.tape, h.output, h.size, fun i _ hx => h.block i (Nat.lt_of_not_le hx)⟩

theorem Keeps.below {X : Nat → Prop} {B : Nat} {a b : World} (h : Keeps X a b) (hB : B ≤ a.heap.size) (hX : ∀ k, k < B → ¬ X k) : Below B a b :=
  ⟨h.os, h.tape, h.output, h.size, fun i hi => h.block i (Nat.lt_of_lt_of_le hi hB) (hX i hi)⟩

theorem Keeps.of_all {X : Nat → Prop} {a b : World} (h : Below a.heap.size a b) : Keeps X a b :=
  ⟨h.os, h.tape, h.output, h.size, fun i hi _ => h.block i hi⟩

theorem Keeps.drew {X : Nat → Prop} {a b : World} (h : Keeps X a b) : Keeps X a b.drew := ⟨h.os, h.tape, h.output, h.size, h.block⟩

theorem Keeps.alloc {X : Nat → Prop} {a b : World} (h : Keeps X a b) (o : Obj) : Keeps X a (b.alloc o) :=
  h.trans (Keeps.of_all ((Below.refl _ b).alloc (Nat.le_refl _) o))

theorem Keeps.setCell {X : Nat → Prop} {a b : World} (h : Keeps X a b) {p : Addr} (hp : X p.block) (u : Value) : Keeps X a (b.setCell p u) :=
  h.trans ⟨rfl, rfl, rfl, by simp [World.setCell], fun k _ hx => Below.heap_setCell _ _ _ _ (fun e => hx (e ▸ hp))⟩

theorem Keeps.cell {X : Nat → Prop} {w w' : World} (h : Keeps X w w') {p : Addr} {v : Value} (hc : w.cell? p = some v) (hp : ¬ X p.block) : w'.cell? p = some v :=
  (World.cell?_of_block (w := w) (h.block p.block (World.block_lt_of_cell? w _ hc) hp)).trans hc

theorem Rd.keeps {X : Nat → Prop} {w w' : World} {a n c zs} (h : Rd w a n c zs) (hb : Keeps X w w') (hX : ∀ b off, a = some ⟨b, off, none⟩ → ¬ X b) : Rd w' a n c zs := by
  refine ⟨h.len, h.cap, h.max, h.nil, fun hn => ?_⟩
  obtain ⟨b, off, rfl, hc⟩ := h.cells hn
  exact ⟨b, off, rfl, fun i hi => hb.cell (hc i hi) (hX b off rfl)⟩

theorem ret_int {a b : Int} (h : a = b) : Ending.returned (.int .i64 a) = .returned (.int .i64 b) := by rw [h]

/-- Numbers as cells. -/
def ivs (S : List Int) : List Value := S.map (Value.int .i64)

theorem ivs_length (S : List Int) : (ivs S).length = S.length := by simp [ivs]
theorem ivs_one (S : List Int) : (ivs S).toArray.all (·.oneCell') = true := by simp [ivs, Value.oneCell']
theorem ivs_inj {S T : List Int} (h : ivs S = ivs T) : S = T := by
  have := congrArg (List.map fun v => match v with | .int _ z => z | _ => 0) h
  simpa [ivs, Function.comp_def] using this

/-- A block of numbers. -/
def Blk (w : World) (b t : Nat) (L : List Int) : Prop := w.heap[b]? = some (.cells (ivs L).toArray t (0, 0))

theorem Blk.cell {w : World} {b t : Nat} {L : List Int} (h : Blk w b t L) {i : Nat} (hi : i < L.length) : w.cell? ⟨b, i, none⟩ = some (.int .i64 (L.getD i 0)) := by
  have h' : w.heap[b]? = _ := h
  simp [World.cell?, h', ivs, List.getD, hi]

theorem Blk.frozen {w : World} {b t : Nat} {L : List Int} (h : Blk w b t L) (i : Nat) : w.frozen? ⟨b, i, none⟩ = false := by
  have h' : w.heap[b]? = _ := h
  simp [World.frozen?, h']

theorem Blk.set {w : World} {b t : Nat} {L : List Int} (h : Blk w b t L) (i : Nat) (x : Int) : Blk (w.setCell ⟨b, i, none⟩ (.int .i64 x)) b t (L.set i x) := by
  have h' : w.heap[b]? = _ := h
  simp [Blk, World.setCell, Array.getElem?_modify, h', ivs, List.map_set]

theorem Blk.keeps {X : Nat → Prop} {w w' : World} {b t : Nat} {L : List Int} (h : Blk w b t L) (hk : Keeps X w w') (hb : ¬ X b) : Blk w' b t L :=
  (hk.block b (Array.getElem?_eq_some_iff.1 h).1 hb).trans h

theorem Blk.lt {w : World} {b t : Nat} {L : List Int} (h : Blk w b t L) : b < w.heap.size := (Array.getElem?_eq_some_iff.1 h).1

theorem Blk.below {w w' : World} {b B t : Nat} {L : List Int} (h : Blk w b t L) (hk : Below B w w') (hb : b < B) : Blk w' b t L := (hk.block b hb).trans h

theorem Blk.old {w : World} {b t : Nat} {L : List Int} (h : Blk w b t L) (o : Obj) : Blk (w.alloc o) b t L :=
  (Below.heap_alloc w o b h.lt).trans h

theorem Blk.new (w : World) (t : Nat) (L : List Int) (c : Array Value) (hc : c = (ivs L).toArray) : Blk (w.alloc (.cells c t)) w.heap.size t L := by
  subst hc
  exact heap_alloc_new w _

theorem Keeps.set1 (w : World) (b i : Nat) (v : Value) : Keeps (fun k => k = b) w (w.setCell ⟨b, i, none⟩ v) :=
  Keeps.setCell (X := fun k => k = b) (Keeps.refl _ w) (p := ⟨b, i, none⟩) rfl v

theorem Blk.other {w : World} {b g t : Nat} {L : List Int} (h : Blk w b t L) (hb : b ≠ g) (i : Nat) (v : Value) : Blk (w.setCell ⟨g, i, none⟩ v) b t L := h.keeps (Keeps.set1 w g i v) hb

theorem Blk.range {w : World} {b t : Nat} {T : List Int} (h : Blk w b t T) : w.rangeAt b 0 (ivs T) := by
  intro j v hv
  have hj : j < T.length := by have := (List.getElem?_eq_some_iff.1 hv).1; rwa [ivs_length] at this
  rw [Nat.zero_add, h.cell hj, ← hv]
  simp [ivs, List.getD, hj]

theorem Blk.there {w : World} {b t : Nat} {T : List Int} (h : Blk w b t T) : w.there b 0 T.length := by
  intro j hj
  rw [Nat.zero_add]
  exact ⟨by rw [h.cell hj]; rfl, h.frozen j⟩


theorem Keeps.frozen {X : Nat → Prop} {w w' : World} (h : Keeps X w w') {p : Addr} (hlt : p.block < w.heap.size) (hp : ¬ X p.block) : w'.frozen? p = w.frozen? p :=
  World.frozen?_of_block (w := w) (h.block p.block hlt hp)

theorem Rd.alloc {w : World} {a n c zs} (h : Rd w a n c zs) (o : Obj) : Rd (w.alloc o) a n c zs := h.mono ((Below.refl _ _).alloc (Nat.le_refl _) _)

theorem Rd.of_blk {w : World} {b t n : Nat} {L : List Int} (h : Blk w b t L) (hn : L.length = n) (hm : n ≤ maxLen) : Rd w (some ⟨b, 0, none⟩) n n L :=
  ⟨hn, Nat.le_refl _, hm, (fun e => by cases e), fun _ => ⟨b, 0, rfl, fun i hi => by rw [Nat.zero_add]; exact h.cell (by omega)⟩⟩

theorem getD_mem {zs : List Int} {k : Nat} (hk : k < zs.length) : zs.getD k 0 ∈ zs := by
  simp [List.getD, hk]

theorem take_snoc (P : List Int) (k : Nat) (hk : k < P.length) : P.take (k + 1) = P.take k ++ [P.getD k 0] := by
  rw [List.take_succ_eq_append_getElem hk]
  simp [List.getD, hk]

theorem wpList_wanted {ops : Array Oper} {rest : List Oper} {o : Oper} {a : Act} {w : World} {Q : Exit → Act → World → Prop} (hw : Region.wanted o (yielded ops a.tmps) = true)
    (h : ∀ K : Act → World → Prop, (∀ a' w', wpList Tryd.prog ops Q rest a' w' → K a' w') → o.wp Tryd.prog a w K Q) : wpList Tryd.prog ops Q (o :: rest) a w :=
  wpList_step fun K hK => by simp only [hw, if_true]; exact h K hK

theorem Keeps.grown {b : Nat} {w w' : World} (h : Keeps (fun k => k = b) w w') : w.grownBy w' (some b) :=
  ⟨h.os, h.tape, h.output, h.size, fun i hi hne => h.block i hi (fun e => hne (by rw [e]))⟩

theorem own_keeps {w w' : World} {base b e s : Nat} {v : Value} {n : Nat} {xs : List Value} (h : w.ownsRow base e s v n xs) (hk : Keeps (fun k => k = b) w w') (hb : b < base) : w'.ownsRow base e s v n xs := by
  refine h.kept hk.grown (Or.inr ?_)
  intro hh
  have := (h.lt b hh).1
  omega

theorem own_base {w : World} {base base' e s : Nat} {v : Value} {n : Nat} {xs : List Value} (h : w.ownsRow base e s v n xs) (hb : base' ≤ base) : w.ownsRow base' e s v n xs := by
  refine ⟨h.1, ?_⟩
  rcases h.2 with h2 | ⟨g, cap, cur, h1, h2, h3⟩
  · exact Or.inl h2
  · exact Or.inr ⟨g, cap, cur, h1, by omega, h3⟩

theorem drewN_heap (w : World) (n : Nat) : (w.drewN n).heap = w.heap := by cases n <;> rfl

/-- A position as a value. -/
abbrev chA (a : Option Addr) (n c : Nat) (t k e h f : Int) : Array Value := #[.slice a n c, .int .i64 t, .int .i64 k, .int .i64 e, .int .i64 h, .int .i64 f]

/-- A position lies in a block. -/
def Ch (w : World) (b : Nat) (a : Option Addr) (n c : Nat) (t k e h f : Int) : Prop := w.heap[b]? = some (.cells (chA a n c t k e h f) 24 (0, 0))

section
variable {w w' : World} {b : Nat} {a : Option Addr} {n c : Nat} {t k e h f : Int}
theorem Ch.cells (H : Ch w b a n c t k e h f) : w.cell? ⟨b, 0, none⟩ = some (.slice a n c) ∧ w.cell? ⟨b, 1, none⟩ = some (.int .i64 t) ∧ w.cell? ⟨b, 2, none⟩ = some (.int .i64 k) ∧ w.cell? ⟨b, 3, none⟩ = some (.int .i64 e) ∧ w.cell? ⟨b, 4, none⟩ = some (.int .i64 h) ∧ w.cell? ⟨b, 5, none⟩ = some (.int .i64 f) := by
  have h' : w.heap[b]? = _ := H
  simp [World.cell?, h']
theorem Ch.frozen (H : Ch w b a n c t k e h f) (i : Nat) : w.frozen? ⟨b, i, none⟩ = false := by
  have h' : w.heap[b]? = _ := H
  simp [World.frozen?, h']
theorem Ch.lt (H : Ch w b a n c t k e h f) : b < w.heap.size := (Array.getElem?_eq_some_iff.1 H).1
theorem Ch.keeps {X : Nat → Prop} (H : Ch w b a n c t k e h f) (hk : Keeps X w w') (hb : ¬ X b) : Ch w' b a n c t k e h f := (hk.block b H.lt hb).trans H
theorem Ch.below {C : Nat} (H : Ch w b a n c t k e h f) (hk : Below C w w') (hb : b < C) : Ch w' b a n c t k e h f := (hk.block b hb).trans H
theorem Ch.other {g : Nat} (H : Ch w b a n c t k e h f) (hb : b ≠ g) (i : Nat) (v : Value) : Ch (w.setCell ⟨g, i, none⟩ v) b a n c t k e h f := H.keeps (Keeps.set1 w g i v) hb
theorem Ch.setP (H : Ch w b a n c t k e h f) (a' : Option Addr) (n' c' : Nat) : Ch (w.setCell ⟨b, 0, none⟩ (.slice a' n' c')) b a' n' c' t k e h f := by
  have h' : w.heap[b]? = _ := H
  simp [Ch, World.setCell, Array.getElem?_modify, h']
end
theorem Ch.new (w : World) (a : Option Addr) (n c : Nat) (t k e h f : Int) : Ch (w.alloc (.cells (chA a n c t k e h f) 24)) w.heap.size a n c t k e h f := heap_alloc_new w _
theorem Ch.old {w : World} {b : Nat} {a : Option Addr} {n c : Nat} {t k e h f : Int} (H : Ch w b a n c t k e h f) (o : Obj) : Ch (w.alloc o) b a n c t k e h f := (Below.heap_alloc w o b H.lt).trans H
theorem size24 : (Tryd.prog.info? 24).map (·.size) = some 6 := by kernel_rfl

theorem wpList_load_ch {ops : Array Oper} {rest : List Oper} {op : Oper} {a : Act} {w : World} {Q : Exit → Act → World → Prop} (hw : Region.wanted op (yielded ops a.tmps) = true) (x : Operand) (ho : op.op = .load 24 x)
    (b : Nat) (hx : a.eval x = .pointer (some ⟨b, 0, none⟩)) {ad : Option Addr} {n c : Nat} {t k e h f : Int} (hc : Ch w b ad n c t k e h f)
    (hK : wpList Tryd.prog ops Q rest (a.put op.dst (.agg (chA ad n c t k e h f))) w) : wpList Tryd.prog ops Q (op :: rest) a w :=
  wpList_wanted hw fun _ hK' => wp_load_row 24 x ho b hx 24 _ (0, 0) _ hc Tryd.underlying24 rfl size24 (hK' _ _ hK)

theorem wpList_store_ch {ops : Array Oper} {rest : List Oper} {o : Oper} {a : Act} {w : World} {Q : Exit → Act → World → Prop} (hgd : o.guard = none) (x y : Operand) (ho : o.op = .store 24 x y)
    (b : Nat) {ad : Option Addr} {n c : Nat} {t k e h f : Int} {ad' : Option Addr} {n' c' : Nat} {t' k' e' h' f' : Int} (hx : a.eval x = .pointer (some ⟨b, 0, none⟩)) (hy : a.eval y = .agg (chA ad n c t k e h f)) (hb : Ch w b ad' n' c' t' k' e' h' f')
    (hK : ∀ w', Ch w' b ad n c t k e h f → Keeps (fun k => k = b) w w' → wpList Tryd.prog ops Q rest (a.put o.dst undef) w') : wpList Tryd.prog ops Q (o :: rest) a w := by
  refine wpList_plain hgd fun _ hK2 => ?_
  have hb' : w.heap[b]? = _ := hb
  refine wp_store_row 24 x y ho b (chA ad n c t k e h f) hx hy 24 _ hb' size24 rfl (by simp [Value.oneCell']) ?_
  refine hK2 _ _ (hK _ ?_ ?_)
  · simp [Ch, World.setRow, Array.getElem?_modify, hb']
  · exact ⟨rfl, rfl, rfl, by simp [World.setRow], fun k _ hk => by simp [World.setRow, Array.getElem?_modify, show ¬ b = k from fun e => hk e.symm]⟩

theorem results_ch {fn : Func} {t : Tmp} (hf : fn.results = #[.cell t 24]) (tmps : Array Value) (w : World) (b : Nat) (hb : tmps.getD t undef = .pointer (some ⟨b, 0, none⟩)) {ad : Option Addr} {n c : Nat} {tt k e h f : Int} (hr : Ch w b ad n c tt k e h f) :
    (results fn tmps).run Tryd.prog w = .ok (.agg (chA ad n c tt k e h f)) w :=
  results_cell_row hf tmps w b 24 _ (0, 0) _ hb hr Tryd.underlying24 rfl size24

end Go.Proofs.YtdmlamnonbmboaaDoor
