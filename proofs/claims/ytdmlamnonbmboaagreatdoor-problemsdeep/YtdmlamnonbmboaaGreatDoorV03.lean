/-
  Chess: the pieces that attack a place, found from the place, are those that the document finds from theirs. No conditions beyond those that each theorem bears.
  Chess: what a piece reaches from its place is what the document says that it attacks. No conditions beyond those that each theorem bears.
-/
import Derived.Test.YtdmlamnonbmboaaGreatDoorV02
namespace Go.Proofs.YtdmlamnonbmboaaGreatDoor
set_option maxRecDepth 20000

theorem R_len (t i : Nat) : (R t i).length = rl t i := by simp [R]

theorem R_get {t i j : Nat} (hj : j < rl t i) : (R t i)[j]? = some (rP t i j) := by
  simp [R, hj]

theorem rl_le {t i : Nat} (ht : t < 64) (hi : i < 16) : rl t i ≤ 7 := by
  have h := allN (all64 tab_ins ht) hi
  simp only [Bool.and_eq_true] at h
  exact Nat.le_of_ble_eq_true h.1

theorem ins_iff {t i j : Nat} (ht : t < 64) (hi : i < 16) (hj : j < 8) : ins (rX t i j) (rY t i j) = decide (j < rl t i) := by
  have h := allN (all64 tab_ins ht) hi
  simp only [Bool.and_eq_true] at h
  have h2 := allN h.2 hj
  simp only [Bool.and_eq_true, beq_iff_eq] at h2
  rw [h2.1]
  by_cases hh : j < rl t i
  · rw [decide_eq_true hh, Nat.blt_eq]; exact hh
  · rw [decide_eq_false hh, Bool.eq_false_iff]; intro h; exact hh (Nat.blt_eq ▸ h)

theorem rP_at {t i j : Nat} (ht : t < 64) (hi : i < 16) (hj : j < rl t i) : rP t i j < 64 ∧ ((rP t i j : Nat) : Int) = rY t i j * 8 + rX t i j := by
  have h := allN (all64 tab_ins ht) hi
  have hle := rl_le ht hi
  simp only [Bool.and_eq_true] at h
  have h2 := allN h.2 (show j < 8 by omega)
  simp only [Bool.and_eq_true, beq_iff_eq, Bool.or_eq_true, Bool.not_eq_true', decide_eq_true_eq, Nat.blt_eq] at h2
  rcases h2.2 with h3 | h3
  · exfalso
    have : Nat.blt j (rl t i) = true := by rw [Nat.blt_eq]; exact hj
    rw [this] at h3; exact absurd h3 (by simp)
  · exact h3

theorem R_lt {t i : Nat} (ht : t < 64) (hi : i < 16) : ∀ q ∈ R t i, q < 64 := by
  intro q hq
  simp only [R, List.mem_map, List.mem_range] at hq
  obtain ⟨j, hj, rfl⟩ := hq
  exact (rP_at ht hi hj).1

theorem vis_iff (Z : List Int) : ∀ (L : List Nat) (f : Nat), f ∈ vis Z true L ↔ ∃ j, L[j]? = some f ∧ ∀ a ∈ L.take j, zg Z a = 0 := by
  intro L
  induction L with
  | nil => intro f; simp [vis]
  | cons q r ih =>
    intro f
    simp only [vis, List.mem_cons, true_and]
    constructor
    · rintro (rfl | h)
      · exact ⟨0, by simp, by simp⟩
      · by_cases hq : zg Z q = 0
        · rw [if_pos hq] at h
          obtain ⟨j, hj, ha⟩ := (ih f).1 h
          exact ⟨j + 1, by simpa using hj, by simpa [hq] using ha⟩
        · rw [if_neg hq] at h; exact absurd h (by simp)
    · rintro ⟨j, hj, ha⟩
      cases j with
      | zero => left; simpa using hj.symm
      | succ j =>
        right
        have hq : zg Z q = 0 := ha q (by simp)
        rw [if_pos hq]
        exact (ih f).2 ⟨j, by simpa using hj, fun a h => ha a (by simp [h])⟩

theorem vis_near (Z : List Int) (L : List Nat) : vis Z false L = L.take 1 := by
  cases L with
  | nil => rfl
  | cons q r => simp [vis]

theorem vis_sub (Z : List Int) (b : Bool) : ∀ L : List Nat, (vis Z b L).Sublist L := by
  intro L
  induction L with
  | nil => simp [vis]
  | cons q r ih =>
    simp only [vis]
    split
    · exact List.Sublist.cons_cons q ih
    · exact List.Sublist.cons_cons q (List.nil_sublist r)

/-- So far as the walk has come. -/
theorem vis_take (Z : List Int) (b : Bool) : ∀ (j : Nat) (L : List Nat), (∀ a ∈ L.take j, b = true ∧ zg Z a = 0) → vis Z b L = L.take j ++ vis Z b (L.drop j) := by
  intro j
  induction j with
  | zero => intro L _; simp
  | succ j ih =>
    intro L h
    cases L with
    | nil => simp [vis]
    | cons q r =>
      have hq := h q (by simp)
      have := ih r (fun a ha => h a (by simp [ha]))
      simp only [vis, List.take_succ_cons, List.drop_succ_cons, List.cons_append]
      rw [if_pos hq, this]

theorem flat_sub {α β : Type} {f g : α → List β} : ∀ {A B : List α}, A.Sublist B → (∀ a, (f a).Sublist (g a)) → (A.flatMap f).Sublist (B.flatMap g) := by
  intro A B h hf
  induction h with
  | slnil => simp
  | cons a _ ih => simp only [List.flatMap_cons]; exact List.Sublist.trans ih (List.sublist_append_right _ _)
  | cons_cons a _ ih => simp only [List.flatMap_cons]; exact List.Sublist.append (hf a) ih

def KX (x : Int) : Prop := x = 1 ∨ x = -1 ∨ x = 2 ∨ x = -2 ∨ x = 3 ∨ x = -3 ∨ x = 4 ∨ x = -4 ∨ x = 5 ∨ x = -5 ∨ x = 6 ∨ x = -6

theorem KX_of {x : Int} (h1 : -6 ≤ x) (h2 : x ≤ 6) (h0 : x ≠ 0) : KX x := by unfold KX; omega
theorem KX_neg {x : Int} (h : KX x) : KX (-x) := by unfold KX at *; omega

theorem ixs_lt {x : Int} (h : KX x) : ∀ i ∈ ixs x, i < 16 := by
  rcases h with rfl | rfl | rfl | rfl | rfl | rfl | rfl | rfl | rfl | rfl | rfl | rfl <;> decide

theorem rch_lt {Z : List Int} {x : Int} (h : KX x) {t : Nat} (ht : t < 64) : ∀ q ∈ rch Z x t, q < 64 := by
  intro q hq
  simp only [rch, List.mem_flatMap] at hq
  obtain ⟨i, hi, hq⟩ := hq
  exact R_lt ht (ixs_lt h i hi) q ((vis_sub Z _ _).subset hq)

theorem nd_far {t : Nat} (ht : t < 64) : ((List.range 8).flatMap (R t)).Nodup := by
  have h := all64 tab_C ht
  simp only [Bool.and_eq_true, decide_eq_true_eq] at h
  exact h.1
theorem nd_leap {t : Nat} (ht : t < 64) : (((List.range 8).map (8 + ·)).flatMap fun i => (R t i).take 1).Nodup := by
  have h := all64 tab_C ht
  simp only [Bool.and_eq_true, decide_eq_true_eq] at h
  exact h.2

theorem sub8 {L : List Nat} (h : (List.isSublist L (List.range 8)) = true) : L.Sublist (List.range 8) := List.isSublist_iff_sublist.1 h

theorem rch_nodup (Z : List Int) {x : Int} (h : KX x) {t : Nat} (ht : t < 64) : (rch Z x t).Nodup := by
  have hs : (ixs x).Sublist (List.range 8) ∨ (x = 2 ∨ x = -2) := by
    rcases h with rfl | rfl | rfl | rfl | rfl | rfl | rfl | rfl | rfl | rfl | rfl | rfl <;>
      first | (left; exact sub8 (by decide)) | (right; decide)
  rcases hs with hs | hs
  · exact List.Pairwise.sublist (flat_sub hs (fun i => vis_sub Z _ (R t i))) (nd_far ht)
  · have hf : far x = false := by rcases hs with rfl | rfl <;> decide
    have hi : ixs x = (List.range 8).map (8 + ·) := by rcases hs with rfl | rfl <;> decide
    rw [rch, hf, hi]
    simp only [vis_near]
    exact nd_leap ht

theorem dd_ne {f t : Nat} : (dX f t = 0 ∧ dY f t = 0) ↔ f = t := by
  unfold dX dY
  omega

theorem near_at {x : Int} (hx : x = 1 ∨ x = -1 ∨ x = 2 ∨ x = -2 ∨ x = 6 ∨ x = -6) {f t : Nat} (hf : f < 64) (ht : t < 64) :
    near x f t = (((ixs (-x)).flatMap fun i => (R t i).take 1).elem f) := by
  have h := List.all_eq_true.1 tab_D x (by simp; omega)
  have h2 := all64 (all64 h ht) hf
  exact beq_iff_eq.1 h2

theorem far_at {Z : List Int} {i t f : Nat} (hi : i < 8) (ht : t < 64) (h : f ∈ vis Z true (R t i)) :
    (∀ a ∈ btw f t, zg Z a = 0) ∧ ¬ (dX f t = 0 ∧ dY f t = 0) ∧ (i < 4 → strai f t = true) ∧ (4 ≤ i → slant f t = true) := by
  obtain ⟨j, hj, ha⟩ := (vis_iff Z _ f).1 h
  have hjl : j < rl t i := by
    have := (List.getElem?_eq_some_iff.1 hj).1
    rwa [R_len] at this
  rw [R_get hjl] at hj
  have hj' : rP t i j = f := by simpa using hj
  have hA := allN (allN (all64 tab_A ht) hi) hjl
  simp only [Bool.and_eq_true, decide_eq_true_eq] at hA
  rw [hj'] at hA
  obtain ⟨⟨h1, h2⟩, h3⟩ := hA
  refine ⟨fun a h => ha a ?_, ?_, ?_, ?_⟩
  · rw [h1]; exact List.mem_reverse.2 h
  · rintro ⟨e1, e2⟩
    rw [e1, e2] at h2; simp at h2
  · intro h4
    rw [if_pos (by rw [Nat.blt_eq]; exact h4)] at h3; exact h3
  · intro h4
    rw [if_neg (by rw [Nat.blt_eq]; omega)] at h3; exact h3

theorem far_of {Z : List Int} {i t f : Nat} (hi : i < 8) (ht : t < 64) (hf : f ∈ R t i) (h : ∀ a ∈ btw f t, zg Z a = 0) : f ∈ vis Z true (R t i) := by
  obtain ⟨j, hj⟩ := List.mem_iff_getElem?.1 hf
  have hjl : j < rl t i := by
    have := (List.getElem?_eq_some_iff.1 hj).1
    rwa [R_len] at this
  refine (vis_iff Z _ f).2 ⟨j, hj, ?_⟩
  rw [R_get hjl] at hj
  have hj' : rP t i j = f := by simpa using hj
  have hA := allN (allN (all64 tab_A ht) hi) hjl
  simp only [Bool.and_eq_true, decide_eq_true_eq] at hA
  rw [hj'] at hA
  intro a ha
  rw [hA.1.1] at ha
  exact h a (List.mem_reverse.1 ha)

theorem lines {t f : Nat} (ht : t < 64) (hf : f < 64) (hne : f ≠ t) : (strai f t = true → ∃ i, i < 4 ∧ f ∈ R t i) ∧ (slant f t = true → ∃ i, 4 ≤ i ∧ i < 8 ∧ f ∈ R t i) := by
  have h := all64 (all64 tab_B ht) hf
  simp only [Bool.or_eq_true, Bool.and_eq_true, Bool.not_eq_true', List.any_eq_true, List.mem_range, List.elem_eq_mem, decide_eq_true_eq] at h
  rcases h with h | ⟨h1, h2⟩
  · exact absurd (Nat.eq_of_beq_eq_true h) hne
  · refine ⟨fun e => ?_, fun e => ?_⟩
    · rcases h1 with h1 | ⟨i, hi, h1⟩
      · rw [e] at h1; simp at h1
      · exact ⟨i, hi, h1⟩
    · rcases h2 with h2 | ⟨i, hi, h2⟩
      · rw [e] at h2; simp at h2
      · exact ⟨4 + i, by omega, by omega, h2⟩

/-- ATTACKS FROM THERE AND FROM HERE ARE THE SAME. -/
theorem atR_iff (Z : List Int) {f t : Nat} (hf : f < 64) (ht : t < 64) (hx : KX (zg Z f)) : atR Z f t = true ↔ f ∈ rch Z (-(zg Z f)) t := by
  have hnear : ∀ x : Int, zg Z f = x → (x = 1 ∨ x = -1 ∨ x = 2 ∨ x = -2 ∨ x = 6 ∨ x = -6) → (atR Z f t = true ↔ f ∈ rch Z (-x) t) := by
    intro x e hx
    have hfar : far (-x) = false := by rcases hx with rfl | rfl | rfl | rfl | rfl | rfl <;> decide
    have hn := near_at hx hf ht
    have hr : f ∈ rch Z (-x) t ↔ near x f t = true := by
      rw [hn, rch, hfar]
      simp only [vis_near, List.elem_eq_mem, decide_eq_true_eq]
    rw [hr]
    unfold atR near
    rw [e]
    by_cases hz : dX f t = 0 ∧ dY f t = 0
    · simp [hz]
    · have hz' : (!(decide (dX f t = 0) && decide (dY f t = 0))) = true := by
        simp only [Bool.not_eq_true', Bool.and_eq_false_iff, decide_eq_false_iff_not]
        by_cases h1 : dX f t = 0
        · exact Or.inr (fun h2 => hz ⟨h1, h2⟩)
        · exact Or.inl h1
      rw [if_neg hz, hz', Bool.true_and]
      rcases hx with rfl | rfl | rfl | rfl | rfl | rfl <;> simp
  have hfar : ∀ x : Int, zg Z f = x → (x = 3 ∨ x = -3 ∨ x = 4 ∨ x = -4 ∨ x = 5 ∨ x = -5) → (atR Z f t = true ↔ f ∈ rch Z (-x) t) := by
    intro x e hx
    have hfr : far (-x) = true := by rcases hx with rfl | rfl | rfl | rfl | rfl | rfl <;> decide
    have h1 : ¬ x.natAbs = 1 := by omega
    have h2 : ¬ x.natAbs = 2 := by omega
    have h6 : ¬ x.natAbs = 6 := by omega
    have h0 : ¬ x = 0 := by omega
    unfold atR
    rw [e, if_neg h1, if_neg h2, if_neg h6, rch, hfr]
    simp only [List.mem_flatMap]
    constructor
    · intro h
      by_cases hz : dX f t = 0 ∧ dY f t = 0
      · rw [if_pos hz] at h; simp at h
      · rw [if_neg hz] at h
        by_cases hc : x = 0 ∨ (slant f t = false ∧ strai f t = false) ∨ (x.natAbs = 3 ∧ slant f t = false) ∨ (x.natAbs = 4 ∧ strai f t = false)
        · rw [if_pos hc] at h; simp at h
        · rw [if_neg hc] at h
          have hb : ∀ a ∈ btw f t, zg Z a = 0 := by
            intro a ha
            have := List.all_eq_true.1 h a ha
            simpa using this
          have hne : f ≠ t := fun e => hz (dd_ne.2 e)
          obtain ⟨l1, l2⟩ := lines ht hf hne
          have hcs : (strai f t = true ∧ x.natAbs ≠ 3) ∨ (slant f t = true ∧ x.natAbs ≠ 4) := by
            cases hs : strai f t <;> cases hl : slant f t <;> simp [hs, hl] at hc ⊢ <;> omega
          rcases hcs with ⟨hs, hk⟩ | ⟨hs, hk⟩
          · obtain ⟨i, hi, hm⟩ := l1 hs
            refine ⟨i, ?_, far_of (by omega) ht hm hb⟩
            have : i = 0 ∨ i = 1 ∨ i = 2 ∨ i = 3 := by omega
            rcases hx with rfl | rfl | rfl | rfl | rfl | rfl <;> first | (exact absurd rfl hk) | (rcases this with rfl | rfl | rfl | rfl <;> decide)
          · obtain ⟨i, hi, hi8, hm⟩ := l2 hs
            refine ⟨i, ?_, far_of hi8 ht hm hb⟩
            have : i = 4 ∨ i = 5 ∨ i = 6 ∨ i = 7 := by omega
            rcases hx with rfl | rfl | rfl | rfl | rfl | rfl <;> first | (exact absurd rfl hk) | (rcases this with rfl | rfl | rfl | rfl <;> decide)
    · rintro ⟨i, hi, hv⟩
      have hi8 : i < 8 ∧ (x.natAbs = 3 → 4 ≤ i) ∧ (x.natAbs = 4 → i < 4) := by
        rcases hx with rfl | rfl | rfl | rfl | rfl | rfl <;> (clear hv; revert hi; revert i; decide)
      obtain ⟨hb, hz, hs, hl⟩ := far_at hi8.1 ht hv
      rw [if_neg hz]
      have hc : ¬ (x = 0 ∨ (slant f t = false ∧ strai f t = false) ∨ (x.natAbs = 3 ∧ slant f t = false) ∨ (x.natAbs = 4 ∧ strai f t = false)) := by
        rintro (h | ⟨ha, hb2⟩ | ⟨ha, hb2⟩ | ⟨ha, hb2⟩)
        · exact h0 h
        · by_cases h4 : i < 4
          · rw [hs h4] at hb2; simp at hb2
          · rw [hl (by omega)] at ha; simp at ha
        · rw [hl (hi8.2.1 ha)] at hb2; simp at hb2
        · rw [hs (hi8.2.2 ha)] at hb2; simp at hb2
      rw [if_neg hc]
      exact List.all_eq_true.2 (fun a ha => by simpa using hb a ha)
  unfold KX at hx
  rcases hx with h | h | h | h | h | h | h | h | h | h | h | h <;> rw [h] <;>
    first | exact hnear _ h (by decide) | exact hfar _ h (by decide)

/-- Numbers as pieces have them. -/
def Pz (Z : List Int) : Prop := Z.length = 64 ∧ ∀ q, -6 ≤ zg Z q ∧ zg Z q ≤ 6

theorem pc_kx {b k : Nat} (hk : k < 6) : KX (pc b (k + 1)) := by
  unfold pc KX
  split <;> omega

theorem pc_inj {b k k2 : Nat} (h : pc b (k + 1) = pc b (k2 + 1)) : k = k2 := by
  unfold pc at h
  split at h <;> omega

theorem mem_atk {Z : List Int} (hz : Pz Z) {t b : Nat} (ht : t < 64) (hb : b = 0 ∨ b = 1) (q : Nat) : q ∈ atk Z t b ↔ q ∈ atL Z t b := by
  simp only [atk, atL, List.mem_flatMap, List.mem_range, List.mem_filter, beq_iff_eq, Bool.and_eq_true]
  constructor
  · rintro ⟨k, hk, hm, hq⟩
    have hk6 := pc_kx (b := b) hk
    have hq64 := rch_lt (KX_neg hk6) ht q hm
    refine ⟨hq64, ?_, ?_⟩
    · rw [hq]; unfold sd pc
      rcases hb with rfl | rfl
      · simp only [if_true]; rw [if_pos (by omega)]; rfl
      · simp only [Nat.succ_ne_zero, if_false]; rw [if_neg (by omega), if_pos (by omega)]; rfl
    · rw [← hq] at hm hk6
      exact (atR_iff Z hq64 ht hk6).2 hm
  · rintro ⟨hq64, hs, ha⟩
    have hx : zg Z q ≠ 0 ∧ ∃ k, k < 6 ∧ zg Z q = pc b (k + 1) := by
      have := hz.2 q
      unfold sd at hs
      refine ⟨fun e => ?_, (zg Z q).natAbs - 1, ?_, ?_⟩
      · rw [e] at hs; simp only [Int.lt_irrefl, if_false] at hs; omega
      · split at hs <;> first | omega | (split at hs <;> omega)
      · unfold pc
        rcases hb with rfl | rfl
        · split at hs <;> first | (simp; omega) | (split at hs <;> simp at hs)
        · split at hs <;> first | (simp at hs; done) | (split at hs <;> first | (simp; omega) | (simp at hs))
    obtain ⟨h0, k, hk, he⟩ := hx
    have hkx := KX_of (hz.2 q).1 (hz.2 q).2 h0
    exact ⟨k, hk, by rw [← he]; exact (atR_iff Z hq64 ht hkx).1 ha, he⟩

theorem atk_lt {Z : List Int} (hz : Pz Z) {t b : Nat} (ht : t < 64) (hb : b = 0 ∨ b = 1) : ∀ q ∈ atk Z t b, q < 64 := by
  intro q hq
  have := (mem_atk hz ht hb q).1 hq
  simp only [atL, List.mem_filter, List.mem_range] at this
  exact this.1

theorem nodup_flat {α : Type} {f : α → List Nat} : ∀ {L : List α}, L.Nodup → (∀ a, (f a).Nodup) → (∀ a b q, q ∈ f a → q ∈ f b → a = b) → (L.flatMap f).Nodup := by
  intro L hL hf hd
  induction L with
  | nil => simp
  | cons a r ih =>
    rw [List.nodup_cons] at hL
    simp only [List.flatMap_cons]
    refine List.nodup_append.2 ⟨hf a, ih hL.2, ?_⟩
    intro x hx y hy hxy
    subst hxy
    obtain ⟨b, hb, hxb⟩ := List.mem_flatMap.1 hy
    have := hd a b x hx hxb
    subst this
    exact hL.1 hb

theorem atk_nodup (Z : List Int) {t : Nat} (b : Nat) (ht : t < 64) : (atk Z t b).Nodup := by
  unfold atk
  have : ((List.range 6).flatMap fun k => if k < 6 then (rch Z (-(pc b (k + 1))) t).filter (fun q => zg Z q == pc b (k + 1)) else []) = (List.range 6).flatMap fun k => (rch Z (-(pc b (k + 1))) t).filter fun q => zg Z q == pc b (k + 1) := by
    simp [List.range_succ]
  rw [← this]
  refine nodup_flat (List.nodup_range) ?_ ?_
  · intro k
    by_cases hk : k < 6
    · rw [if_pos hk]
      exact List.Pairwise.sublist List.filter_sublist (rch_nodup Z (KX_neg (pc_kx hk)) ht)
    · rw [if_neg hk]; simp
  · intro k k2 q h1 h2
    by_cases hk : k < 6 <;> by_cases hk2 : k2 < 6
    · rw [if_pos hk] at h1; rw [if_pos hk2] at h2
      simp only [List.mem_filter, beq_iff_eq] at h1 h2
      exact pc_inj (h1.2.symm.trans h2.2)
    · rw [if_neg hk2] at h2; simp at h2
    · rw [if_neg hk] at h1; simp at h1
    · rw [if_neg hk] at h1; simp at h1

end Go.Proofs.YtdmlamnonbmboaaGreatDoor

namespace Go.Proofs.YtdmlamnonbmboaaGreatDoor
set_option maxRecDepth 20000

theorem tab_F : ((List.range 64).all fun f => (List.range 8).all fun i => (List.range (rl f i)).all fun j => decide ((R f i).take j = btw f (rP f i j)) && !(decide (dX f (rP f i j) = 0) && decide (dY f (rP f i j) = 0)) && (if Nat.blt i 4 then strai f (rP f i j) else slant f (rP f i j))) = true := by decide +kernel

theorem tab_G : ((List.range 64).all fun f => (List.range 64).all fun t => (Nat.beq f t) || ((!(strai f t) || (List.range 4).any fun i => (R f i).elem t) && (!(slant f t) || (List.range 4).any fun i => (R f (4 + i)).elem t))) = true := by decide +kernel

theorem tab_H : ([1, -1, 2, -2, 6, -6].all fun x => (List.range 64).all fun t => (List.range 64).all fun f => near x f t == (((ixs x).flatMap fun i => (R f i).take 1).elem t)) = true := by decide +kernel

theorem near_fw {x : Int} (hx : x = 1 ∨ x = -1 ∨ x = 2 ∨ x = -2 ∨ x = 6 ∨ x = -6) {f t : Nat} (hf : f < 64) (ht : t < 64) :
    near x f t = (((ixs x).flatMap fun i => (R f i).take 1).elem t) := by
  have h := List.all_eq_true.1 tab_H x (by simp; omega)
  have h2 := all64 (all64 h ht) hf
  exact beq_iff_eq.1 h2

theorem far_fw {Z : List Int} {i t f : Nat} (hi : i < 8) (hf : f < 64) (h : t ∈ vis Z true (R f i)) :
    (∀ a ∈ btw f t, zg Z a = 0) ∧ ¬ (dX f t = 0 ∧ dY f t = 0) ∧ (i < 4 → strai f t = true) ∧ (4 ≤ i → slant f t = true) := by
  obtain ⟨j, hj, ha⟩ := (vis_iff Z _ t).1 h
  have hjl : j < rl f i := by
    have := (List.getElem?_eq_some_iff.1 hj).1
    rwa [R_len] at this
  rw [R_get hjl] at hj
  have hj' : rP f i j = t := by simpa using hj
  have hA := allN (allN (all64 tab_F hf) hi) hjl
  simp only [Bool.and_eq_true, decide_eq_true_eq] at hA
  rw [hj'] at hA
  obtain ⟨⟨h1, h2⟩, h3⟩ := hA
  refine ⟨fun a h => ha a ?_, ?_, ?_, ?_⟩
  · rw [h1]; exact h
  · rintro ⟨e1, e2⟩
    rw [e1, e2] at h2; simp at h2
  · intro h4
    rw [if_pos (by rw [Nat.blt_eq]; exact h4)] at h3; exact h3
  · intro h4
    rw [if_neg (by rw [Nat.blt_eq]; omega)] at h3; exact h3

theorem far_fo {Z : List Int} {i t f : Nat} (hi : i < 8) (hf : f < 64) (ht : t ∈ R f i) (h : ∀ a ∈ btw f t, zg Z a = 0) : t ∈ vis Z true (R f i) := by
  obtain ⟨j, hj⟩ := List.mem_iff_getElem?.1 ht
  have hjl : j < rl f i := by
    have := (List.getElem?_eq_some_iff.1 hj).1
    rwa [R_len] at this
  refine (vis_iff Z _ t).2 ⟨j, hj, ?_⟩
  rw [R_get hjl] at hj
  have hj' : rP f i j = t := by simpa using hj
  have hA := allN (allN (all64 tab_F hf) hi) hjl
  simp only [Bool.and_eq_true, decide_eq_true_eq] at hA
  rw [hj'] at hA
  intro a ha
  rw [hA.1.1] at ha
  exact h a ha

theorem lines_fw {t f : Nat} (hf : f < 64) (ht : t < 64) (hne : f ≠ t) : (strai f t = true → ∃ i, i < 4 ∧ t ∈ R f i) ∧ (slant f t = true → ∃ i, 4 ≤ i ∧ i < 8 ∧ t ∈ R f i) := by
  have h := all64 (all64 tab_G hf) ht
  simp only [Bool.or_eq_true, Bool.and_eq_true, Bool.not_eq_true', List.any_eq_true, List.mem_range, List.elem_eq_mem, decide_eq_true_eq] at h
  rcases h with h | ⟨h1, h2⟩
  · exact absurd (Nat.eq_of_beq_eq_true h) hne
  · refine ⟨fun e => ?_, fun e => ?_⟩
    · rcases h1 with h1 | ⟨i, hi, h1⟩
      · rw [e] at h1; simp at h1
      · exact ⟨i, hi, h1⟩
    · rcases h2 with h2 | ⟨i, hi, h2⟩
      · rw [e] at h2; simp at h2
      · exact ⟨4 + i, by omega, by omega, h2⟩

/-- WHAT IS REACHED IS WHAT IS ATTACKED. -/
theorem rch_iff (Z : List Int) {f t : Nat} (hf : f < 64) (ht : t < 64) (hx : KX (zg Z f)) : atR Z f t = true ↔ t ∈ rch Z (zg Z f) f := by
  have hnear : ∀ x : Int, zg Z f = x → (x = 1 ∨ x = -1 ∨ x = 2 ∨ x = -2 ∨ x = 6 ∨ x = -6) → (atR Z f t = true ↔ t ∈ rch Z x f) := by
    intro x e hx
    have hfar : far x = false := by rcases hx with rfl | rfl | rfl | rfl | rfl | rfl <;> decide
    have hn := near_fw hx hf ht
    have hr : t ∈ rch Z x f ↔ near x f t = true := by
      rw [hn, rch, hfar]
      simp only [vis_near, List.elem_eq_mem, decide_eq_true_eq]
    rw [hr]
    unfold atR near
    rw [e]
    by_cases hz : dX f t = 0 ∧ dY f t = 0
    · simp [hz]
    · have hz' : (!(decide (dX f t = 0) && decide (dY f t = 0))) = true := by
        simp only [Bool.not_eq_true', Bool.and_eq_false_iff, decide_eq_false_iff_not]
        by_cases h1 : dX f t = 0
        · exact Or.inr (fun h2 => hz ⟨h1, h2⟩)
        · exact Or.inl h1
      rw [if_neg hz, hz', Bool.true_and]
      rcases hx with rfl | rfl | rfl | rfl | rfl | rfl <;> simp
  have hfar : ∀ x : Int, zg Z f = x → (x = 3 ∨ x = -3 ∨ x = 4 ∨ x = -4 ∨ x = 5 ∨ x = -5) → (atR Z f t = true ↔ t ∈ rch Z x f) := by
    intro x e hx
    have hfr : far x = true := by rcases hx with rfl | rfl | rfl | rfl | rfl | rfl <;> decide
    have h1 : ¬ x.natAbs = 1 := by omega
    have h2 : ¬ x.natAbs = 2 := by omega
    have h6 : ¬ x.natAbs = 6 := by omega
    have h0 : ¬ x = 0 := by omega
    unfold atR
    rw [e, if_neg h1, if_neg h2, if_neg h6, rch, hfr]
    simp only [List.mem_flatMap]
    constructor
    · intro h
      by_cases hz : dX f t = 0 ∧ dY f t = 0
      · rw [if_pos hz] at h; simp at h
      · rw [if_neg hz] at h
        by_cases hc : x = 0 ∨ (slant f t = false ∧ strai f t = false) ∨ (x.natAbs = 3 ∧ slant f t = false) ∨ (x.natAbs = 4 ∧ strai f t = false)
        · rw [if_pos hc] at h; simp at h
        · rw [if_neg hc] at h
          have hb : ∀ a ∈ btw f t, zg Z a = 0 := by
            intro a ha
            have := List.all_eq_true.1 h a ha
            simpa using this
          have hne : f ≠ t := fun e => hz (dd_ne.2 e)
          obtain ⟨l1, l2⟩ := lines_fw hf ht hne
          have hcs : (strai f t = true ∧ x.natAbs ≠ 3) ∨ (slant f t = true ∧ x.natAbs ≠ 4) := by
            cases hs : strai f t <;> cases hl : slant f t <;> simp [hs, hl] at hc ⊢ <;> omega
          rcases hcs with ⟨hs, hk⟩ | ⟨hs, hk⟩
          · obtain ⟨i, hi, hm⟩ := l1 hs
            refine ⟨i, ?_, far_fo (by omega) hf hm hb⟩
            have : i = 0 ∨ i = 1 ∨ i = 2 ∨ i = 3 := by omega
            rcases hx with rfl | rfl | rfl | rfl | rfl | rfl <;> first | (exact absurd rfl hk) | (rcases this with rfl | rfl | rfl | rfl <;> decide)
          · obtain ⟨i, hi, hi8, hm⟩ := l2 hs
            refine ⟨i, ?_, far_fo hi8 hf hm hb⟩
            have : i = 4 ∨ i = 5 ∨ i = 6 ∨ i = 7 := by omega
            rcases hx with rfl | rfl | rfl | rfl | rfl | rfl <;> first | (exact absurd rfl hk) | (rcases this with rfl | rfl | rfl | rfl <;> decide)
    · rintro ⟨i, hi, hv⟩
      have hi8 : i < 8 ∧ (x.natAbs = 3 → 4 ≤ i) ∧ (x.natAbs = 4 → i < 4) := by
        rcases hx with rfl | rfl | rfl | rfl | rfl | rfl <;> (clear hv; revert hi; revert i; decide)
      obtain ⟨hb, hz, hs, hl⟩ := far_fw hi8.1 hf hv
      rw [if_neg hz]
      have hc : ¬ (x = 0 ∨ (slant f t = false ∧ strai f t = false) ∨ (x.natAbs = 3 ∧ slant f t = false) ∨ (x.natAbs = 4 ∧ strai f t = false)) := by
        rintro (h | ⟨ha, hb2⟩ | ⟨ha, hb2⟩ | ⟨ha, hb2⟩)
        · exact h0 h
        · by_cases h4 : i < 4
          · rw [hs h4] at hb2; simp at hb2
          · rw [hl (by omega)] at ha; simp at ha
        · rw [hl (hi8.2.1 ha)] at hb2; simp at hb2
        · rw [hs (hi8.2.2 ha)] at hb2; simp at hb2
      rw [if_neg hc]
      exact List.all_eq_true.2 (fun a ha => by simpa using hb a ha)
  unfold KX at hx
  rcases hx with h | h | h | h | h | h | h | h | h | h | h | h <;> rw [h] <;>
    first | exact hnear _ h (by decide) | exact hfar _ h (by decide)

end Go.Proofs.YtdmlamnonbmboaaGreatDoor
