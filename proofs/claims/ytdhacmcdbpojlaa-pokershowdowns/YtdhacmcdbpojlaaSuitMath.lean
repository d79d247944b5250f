/-
  What the law 'PokerSuits' hangs on: values are above nothing; the best five are worth what the hand is; more cards make no less; turned hands with changed suits are worth the same. No conditions beyond those that each theorem bears.
-/
import Derived.Test.YtdhacmcdbpojlaaPerm
namespace Go.Proofs.Ytdhacmcdbpojlaa
open Go.RowKit Go.Shelf

theorem digits_ge (l : List Nat) : ∀ c, c ≤ digits c l := by
  induction l with
  | nil => intro c; exact Nat.le_refl _
  | cons x l ih =>
    intro c
    have := ih (c * 13 + x)
    show c ≤ digits (c * 13 + x) l
    omega

theorem digits_pos (l : List Nat) : ∀ c x, x ∈ l → 0 < x → 0 < digits c l := by
  induction l with
  | nil => intro c x hx; simp at hx
  | cons y l ih =>
    intro c x hx h0
    show 0 < digits (c * 13 + y) l
    rcases List.mem_cons.1 hx with rfl | hx
    · have := digits_ge l (c * 13 + x); omega
    · exact ih _ x hx h0

theorem stepS_has (ws : List Nat) (k : Nat) (hk : k ≤ 5) : (stepS ws k).1 ≤ k ∧ (stepS ws k).2.length = 5 ∧ ∀ j, j < k → ∃ i, i < (stepS ws k).1 ∧ (stepS ws k).2.getD i 0 = ws.getD (4 - j) 0 % 13 := by
  induction k with
  | zero => exact ⟨Nat.le_refl _, rfl, fun j hj => absurd hj (by omega)⟩
  | succ k ih =>
    obtain ⟨h1, h2, h3⟩ := ih (by omega)
    unfold stepS
    split
    · rename_i hc
      refine ⟨by show _ + 1 ≤ _; omega, by simp [h2], fun j hj => ?_⟩
      by_cases hjk : j = k
      · subst hjk
        exact ⟨(stepS ws j).1, by show _ < _ + 1; omega, by simp [List.getD, h2, show (stepS ws j).1 < 5 by omega]⟩
      · obtain ⟨i, hi, e⟩ := h3 j (by omega)
        refine ⟨i, by show _ < _ + 1; omega, ?_⟩
        rw [← e]
        show ((stepS ws k).2.set _ _).getD i 0 = _
        simp [List.getD, show ¬ (stepS ws k).1 = i by omega]
    · rename_i hc
      refine ⟨by omega, h2, fun j hj => ?_⟩
      by_cases hjk : j = k
      · subst hjk
        have hk0 : j ≠ 0 := fun h => hc (.inl h)
        have he : ws.getD (4 - j) 0 = ws.getD (5 - j) 0 := Classical.byContradiction fun h => hc (.inr h)
        obtain ⟨i, hi, e⟩ := h3 (j - 1) (by omega)
        refine ⟨i, hi, ?_⟩
        rw [e, he, show 4 - (j - 1) = 5 - j by omega]
      · exact h3 j (by omega)

theorem isort_lenW (h : List Nat) : (wsOf h).length = h.length := by
  rw [wsOf]
  have := (isort_perm (h.map (wt h))).length_eq
  simpa using this

theorem signs_all (h : List Nat) (h5 : h.length = 5) (hlt : ∀ x ∈ h, x < 52) (x : Nat) (hx : x ∈ h) : x / 4 ∈ (stepS (wsOf h) 5).2 := by
  have hm : wt h x ∈ wsOf h := by rw [wsOf]; exact (isort_perm _).mem_iff.2 (List.mem_map.2 ⟨x, hx, rfl⟩)
  obtain ⟨p, hp, e⟩ := List.getElem_of_mem hm
  rw [isort_lenW, h5] at hp
  obtain ⟨q1, q2, q3⟩ := stepS_has (wsOf h) 5 (by omega)
  obtain ⟨i, hi, e2⟩ := q3 (4 - p) (by omega)
  have e3 : (wsOf h).getD p 0 = wt h x := by rw [List.getD, List.getElem?_eq_getElem (by rw [isort_lenW, h5]; exact hp), e]; rfl
  rw [show 4 - (4 - p) = p by omega, e3] at e2
  have e4 : wt h x % 13 = x / 4 := by have := hlt x hx; unfold wt; omega
  rw [e4] at e2
  rw [← e2, List.getD, List.getElem?_eq_getElem (by omega)]
  exact List.getElem_mem _

theorem valL_pos {h : List Nat} (h5 : h.length = 5) (hlt : ∀ x ∈ h, x < 52) (hnd : h.Nodup) : 0 < valL h := by
  have hx : ∃ x ∈ h, 0 < x / 4 := by
    apply Classical.byContradiction
    intro hno
    have h0 : ∀ x ∈ h, x < 4 := fun x hx => by
      have : ¬ 0 < x / 4 := fun hp => hno ⟨x, hx, hp⟩
      omega
    have := hnd.length_le_of_subset (l₂ := [0, 1, 2, 3]) (fun x hx => by have := h0 x hx; simp; omega)
    simp [h5] at this
  obtain ⟨x, hx, hp⟩ := hx
  have hs := signs_all h h5 hlt x hx
  match h, h5 with
  | [a, b, c, d, e], _ =>
    show 0 < valN a b c d e
    unfold valN valF
    dsimp only
    split
    · split
      · rename_i hb
        have := digits_ge [topS ((stepS (wsOf [a, b, c, d, e]) 5).2.getD 0 0) ((stepS (wsOf [a, b, c, d, e]) 5).2.getD 1 0) ((stepS (wsOf [a, b, c, d, e]) 5).2.getD 4 0), 0, 0, 0, 0] (byLine (flN a b c d e) (topS ((stepS (wsOf [a, b, c, d, e]) 5).2.getD 0 0) ((stepS (wsOf [a, b, c, d, e]) 5).2.getD 1 0) ((stepS (wsOf [a, b, c, d, e]) 5).2.getD 4 0)))
        omega
      · exact digits_pos _ _ _ hs hp
    · exact digits_pos _ _ _ hs hp

/-- Unlike cards, so many. -/
structure Cards (n : Nat) (L : List Nat) : Prop where
  len : L.length = n
  nd : L.Nodup
  lt : ∀ x ∈ L, x < 52

/-- The value of so many cards. -/
def bv (L : List Nat) : Int := (bestF (comb 5 L)).1

theorem Cards.hand {n : Nat} {L : List Nat} (h : Cards n L) (h5 : 5 ≤ n) (h7 : n ≤ 7) : handE (toI L) = 0 := by
  have hl : (toI L).length = n := by rw [toI, List.length_map, h.len]
  rw [handE, if_neg (by omega), mayE, if_pos, if_pos]
  · rw [toI, List.Nodup, List.pairwise_map]
    exact h.nd.imp (fun hne e => hne (by omega))
  · rw [inRange, toI, List.all_eq_true]
    intro z hz
    obtain ⟨x, hx, rfl⟩ := List.mem_map.1 hz
    have := h.lt x hx
    simp only [decide_eq_true_eq]
    omega

theorem bestZ_toI (L : List Nat) : bestZ (toI L) = bestF (comb 5 L) := by
  rw [bestZ, natL_toI, toI, List.length_map, comb_pick]

theorem Cards.value {n : Nat} {L : List Nat} (h : Cards n L) (h5 : 5 ≤ n) (h7 : n ≤ 7) : valueV (toI L) = bv L := by
  rw [valueV, if_pos (h.hand h5 h7), bestZ_toI]; rfl

theorem comb_ne {l : List Nat} {k : Nat} (h : k ≤ l.length) : comb k l ≠ [] := by
  have key : l.take k ∈ comb k (l.take k) := by
    have : ∀ m : List Nat, m ∈ comb m.length m := by
      intro m
      induction m with
      | nil => simp [comb]
      | cons x m ih => simp only [List.length_cons, comb, List.mem_append, List.mem_map]; exact .inl ⟨m, ih, rfl⟩
    have h1 := this (l.take k)
    rwa [List.length_take, Nat.min_eq_left h] at h1
  intro he
  have := comb_sub (List.take_sublist k l) k _ key
  rw [he] at this
  simp at this

theorem comb_sublist : ∀ (l : List Nat) (k : Nat) (s : List Nat), s ∈ comb k l → s.Sublist l := by
  intro l
  induction l with
  | nil => intro k s hs; cases k <;> simp [comb] at hs; subst hs; exact List.nil_sublist _
  | cons x l ih =>
    intro k s hs
    cases k with
    | zero => simp [comb] at hs; subst hs; exact List.nil_sublist _
    | succ k =>
      simp only [comb, List.mem_append, List.mem_map] at hs
      rcases hs with ⟨t, ht, rfl⟩ | hs
      · exact (ih k t ht).cons_cons x
      · exact (ih (k + 1) s hs).cons x

theorem comb_all (l : List Nat) (h : l.length = 5) : comb 5 l = [l] := by
  match l, h with
  | [a, b, c, d, e], _ => rfl

/-- The best five: they are cards, and worth what the hand is; and that is above nothing. -/
theorem Cards.best {n : Nat} {L : List Nat} (h : Cards n L) (h5 : 5 ≤ n) (h7 : n ≤ 7) : ∃ F, Cards 5 F ∧ bestL (toI L) = toI F ∧ bv F = bv L ∧ 0 < bv L := by
  obtain ⟨F, hF, e⟩ := (best_max (comb 5 L)).2 (comb_ne (by rw [h.len]; exact h5))
  have hsub := comb_sublist L 5 F hF
  have hC : Cards 5 F := ⟨comb_len L 5 F hF, hsub.nodup h.nd, fun x hx => h.lt x (hsub.subset hx)⟩
  have e1 : bv L = (valL F : Int) := by rw [bv, e]
  refine ⟨F, hC, ?_, ?_, ?_⟩
  · rw [bestL, if_pos (h.hand h5 h7), bestZ_toI, e]
  · rw [e1, bv, comb_all F hC.len]
    have := (best_max [F]).2 (by simp)
    obtain ⟨G, hG, eG⟩ := this
    simp only [List.mem_singleton] at hG
    subst hG
    rw [eG]
  · rw [e1]
    have := valL_pos hC.len hC.lt hC.nd
    omega

theorem Cards.take {n : Nat} {L : List Nat} (h : Cards n L) (k : Nat) (hk : k ≤ n) : Cards k (L.take k) :=
  ⟨by rw [List.length_take, h.len]; omega, (List.take_sublist k L).nodup h.nd, fun x hx => h.lt x (List.mem_of_mem_take hx)⟩

theorem bv_sub {l l' : List Nat} (h : l.Sublist l') (h5 : 5 ≤ l.length) : bv l ≤ bv l' :=
  best_le (comb_ne h5) fun x hx => ⟨x, comb_sub h 5 x hx, rfl⟩

theorem bv_perm {l l' : List Nat} (h : l.Perm l') (h5 : 5 ≤ l.length) : bv l = bv l' := by
  refine Int.le_antisymm (best_le (comb_ne h5) fun x hx => ?_) (best_le (comb_ne (by rw [← h.length_eq]; exact h5)) fun x hx => ?_)
  · obtain ⟨y, hy, hp⟩ := comb_perm h 5 x hx
    exact ⟨y, hy, valL_perm (comb_len l 5 x hx) hp⟩
  · obtain ⟨y, hy, hp⟩ := comb_perm h.symm 5 x hx
    exact ⟨y, hy, valL_perm (comb_len l' 5 x hx) hp⟩

theorem bv_suited (f : Nat → Nat) (hf : ∀ i, i < 4 → f i < 4) (hi : ∀ i j, i < 4 → j < 4 → f i = f j → i = j) {l : List Nat} (h5 : 5 ≤ l.length) : bv (l.map (suited f)) = bv l := by
  refine Int.le_antisymm (best_le (comb_ne (by rw [List.length_map]; exact h5)) fun x hx => ?_) (best_le (comb_ne h5) fun x hx => ?_)
  · rw [comb_map] at hx
    obtain ⟨y, hy, rfl⟩ := List.mem_map.1 hx
    exact ⟨y, hy, valL_suited f hf hi (comb_len l 5 y hy)⟩
  · refine ⟨x.map (suited f), ?_, (valL_suited f hf hi (comb_len l 5 x hx)).symm⟩
    rw [comb_map]
    exact List.mem_map.2 ⟨x, hx, rfl⟩

theorem Cards.suited {n : Nat} {L : List Nat} (h : Cards n L) (f : Nat → Nat) (hf : ∀ i, i < 4 → f i < 4) (hi : ∀ i j, i < 4 → j < 4 → f i = f j → i = j) : Cards n (L.map (suited f)) := by
  have hr : ∀ c, Ytdhacmcdbpojlaa.suited f c / 4 = c / 4 := fun c => by have := hf (c % 4) (by omega); unfold Ytdhacmcdbpojlaa.suited; omega
  have hm : ∀ c, Ytdhacmcdbpojlaa.suited f c % 4 = f (c % 4) := fun c => by have := hf (c % 4) (by omega); unfold Ytdhacmcdbpojlaa.suited; omega
  refine ⟨by rw [List.length_map, h.len], ?_, fun x hx => ?_⟩
  · rw [List.Nodup, List.pairwise_map]
    refine h.nd.imp (fun {a b} hne e => hne ?_)
    have h1 := hr a; have h2 := hr b; have h3 := hm a; have h4 := hm b
    rw [e] at h1 h3
    have := hi (a % 4) (b % 4) (by omega) (by omega) (by omega)
    omega
  · obtain ⟨y, hy, rfl⟩ := List.mem_map.1 hx
    have := h.lt y hy
    have := hr y
    omega

/-- Seven cards turned by k. -/
def turned (L : List Nat) (k : Nat) : List Nat := (List.range 7).map (fun j => L.getD ((j + k) % 7) 0)

theorem turned_perm {L : List Nat} (h : L.length = 7) {k : Nat} (hk : k < 7) : (turned L k).Perm L := by
  have hL : L = (List.range 7).map (fun j => L.getD j 0) := by
    match L, h with
    | [a, b, c, d, e, f, g], _ => rfl
  have h1 : ((List.range 7).map (fun j => (j + k) % 7)).Perm (List.range 7) := by
    have : ∀ k, k < 7 → ((List.range 7).map (fun j => (j + k) % 7)).isPerm (List.range 7) = true := by decide
    exact List.isPerm_iff.1 (this k hk)
  have h2 := h1.map (fun j => L.getD j 0)
  rw [List.map_map, ← hL] at h2
  exact h2

theorem Cards.perm {n : Nat} {L L' : List Nat} (h : Cards n L) (p : L'.Perm L) : Cards n L' :=
  ⟨p.length_eq.trans h.len, p.nodup_iff.2 h.nd, fun x hx => h.lt x (p.mem_iff.1 hx)⟩

theorem Cards.turnedSuited {L : List Nat} (h : Cards 7 L) {k : Nat} (hk : k < 7) (f : Nat → Nat) (hf : ∀ i, i < 4 → f i < 4) (hi : ∀ i j, i < 4 → j < 4 → f i = f j → i = j) :
    Cards 7 ((turned L k).map (Ytdhacmcdbpojlaa.suited f)) ∧ bv ((turned L k).map (Ytdhacmcdbpojlaa.suited f)) = bv L := by
  have hp := turned_perm h.len hk
  have hc := h.perm hp
  exact ⟨hc.suited f hf hi, (bv_suited f hf hi (by rw [hc.len]; omega)).trans (bv_perm hp (by rw [hc.len]; omega))⟩

end Go.Proofs.Ytdhacmcdbpojlaa
