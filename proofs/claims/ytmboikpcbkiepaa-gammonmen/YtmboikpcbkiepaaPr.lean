/-
  Sides and boards tell the same: what a side tells is seen so again. No conditions beyond those that each theorem bears.
-/
import Derived.Test.YtmboikpcbkiepaaSrt
import Derived.Test.YtmboikpcbkiepaaEnds2
namespace Go.Proofs.Ytmboikpcbkiepaa

/-- What a side tells. -/
def bo (t : Nat) (s : List Int) : Bo := ⟨toldP s t, ownB (s.getD 25 0) (s.getD 26 0) t, othB (s.getD 25 0) (s.getD 26 0) t⟩

/-- A side that comes of a board. -/
structure Pr (s : List Int) : Prop where
  len : s.length = 52
  z0 : s.getD 0 0 = 0
  z51 : s.getD 51 0 = 0
  pos : ∀ i, 0 ≤ s.getD i 0
  ex : ∀ i, 1 ≤ i → i ≤ 24 → s.getD i 0 = 0 ∨ s.getD (26 + i) 0 = 0

theorem ma_sg (P : List Int) (t p : Nat) (z : Int) (h : P.getD p 0 = sg t z) : ma P t p = z := by
  unfold ma sg at *
  split at h
  · rename_i e; rw [if_pos e, h]
  · rename_i e; rw [if_neg e, h]; omega

theorem seen_bo {t : Nat} {s : List Int} (h : Pr s) : seenL (bo t s).P (bo t s).W (bo t s).B t = s := by
  have hl := seenL_length (bo t s).P (bo t s).W (bo t s).B t
  refine List.ext_getElem (by rw [hl, h.len]) (fun i hi hj => ?_)
  have hi52 : i < 52 := by rw [hl] at hi; exact hi
  have key : (seenL (bo t s).P (bo t s).W (bo t s).B t).getD i 0 = s.getD i 0 := by
    have oo := own_oth (s.getD 25 0) (s.getD 26 0) t
    unfold seenL
    rw [range_getD 52 _ i hi52]
    unfold seenF
    by_cases e25 : i = 25
    · rw [if_pos e25, e25]
      show ownB (ownB _ _ t) (othB _ _ t) t = _
      exact oo.1
    · rw [if_neg e25]
      by_cases e26 : i = 26
      · rw [if_pos e26, e26]
        show othB (ownB _ _ t) (othB _ _ t) t = _
        exact oo.2
      · rw [if_neg e26]
        by_cases hm : 1 ≤ i ∧ i ≤ 24
        · have ha := aw_lt t i hm
          rw [if_pos ⟨hm.1, hm.2, by omega⟩]
          have : ma (bo t s).P t (aw t i) = s.getD i 0 - s.getD (26 + i) 0 := by
            refine ma_sg _ _ _ _ ?_
            show (toldP s t).getD (aw t i) 0 = _
            rw [told_at s t (aw t i) ha, aw_aw t i (by omega)]
          rw [this]
          have p1 := h.pos i
          have p2 := h.pos (26 + i)
          have ex := h.ex i hm.1 hm.2
          rcases up_sp (s.getD i 0 - s.getD (26 + i) 0) with ⟨u1, u2⟩ | ⟨u1, u2⟩ <;> rw [u2] <;> omega
        · rw [if_neg (by omega)]
          by_cases ho : 27 ≤ i ∧ i ≤ 50
          · have hm2 : 1 ≤ i - 26 ∧ i - 26 ≤ 24 := by omega
            have ha := aw_lt t (i - 26) hm2
            rw [if_pos ⟨ho.1, ho.2, by omega⟩]
            have : ma (bo t s).P t (aw t (i - 26)) = s.getD (i - 26) 0 - s.getD (26 + (i - 26)) 0 := by
              refine ma_sg _ _ _ _ ?_
              show (toldP s t).getD (aw t (i - 26)) 0 = _
              rw [told_at s t (aw t (i - 26)) ha, aw_aw t (i - 26) (by omega)]
            rw [this, show 26 + (i - 26) = i by omega]
            have p1 := h.pos (i - 26)
            have p2 := h.pos i
            have ex := h.ex (i - 26) hm2.1 hm2.2
            rw [show 26 + (i - 26) = i by omega] at ex
            rcases up_sp (-(s.getD (i - 26) 0 - s.getD i 0)) with ⟨u1, u2⟩ | ⟨u1, u2⟩ <;> rw [u2] <;> omega
          · rw [if_neg (by omega)]
            rcases (show i = 0 ∨ i = 51 by omega) with rfl | rfl
            · exact h.z0.symm
            · exact h.z51.symm
  simp only [List.getD, List.getElem?_eq_getElem hi, List.getElem?_eq_getElem hj, Option.getD_some] at key
  exact key

theorem seen_pr {P : List Int} {W B : Int} {t : Nat} (h : mayP P W B t) : Pr (seenL P W B t) := by
  have hW := h.W15.1
  have hB := h.B15.1
  have at0 : ∀ i, i < 52 → (seenL P W B t).getD i 0 = seenF P W B t 25 i := fun i hi => by unfold seenL; exact range_getD 52 _ i hi
  refine ⟨seenL_length _ _ _ _, ?_, ?_, fun i => ?_, fun i h1 h2 => ?_⟩
  · rw [at0 0 (by omega)]; unfold seenF; rw [if_neg (by omega), if_neg (by omega), if_neg (by omega), if_neg (by omega)]
  · rw [at0 51 (by omega)]; unfold seenF; rw [if_neg (by omega), if_neg (by omega), if_neg (by omega), if_neg (by omega)]
  · by_cases hi : i < 52
    · rw [at0 i hi]
      unfold seenF
      split
      · unfold ownB; split <;> omega
      · split
        · unfold othB; split <;> omega
        · split
          · exact up_pos _
          · split
            · exact up_pos _
            · omega
    · simp [List.getD, seenL_length, hi]
  · have ha := aw_lt t i ⟨h1, h2⟩
    have e1 := seen_men P W B t (aw t i) ha
    have e2 := seen_oth P W B t (aw t i) ha
    rw [aw_aw t i (by omega)] at e1 e2
    rw [e1, e2]
    rcases up_sp (ma P t (aw t i)) with ⟨u1, u2⟩ | ⟨u1, u2⟩
    · rcases up_sp (-(ma P t (aw t i))) with ⟨v1, v2⟩ | ⟨v1, v2⟩
      · left; rw [u2]; omega
      · right; exact v2
    · left; exact u2

theorem bo_seen {P : List Int} {W B : Int} {t : Nat} (h : mayP P W B t) : bo t (seenL P W B t) = ⟨P, W, B⟩ := by
  have oo := own_oth W B t
  refine Bo.eq_of ?_ ?_ ?_
  · show toldP (seenL P W B t) t = P
    refine pts_eq (toldP_length _ _) h.1 (fun i hi => ?_)
    by_cases hm : 1 ≤ i ∧ i ≤ 24
    · rw [told_at _ t i hm, seen_men P W B t i hm, seen_oth P W B t i hm, up_sub, sg_ma]
    · rw [told_edge _ t i (by omega)]
      rcases (show i = 0 ∨ i = 25 by omega) with rfl | rfl
      · exact h.2.1.symm
      · exact h.2.2.1.symm
  · show ownB ((seenL P W B t).getD 25 0) ((seenL P W B t).getD 26 0) t = W
    rw [seen_bar, seen_oba]; exact oo.1
  · show othB ((seenL P W B t).getD 25 0) ((seenL P W B t).getD 26 0) t = B
    rw [seen_bar, seen_oba]; exact oo.2

theorem stp_pr {s s' : List Int} {f p : Nat} (h : Pr s) (hf : 1 ≤ f ∧ f ≤ 25) (hp : 1 ≤ p ∧ p ≤ 6) (hs : stp s f p = some s') : Pr s' := by
  unfold stp at hs
  split at hs
  · cases hs
  · rename_i h1
    have hf1 : 1 ≤ s.getD f 0 := by
      have := h.pos f
      have : s.getD f 0 ≠ 0 := fun e => h1 (Or.inl e)
      omega
    split at hs
    · rename_i hfp
      split at hs
      · cases hs
      · simp only [Option.some.injEq] at hs
        subst hs
        have hl := h.len
        refine ⟨by simp [hl], by rw [gd_ne (by omega)]; exact h.z0, by rw [gd_ne (by omega)]; exact h.z51, fun i => ?_, fun i i1 i2 => ?_⟩
        · by_cases e : f = i
          · subst e
            have : (s.set f (s.getD f 0 - 1)).getD f 0 = s.getD f 0 - 1 := by simp [List.getD, show f < s.length by omega]
            rw [this]; omega
          · rw [gd_ne e]; exact h.pos i
        · have := h.ex i i1 i2
          rw [gd_ne (show f ≠ 26 + i by omega)]
          by_cases e : f = i
          · subst e; right; omega
          · rw [gd_ne e]; exact this
    · rename_i hfp
      split at hs
      · cases hs
      · simp only [Option.some.injEq] at hs
        subst hs
        have hl := h.len
        have ha := fun i => hit_at s hl f (f - p) i hf (by omega) (by omega)
        have hq := h.pos (f - p)
        have hb := h.pos (26 + (f - p))
        have hc := h.pos 26
        refine ⟨by simp [hitS, hl], ?_, ?_, fun i => ?_, fun i i1 i2 => ?_⟩
        · rw [ha 0, if_neg (by omega), if_neg (by omega), if_neg (by omega), if_neg (by omega)]; exact h.z0
        · rw [ha 51, if_neg (by omega), if_neg (by omega), if_neg (by omega), if_neg (by omega)]; exact h.z51
        · rw [ha i]
          have := h.pos i
          split
          · omega
          · split
            · omega
            · split
              · omega
              · split <;> omega
        · have := h.ex i i1 i2
          rw [ha i, ha (26 + i)]
          by_cases e : i = f - p
          · right
            rw [if_neg (by omega), if_neg (by omega), if_pos (by omega)]
          · rw [if_neg e, if_neg (show ¬ 26 + i = f - p by omega), if_neg (show ¬ 26 + i = f by omega), if_neg (show ¬ 26 + i = 26 + (f - p) by omega), if_neg (show ¬ 26 + i = 26 by omega)]
            by_cases e2 : i = f
            · subst e2
              right
              omega
            · rw [if_neg e2, if_neg (by omega), if_neg (by omega)]
              exact this

/-- A list of boards and a set of sides tell the same. -/
structure Tell (t : Nat) (L : List Bo) (X : List Int → Prop) : Prop where
  pr : ∀ s, X s → Pr s
  mem : ∀ y, y ∈ L ↔ ∃ s, X s ∧ bo t s = y

theorem Tell.step {t p : Nat} (ht : t ≤ 1) (hp : 1 ≤ p ∧ p ≤ 6) {L : List Bo} {X : List Int → Prop} (h : Tell t L X) (hL : MayL t L) : Tell t (stA t p L) (aft X p) := by
  refine ⟨fun s ⟨s0, f, hx, h1, h2, hs⟩ => stp_pr (h.pr s0 hx) ⟨h1, h2⟩ hp hs, fun y => ?_⟩
  rw [(stA_spec ht hp hL).2 y]
  constructor
  · rintro ⟨x, hx, k, hk, hs⟩
    obtain ⟨s, hX, rfl⟩ := (h.mem x).1 hx
    unfold stR at hs
    rw [seen_bo (h.pr s hX)] at hs
    obtain ⟨s', e1, e2⟩ := Option.map_eq_some_iff.1 hs
    refine ⟨s', ⟨s, _, hX, ?_, ?_, e1⟩, ?_⟩
    · split
      · omega
      · exact (aw_lt t k (by omega)).1
    · split
      · omega
      · have := (aw_lt t k (by omega)).2; omega
    · simp only [Prod.mk.injEq] at e2
      exact Bo.eq_of e2.1 e2.2.1 e2.2.2
  · rintro ⟨s', ⟨s, f, hX, h1, h2, hs⟩, rfl⟩
    refine ⟨bo t s, (h.mem _).2 ⟨s, hX, rfl⟩, if f = 25 then 0 else aw t f, ?_, ?_⟩
    · split
      · omega
      · have := (aw_lt t f (by omega)).2; omega
    · unfold stR
      rw [seen_bo (h.pr s hX)]
      have hf : (if (if f = 25 then 0 else aw t f) = 0 then 25 else aw t (if f = 25 then 0 else aw t f)) = f := by
        by_cases e : f = 25
        · rw [if_pos e, if_pos rfl, e]
        · rw [if_neg e]
          have := (aw_lt t f (by omega)).1
          rw [if_neg (by omega), aw_aw t f (by omega)]
      rw [hf, hs]
      rfl

theorem Tell.none {t : Nat} {L : List Bo} {X : List Int → Prop} (h : Tell t L X) : L = [] ↔ ∀ s, ¬ X s := by
  constructor
  · intro e s hs
    have := (h.mem _).2 ⟨s, hs, rfl⟩
    rw [e] at this
    cases this
  · intro hn
    refine List.eq_nil_iff_forall_not_mem.2 (fun y hy => ?_)
    obtain ⟨s, hs, _⟩ := (h.mem y).1 hy
    exact hn s hs

end Go.Proofs.Ytmboikpcbkiepaa
