/-
  What MovesOf's lists are: sorted, without doubles, and which boards stand in them. No conditions beyond those that each theorem bears.
-/
import Derived.Test.YtmboikpcbkiepaaMvl
namespace Go.Proofs.Ytmboikpcbkiepaa

theorem lexL_trans : ∀ (a b c : List Int), lexL a b = true → lexL b c = true → lexL a c = true
  | [], [], _, h, _ => by simp [lexL] at h
  | [], _ :: _, [], _, h => by simp [lexL] at h
  | [], _ :: _, _ :: _, _, _ => by simp [lexL]
  | _ :: _, [], _, h, _ => by simp [lexL] at h
  | _ :: _, _ :: _, [], _, h => by simp [lexL] at h
  | x :: a, y :: b, z :: c, h1, h2 => by
    rw [lexL] at h1 h2 ⊢
    by_cases e1 : x = y
    · rw [if_pos e1] at h1
      by_cases e2 : y = z
      · rw [if_pos e2] at h2
        rw [if_pos (e1.trans e2)]
        exact lexL_trans a b c h1 h2
      · rw [if_neg e2] at h2
        rw [if_neg (by omega), e1]
        exact h2
    · rw [if_neg e1] at h1
      have h1' := of_decide_eq_true h1
      by_cases e2 : y = z
      · rw [if_neg (by omega), ← e2]
        exact h1
      · rw [if_neg e2] at h2
        have h2' := of_decide_eq_true h2
        rw [if_neg (by omega)]
        exact decide_eq_true (by omega)

theorem lexL_tri : ∀ (a b : List Int), lexL a b = true ∨ a = b ∨ lexL b a = true
  | [], [] => Or.inr (Or.inl rfl)
  | [], _ :: _ => Or.inl rfl
  | _ :: _, [] => Or.inr (Or.inr rfl)
  | x :: a, y :: b => by
    rw [lexL, lexL]
    by_cases e : x = y
    · rw [if_pos e, if_pos e.symm]
      rcases lexL_tri a b with h | h | h
      · exact Or.inl h
      · exact Or.inr (Or.inl (by rw [e, h]))
      · exact Or.inr (Or.inr h)
    · rw [if_neg e, if_neg (fun h => e h.symm)]
      rcases (show x < y ∨ y < x by omega) with h | h
      · exact Or.inl (decide_eq_true h)
      · exact Or.inr (Or.inr (decide_eq_true h))

theorem Bo.eq_of {x y : Bo} (h1 : x.P = y.P) (h2 : x.W = y.W) (h3 : x.B = y.B) : x = y := by
  cases x; cases y; simp_all

abbrev Len (L : List Bo) : Prop := ∀ x, x ∈ L → x.P.length = 26

theorem lessO_tri {x y : Bo} (hx : x.P.length = 26) (hy : y.P.length = 26) : lessO x y = true ∨ x = y ∨ lessO y x = true := by
  unfold lessO
  rcases lexL_tri (kyB x.P x.W x.B) (kyB y.P y.W y.B) with h | h | h
  · exact Or.inl h
  · obtain ⟨e1, e2, e3⟩ := kyB_inj hx hy h
    exact Or.inr (Or.inl (Bo.eq_of e1 e2 e3))
  · exact Or.inr (Or.inr h)

theorem lessO_trans {x y z : Bo} (h1 : lessO x y = true) (h2 : lessO y z = true) : lessO x z = true := lexL_trans _ _ _ h1 h2
theorem lessO_self (x : Bo) : lessO x x = false := lexL_self _

/-- In order, without doubles. -/
abbrev Srt (L : List Bo) : Prop := L.Pairwise (fun x y => lessO x y = true)

theorem plc_before : ∀ {L : List Bo} {b : Bo} (x : Bo), x ∈ L.take (plc L b) → lessO x b = true
  | [], _, x, h => by simp at h
  | y :: L, b, x, h => by
    unfold plc at h
    rw [List.takeWhile_cons] at h
    by_cases e : lessO y b = true
    · rw [e] at h
      simp only [if_true, List.length_cons, List.take_succ_cons] at h
      rcases List.mem_cons.1 h with rfl | h
      · exact e
      · exact plc_before (L := L) x h
    · have e' : lessO y b = false := by simpa using e
      rw [e'] at h
      simp at h

theorem plc_at : ∀ {L : List Bo} {b : Bo}, plc L b < L.length → lessO (L.getD (plc L b) b0) b = false
  | [], _, h => by simp at h
  | x :: L, b, h => by
    unfold plc at h ⊢
    rw [List.takeWhile_cons] at h ⊢
    by_cases e : lessO x b = true
    · rw [e] at h ⊢
      simp only [if_true, List.length_cons] at h ⊢
      rw [List.getD_cons_succ]
      exact plc_at (L := L) (by unfold plc; omega)
    · have e' : lessO x b = false := by simpa using e
      rw [e']
      simpa using e'

theorem putL_spec {L : List Bo} {b : Bo} (hl : Len L) (hb : b.P.length = 26) (hs : Srt L) : Srt (putL L b) ∧ ∀ x, x ∈ putL L b ↔ x ∈ L ∨ x = b := by
  unfold putL
  by_cases hc : plc L b < L.length ∧ sameO (L.getD (plc L b) b0) b = true
  · rw [if_pos hc]
    refine ⟨hs, fun x => ⟨Or.inl, ?_⟩⟩
    rintro (h | rfl)
    · exact h
    · have h1 := of_decide_eq_true (show decide _ = true from hc.2)
      have : L.getD (plc L x) b0 = x := Bo.eq_of h1.1 h1.2.1 h1.2.2
      rw [← this]
      have hk := hc.1
      simp [List.getD, hk]
  · rw [if_neg hc]
    have hm : ∀ x, x ∈ L.take (plc L b) ++ [b] ++ L.drop (plc L b) ↔ x ∈ L ∨ x = b := by
      intro x
      rw [List.mem_append, List.mem_append, List.mem_singleton]
      conv => rhs; rw [← List.take_append_drop (plc L b) L, List.mem_append]
      constructor
      · rintro ((h | h) | h)
        · exact Or.inl (Or.inl h)
        · exact Or.inr h
        · exact Or.inl (Or.inr h)
      · rintro ((h | h) | h)
        · exact Or.inl (Or.inl h)
        · exact Or.inr h
        · exact Or.inl (Or.inr h)
    refine ⟨?_, hm⟩
    have hs' := hs
    rw [← List.take_append_drop (plc L b) L, Srt, List.pairwise_append] at hs'
    obtain ⟨s1, s2, s3⟩ := hs'
    have hbe : ∀ y, y ∈ L.drop (plc L b) → lessO b y = true := by
      intro y hy
      have hk : plc L b < L.length := by
        have := List.length_pos_iff.2 (List.ne_nil_of_mem hy)
        rw [List.length_drop] at this
        omega
      have hf := plc_at hk
      have hmem : L.getD (plc L b) b0 ∈ L := by simp [List.getD, hk]
      have hlt : lessO b (L.getD (plc L b) b0) = true := by
        rcases lessO_tri (hl _ hmem) hb with h | h | h
        · rw [hf] at h; cases h
        · exfalso
          refine hc ⟨hk, ?_⟩
          rw [h]
          unfold sameO
          simp
        · exact h
      rw [List.drop_eq_getElem_cons hk] at hy s2
      have hg : L.getD (plc L b) b0 = L[plc L b] := by simp [List.getD, hk]
      rcases List.mem_cons.1 hy with rfl | hy
      · rw [← hg]; exact hlt
      · rw [List.pairwise_cons] at s2
        exact lessO_trans hlt (by rw [hg]; exact s2.1 y hy)
    rw [Srt, List.append_assoc, List.pairwise_append]
    refine ⟨s1, ?_, ?_⟩
    · rw [List.singleton_append, List.pairwise_cons]
      exact ⟨hbe, s2⟩
    · intro x hx y hy
      rcases List.mem_append.1 hy with h | h
      · rw [List.mem_singleton.1 h]; exact plc_before x hx
      · exact s3 x hx y h

theorem putL_Len {L : List Bo} {b : Bo} (hl : Len L) (hb : b.P.length = 26) : Len (putL L b) := fun x hx => by
  rcases mem_putL hx with h | rfl
  · exact hl x h
  · exact hb

theorem MayL.len {t : Nat} {L : List Bo} (h : MayL t L) : Len L := fun x hx => (h x hx).1

/-- What a step makes of a list. -/
theorem stX_spec {t p : Nat} (ht : t ≤ 1) (hp : 1 ≤ p ∧ p ≤ 6) {out : List Bo} {x : Bo} (ho : MayL t out) (hx : mayP x.P x.W x.B t) (hs : Srt out) : ∀ f, f ≤ 25 →
    Srt (stX t p out x f) ∧ ∀ y, y ∈ stX t p out x f ↔ y ∈ out ∨ ∃ k, k < f ∧ stR x.P x.W x.B t k p = some (y.P, y.W, y.B)
  | 0, _ => ⟨hs, fun y => ⟨Or.inl, by rintro (h | ⟨k, hk, _⟩); exact h; omega⟩⟩
  | f + 1, hf => by
    obtain ⟨i1, i2⟩ := stX_spec ht hp ho hx hs f (by omega)
    have hm := stX_may ht hp ho hx f (by omega)
    rw [stX]
    unfold stF
    split
    · rename_i r hr
      have hr' : mayP r.1 r.2.1 r.2.2 t := may_step ht (by omega) hp hx hr
      obtain ⟨p1, p2⟩ := putL_spec (b := ⟨r.1, r.2.1, r.2.2⟩) hm.len hr'.1 i1
      refine ⟨p1, fun y => ?_⟩
      rw [p2 y, i2 y]
      constructor
      · rintro ((h | ⟨k, hk, h⟩) | rfl)
        · exact Or.inl h
        · exact Or.inr ⟨k, by omega, h⟩
        · exact Or.inr ⟨f, by omega, hr⟩
      · rintro (h | ⟨k, hk, h⟩)
        · exact Or.inl (Or.inl h)
        · by_cases e : k = f
          · subst e
            rw [hr] at h
            simp only [Option.some.injEq] at h
            refine Or.inr (Bo.eq_of ?_ ?_ ?_) <;> rw [h]
          · exact Or.inl (Or.inr ⟨k, by omega, h⟩)
    · rename_i hr
      refine ⟨i1, fun y => ?_⟩
      rw [i2 y]
      constructor
      · rintro (h | ⟨k, hk, h⟩)
        · exact Or.inl h
        · exact Or.inr ⟨k, by omega, h⟩
      · rintro (h | ⟨k, hk, h⟩)
        · exact Or.inl h
        · by_cases e : k = f
          · subst e; rw [hr] at h; cases h
          · exact Or.inr ⟨k, by omega, h⟩

theorem stL_spec {t p : Nat} (ht : t ≤ 1) (hp : 1 ≤ p ∧ p ≤ 6) {L : List Bo} (hL : MayL t L) : ∀ i, i ≤ L.length →
    Srt (stL t p L i) ∧ ∀ y, y ∈ stL t p L i ↔ ∃ x, x ∈ L.take i ∧ ∃ k, k < 25 ∧ stR x.P x.W x.B t k p = some (y.P, y.W, y.B)
  | 0, _ => by
    rw [stL]
    exact ⟨List.Pairwise.nil, fun y => ⟨fun h => (nomatch h), fun ⟨x, hx, _⟩ => by simp at hx⟩⟩
  | i + 1, hi => by
    obtain ⟨i1, i2⟩ := stL_spec ht hp hL i (by omega)
    have hxm := hL.at i (by omega)
    obtain ⟨j1, j2⟩ := stX_spec ht hp (stL_may ht hp hL i (by omega)) hxm i1 25 (Nat.le_refl _)
    rw [stL]
    refine ⟨j1, fun y => ?_⟩
    have ht' : L.take (i + 1) = L.take i ++ [L.getD i b0] := by
      rw [List.take_succ_eq_append_getElem (by omega)]
      simp [List.getD, show i < L.length by omega]
    rw [j2 y, i2 y, ht']
    constructor
    · rintro (⟨x, hx, h⟩ | h)
      · exact ⟨x, by simp [hx], h⟩
      · exact ⟨L.getD i b0, List.mem_append_right _ (List.mem_singleton.2 rfl), h⟩
    · rintro ⟨x, hx, h⟩
      rcases List.mem_append.1 hx with hx | hx
      · exact Or.inl ⟨x, hx, h⟩
      · rw [List.mem_singleton.1 hx] at h
        exact Or.inr h

theorem stA_spec {t p : Nat} (ht : t ≤ 1) (hp : 1 ≤ p ∧ p ≤ 6) {L : List Bo} (hL : MayL t L) : Srt (stA t p L) ∧ ∀ y, y ∈ stA t p L ↔ ∃ x, x ∈ L ∧ ∃ k, k < 25 ∧ stR x.P x.W x.B t k p = some (y.P, y.W, y.B) := by
  have := stL_spec ht hp hL L.length (Nat.le_refl _)
  rw [List.take_length] at this
  exact this

/-- Two lists in order with the same boards are the same. -/
theorem Srt.unique : ∀ {L M : List Bo}, Srt L → Srt M → (∀ x, x ∈ L ↔ x ∈ M) → L = M
  | [], [], _, _, _ => rfl
  | [], y :: M, _, _, h => by have := (h y).2 (by simp); cases this
  | x :: L, [], _, _, h => by have := (h x).1 (by simp); cases this
  | x :: L, y :: M, h1, h2, h => by
    rw [Srt, List.pairwise_cons] at h1 h2
    have exy : x = y := by
      rcases List.mem_cons.1 ((h x).1 (by simp)) with e | e
      · exact e
      · rcases List.mem_cons.1 ((h y).2 (by simp)) with e2 | e2
        · exact e2.symm
        · have := lessO_trans (h1.1 y e2) (h2.1 x e)
          rw [lessO_self] at this
          cases this
    subst exy
    have := Srt.unique h1.2 h2.2 (fun z => by
      constructor
      · intro hz
        rcases List.mem_cons.1 ((h z).1 (List.mem_cons_of_mem _ hz)) with e | e
        · subst e
          have := h1.1 z hz
          rw [lessO_self] at this
          cases this
        · exact e
      · intro hz
        rcases List.mem_cons.1 ((h z).2 (List.mem_cons_of_mem _ hz)) with e | e
        · subst e
          have := h2.1 z hz
          rw [lessO_self] at this
          cases this
        · exact e)
    rw [this]

end Go.Proofs.Ytmboikpcbkiepaa
