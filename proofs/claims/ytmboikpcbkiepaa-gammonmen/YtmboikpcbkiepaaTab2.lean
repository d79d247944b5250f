/-
  What comes of a throw, as lists. No conditions beyond those that each theorem bears.
-/
import Derived.Test.YtmboikpcbkiepaaMemo
namespace Go.Proofs.Ytmboikpcbkiepaa
open Go.RowKit Go.Maps

/-- The set is that list. -/
def Is (X : List Int → Prop) (L : List (List Nat)) : Prop := ∀ s, X s ↔ ∃ m, m ∈ L ∧ s = sd6 m

def Sub (L : List (List Nat)) : Prop := ∀ m, m ∈ L → m ∈ Ms

theorem stp_sd6 {m : List Nat} (hm : m ∈ Ms) {f p : Nat} (hf : 1 ≤ f ∧ f ≤ 25) (hp : 1 ≤ p ∧ p ≤ 6) : stp (sd6 m) f p = (st6 m f p).map sd6 := by
  have h1 := List.all_eq_true.1 stp_tab m hm
  have h2 := List.all_eq_true.1 h1 (f - 1) (List.mem_range.2 (by omega))
  have h3 := List.all_eq_true.1 h2 (p - 1) (List.mem_range.2 (by omega))
  rw [show f - 1 + 1 = f by omega, show p - 1 + 1 = p by omega] at h3
  exact of_decide_eq_true h3

theorem st6_six {m z : List Nat} {f p : Nat} (h : st6 m f p = some z) : f ≤ 6 := by
  unfold st6 at h
  split at h
  · cases h
  · next hn =>
    simp only [Bool.or_eq_true, not_or] at hn
    have := hn.1
    have h2 : ¬ 6 < f := fun hl => this (by simpa using hl)
    omega

theorem st6_both {m z : List Nat} (hm : m ∈ Ms) {f p : Nat} (hf : 1 ≤ f ∧ f ≤ 25) (hp : 1 ≤ p ∧ p ≤ 6) (h : st6 m f p = some z) : z ∈ Ms ∧ pip z < pip m := by
  have h6 := st6_six h
  have h1 := List.all_eq_true.1 st6_tab m hm
  have h2 := List.all_eq_true.1 h1 (f - 1) (List.mem_range.2 (by omega))
  have h3 := List.all_eq_true.1 h2 (p - 1) (List.mem_range.2 (by omega))
  rw [show f - 1 + 1 = f by omega, show p - 1 + 1 = p by omega, h] at h3
  simpa using h3

theorem st6_mem {m z : List Nat} (hm : m ∈ Ms) {f p : Nat} (hf : 1 ≤ f ∧ f ≤ 25) (hp : 1 ≤ p ∧ p ≤ 6) (h : st6 m f p = some z) : z ∈ Ms := (st6_both hm hf hp h).1

theorem mem_aftL {L : List (List Nat)} {p : Nat} {z : List Nat} : z ∈ aftL L p ↔ ∃ m, m ∈ L ∧ ∃ f, (1 ≤ f ∧ f ≤ 25) ∧ st6 m f p = some z := by
  unfold aftL
  simp only [List.mem_flatMap, List.mem_filterMap, List.mem_range]
  constructor
  · rintro ⟨m, hm, i, hi, h⟩
    exact ⟨m, hm, i + 1, by omega, h⟩
  · rintro ⟨m, hm, f, hf, h⟩
    have h6 := st6_six h
    exact ⟨m, hm, f - 1, by omega, by rw [show f - 1 + 1 = f by omega]; exact h⟩

theorem Sub.aft {L : List (List Nat)} (h : Sub L) {p : Nat} (hp : 1 ≤ p ∧ p ≤ 6) : Sub (aftL L p) := by
  intro z hz
  obtain ⟨m, hm, f, hf, e⟩ := mem_aftL.1 hz
  exact st6_mem (h m hm) hf hp e

theorem Is.aft {X : List Int → Prop} {L : List (List Nat)} (h : Is X L) (hs : Sub L) {p : Nat} (hp : 1 ≤ p ∧ p ≤ 6) : Is (aft X p) (aftL L p) := by
  intro s
  unfold Ytmboikpcbkiepaa.aft
  constructor
  · rintro ⟨u, f, hu, h1, h2, e⟩
    obtain ⟨m, hm, rfl⟩ := (h u).1 hu
    rw [stp_sd6 (hs m hm) ⟨h1, h2⟩ hp] at e
    obtain ⟨z, hz, rfl⟩ := Option.map_eq_some_iff.1 e
    exact ⟨z, mem_aftL.2 ⟨m, hm, f, ⟨h1, h2⟩, hz⟩, rfl⟩
  · rintro ⟨z, hz, rfl⟩
    obtain ⟨m, hm, f, hf, e⟩ := mem_aftL.1 hz
    exact ⟨sd6 m, f, (h _).2 ⟨m, hm, rfl⟩, hf.1, hf.2, by rw [stp_sd6 (hs m hm) hf hp, e]; rfl⟩

theorem Is.some {X : List Int → Prop} {L : List (List Nat)} (h : Is X L) : (∃ u, X u) ↔ L.isEmpty = false := by
  constructor
  · rintro ⟨u, hu⟩
    obtain ⟨m, hm, _⟩ := (h u).1 hu
    cases L with
    | nil => cases hm
    | cons => rfl
  · intro e
    cases L with
    | nil => cases e
    | cons m L => exact ⟨sd6 m, (h _).2 ⟨m, by simp, rfl⟩⟩

theorem Is.none {X : List Int → Prop} {L : List (List Nat)} (h : Is X L) (e : L.isEmpty = true) : ∀ u, ¬ X u := by
  intro u hu
  have := h.some.1 ⟨u, hu⟩
  rw [e] at this
  cases this

theorem rep_is {p : Nat} (hp : 1 ≤ p ∧ p ≤ 6) : ∀ (k : Nat) {X : List Int → Prop} {L : List (List Nat)}, Is X L → Sub L → Is (rep p k X) (repL p k L) ∧ Sub (repL p k L)
  | 0, X, L, h, hs => ⟨h, hs⟩
  | k + 1, X, L, h, hs => by
    have ha := h.aft hs hp
    rw [repL]
    cases he : (aftL L p).isEmpty with
    | true =>
      have hn := ha.none he
      rw [if_pos rfl]
      refine ⟨fun s => ?_, hs⟩
      rw [rep_stop hn]
      exact h s
    | false =>
      rw [if_neg (by simp)]
      have ih := rep_is hp k ha (hs.aft hp)
      refine ⟨fun s => ?_, ih.2⟩
      rw [← ih.1 s]
      have hx := ha.some.2 he
      constructor
      · rintro (⟨_, h2⟩ | ⟨h1, _⟩)
        · exact h2
        · exact absurd hx h1
      · intro h2
        exact Or.inl ⟨hx, h2⟩

theorem two_is {F G B : List Int → Prop} {lF lG lB : List (List Nat)} {m : List Nat} (hF : Is F lF) (hG : Is G lG) (hB : Is B lB) : Is (two F G B (sd6 m)) (twoL lF lG lB m) := by
  intro s
  unfold two twoL
  cases eB : lB.isEmpty with
  | false =>
    rw [if_neg (by simp)]
    have hx := hB.some.2 eB
    rw [← hB s]
    constructor
    · rintro (h | h | h | h)
      · exact h.2
      · exact absurd hx (fun ⟨u, hu⟩ => h.1 u hu)
      · exact absurd hx (fun ⟨u, hu⟩ => h.1 u hu)
      · exact absurd hx (fun ⟨u, hu⟩ => h.1 u hu)
    · intro h
      exact Or.inl ⟨hx, h⟩
  | true =>
    rw [if_pos rfl]
    have nB := hB.none eB
    cases eF : lF.isEmpty with
    | false =>
      rw [if_neg (by simp)]
      have hx := hF.some.2 eF
      rw [← hF s]
      constructor
      · rintro (h | h | h | h)
        · exact absurd h.2 (nB s)
        · exact h.2.2
        · exact absurd hx (fun ⟨u, hu⟩ => h.2.1 u hu)
        · exact absurd hx (fun ⟨u, hu⟩ => h.2.1 u hu)
      · intro h
        exact Or.inr (Or.inl ⟨nB, hx, h⟩)
    | true =>
      rw [if_pos rfl]
      have nF := hF.none eF
      cases eG : lG.isEmpty with
      | false =>
        rw [if_neg (by simp)]
        have hx := hG.some.2 eG
        rw [← hG s]
        constructor
        · rintro (h | h | h | h)
          · exact absurd h.2 (nB s)
          · exact absurd h.2.2 (nF s)
          · exact h.2.2.2
          · exact absurd hx (fun ⟨u, hu⟩ => h.2.2.1 u hu)
        · intro h
          exact Or.inr (Or.inr (Or.inl ⟨nB, nF, hx, h⟩))
      | true =>
        rw [if_pos rfl]
        have nG := hG.none eG
        constructor
        · rintro (h | h | h | h)
          · exact absurd h.2 (nB s)
          · exact absurd h.2.2 (nF s)
          · exact absurd h.2.2.2 (nG s)
          · exact ⟨m, by simp, h.2.2.2⟩
        · rintro ⟨z, hz, rfl⟩
          simp only [List.mem_singleton] at hz
          subst hz
          exact Or.inr (Or.inr (Or.inr ⟨nB, nF, nG, rfl⟩))

theorem ends_is {m : List Nat} (hm : m ∈ Ms) {x y : Nat} (hx : 1 ≤ x ∧ x ≤ 6) (hy : 1 ≤ y ∧ y ≤ 6) : Is (endsX (sd6 m) x y) (endsL m x y) ∧ Sub (endsL m x y) := by
  have h0 : Is (fun u => u = sd6 m) [m] := fun s => by simp
  have s0 : Sub [m] := fun z hz => by simp only [List.mem_singleton] at hz; rw [hz]; exact hm
  unfold endsX endsL
  by_cases e : x = y
  · rw [if_pos e, if_pos e]
    exact rep_is hx 4 h0 s0
  · rw [if_neg e, if_neg e]
    have hg : 1 ≤ max x y ∧ max x y ≤ 6 := by omega
    have hl : 1 ≤ min x y ∧ min x y ≤ 6 := by omega
    have hB : Is (bothX (sd6 m) (max x y) (min x y)) (aftL (aftL [m] (max x y)) (min x y) ++ aftL (aftL [m] (min x y)) (max x y)) := by
      intro s
      unfold bothX
      rw [(h0.aft s0 hg).aft (s0.aft hg) hl s, (h0.aft s0 hl).aft (s0.aft hl) hg s]
      constructor
      · rintro (⟨z, hz, e⟩ | ⟨z, hz, e⟩)
        · exact ⟨z, List.mem_append.2 (Or.inl hz), e⟩
        · exact ⟨z, List.mem_append.2 (Or.inr hz), e⟩
      · rintro ⟨z, hz, e⟩
        rcases List.mem_append.1 hz with hz | hz
        · exact Or.inl ⟨z, hz, e⟩
        · exact Or.inr ⟨z, hz, e⟩
    refine ⟨two_is (h0.aft s0 hg) (h0.aft s0 hl) hB, ?_⟩
    unfold twoL
    split
    · split
      · split
        · exact s0
        · exact s0.aft hl
      · exact s0.aft hg
    · intro z hz
      rcases List.mem_append.1 hz with hz | hz
      · exact (s0.aft hg).aft hl z hz
      · exact (s0.aft hl).aft hg z hz

theorem aft_less {L : List (List Nat)} (hs : Sub L) {p P : Nat} (hp : 1 ≤ p ∧ p ≤ 6) (h : ∀ z, z ∈ L → pip z ≤ P) : ∀ z, z ∈ aftL L p → pip z < P := by
  intro z hz
  obtain ⟨m, hm, f, hf, e⟩ := mem_aftL.1 hz
  have := (st6_both (hs m hm) hf hp e).2
  have := h m hm
  omega

theorem rep_less {p P : Nat} (hp : 1 ≤ p ∧ p ≤ 6) : ∀ (k : Nat) {L : List (List Nat)}, Sub L → (∀ z, z ∈ L → pip z < P) → L.isEmpty = false → (∀ z, z ∈ repL p k L → pip z < P) ∧ (repL p k L).isEmpty = false
  | 0, L, _, h, he => ⟨h, he⟩
  | k + 1, L, hs, h, he => by
    rw [repL]
    cases e : (aftL L p).isEmpty with
    | true => rw [if_pos rfl]; exact ⟨h, he⟩
    | false =>
      rw [if_neg (by simp)]
      exact rep_less hp k (hs.aft hp) (aft_less hs hp (fun z hz => by have := h z hz; omega)) e

theorem aft_some {m : List Nat} (hm : m ∈ Ms) (h0 : 0 < pip m) {p : Nat} (hp : 1 ≤ p ∧ p ≤ 6) : (aftL [m] p).isEmpty = false := by
  have h1 := List.all_eq_true.1 some_tab m hm
  have h2 := List.all_eq_true.1 h1 (p - 1) (List.mem_range.2 (by omega))
  rw [show p - 1 + 1 = p by omega] at h2
  rcases Bool.or_eq_true_iff.1 h2 with h4 | h4
  · have := Nat.eq_of_beq_eq_true h4
    omega
  · simpa using h4

theorem ends_both {m : List Nat} (hm : m ∈ Ms) (h0 : 0 < pip m) {x y : Nat} (hx : 1 ≤ x ∧ x ≤ 6) (hy : 1 ≤ y ∧ y ≤ 6) : (∀ z, z ∈ endsL m x y → pip z < pip m) ∧ (endsL m x y).isEmpty = false := by
  have s0 : Sub [m] := fun z hz => by simp only [List.mem_singleton] at hz; rw [hz]; exact hm
  have l0 : ∀ z, z ∈ [m] → pip z ≤ pip m := fun z hz => by simp only [List.mem_singleton] at hz; rw [hz]; exact Nat.le_refl _
  unfold endsL
  by_cases e : x = y
  · rw [if_pos e, repL, if_neg (by rw [aft_some hm h0 hx]; simp)]
    exact rep_less hx 3 (s0.aft hx) (aft_less s0 hx l0) (aft_some hm h0 hx)
  · rw [if_neg e]
    have hg : 1 ≤ max x y ∧ max x y ≤ 6 := by omega
    have hl : 1 ≤ min x y ∧ min x y ≤ 6 := by omega
    have hF := aft_some hm h0 hg
    have a1 := aft_less s0 hg l0
    have a2 := aft_less s0 hl l0
    have a3 := aft_less (s0.aft hg) hl (fun z hz => Nat.le_of_lt (a1 z hz))
    have a4 := aft_less (s0.aft hl) hg (fun z hz => Nat.le_of_lt (a2 z hz))
    unfold twoL
    split
    · rw [if_neg (by rw [hF]; simp)]
      exact ⟨a1, hF⟩
    · next hb =>
      refine ⟨fun z hz => ?_, by simpa using hb⟩
      rcases List.mem_append.1 hz with hz | hz
      · exact a3 z hz
      · exact a4 z hz

theorem ends_less {m : List Nat} (hm : m ∈ Ms) (h0 : 0 < pip m) {x y : Nat} (hx : 1 ≤ x ∧ x ≤ 6) (hy : 1 ≤ y ∧ y ≤ 6) : ∀ z, z ∈ endsL m x y → pip z < pip m := (ends_both hm h0 hx hy).1

theorem vl_le {m : List Nat} (hm : m ∈ Ms) : vl m ≤ 304679870005248 := by
  have h := List.all_eq_true.1 val_tab m hm
  by_cases e : Nat.beq (pip m) 0 = true
  · rw [if_pos e] at h
    have := Nat.eq_of_beq_eq_true h
    omega
  · rw [if_neg e] at h
    have := Nat.le_of_ble_eq_true (Bool.and_eq_true_iff.1 h).2
    unfold one9 at this
    omega

theorem vl_eq {m : List Nat} (hm : m ∈ Ms) (hp : 0 < pip m) : vl m = one9 + sumS m 6 / 36 := by
  have h := List.all_eq_true.1 val_tab m hm
  have e : ¬ Nat.beq (pip m) 0 = true := fun e => by have := Nat.eq_of_beq_eq_true e; omega
  rw [if_neg e] at h
  exact Nat.eq_of_beq_eq_true (Bool.and_eq_true_iff.1 h).1

theorem vl_zero {m : List Nat} (hm : m ∈ Ms) (hp : pip m = 0) : vl m = 0 := by
  have h := List.all_eq_true.1 val_tab m hm
  rw [if_pos (by rw [hp]; rfl)] at h
  exact Nat.eq_of_beq_eq_true h

theorem off_pip {m : List Nat} (hm : m ∈ Ms) : offB (sd6 m) = decide (pip m = 0) := by
  have h := List.all_eq_true.1 off_tab m hm
  rw [beq_iff_eq] at h
  rw [h]
  cases e : Nat.beq (pip m) 0 with
  | true => have := Nat.eq_of_beq_eq_true e; simp [this]
  | false => have := Nat.ne_of_beq_eq_false e; simp [this]

theorem lst_fold (L : List (List Nat)) : ∀ a : Nat, (∀ m, m ∈ L → L.foldl (fun a m => min a (vl m)) a ≤ vl m) ∧ L.foldl (fun a m => min a (vl m)) a ≤ a ∧ (L.foldl (fun a m => min a (vl m)) a = a ∨ ∃ m, m ∈ L ∧ L.foldl (fun a m => min a (vl m)) a = vl m) := by
  induction L with
  | nil => intro a; simp
  | cons z L ih =>
    intro a
    obtain ⟨h1, h2, h3⟩ := ih (min a (vl z))
    rw [List.foldl_cons]
    refine ⟨fun m hm => ?_, by omega, ?_⟩
    · rcases List.mem_cons.1 hm with rfl | hm
      · omega
      · exact h1 m hm
    · rcases h3 with h3 | ⟨m, hm, h3⟩
      · by_cases e : a ≤ vl z
        · exact Or.inl (by rw [h3]; omega)
        · exact Or.inr ⟨z, by simp, by rw [h3]; omega⟩
      · exact Or.inr ⟨m, by simp [hm], h3⟩

theorem lst_eq {L : List (List Nat)} {a : Nat} (h1 : ∀ m, m ∈ L → a ≤ vl m) (h2 : a = 9223372036854775807 ∨ ∃ m, m ∈ L ∧ a = vl m) (h3 : a ≤ 9223372036854775807) : lst L = a := by
  obtain ⟨g1, g2, g3⟩ := lst_fold L 9223372036854775807
  unfold lst
  apply Nat.le_antisymm
  · rcases h2 with h2 | ⟨m, hm, h2⟩
    · omega
    · rw [h2]; exact g1 m hm
  · rcases g3 with g3 | ⟨m, hm, g3⟩
    · rw [g3]; exact h3
    · rw [g3]; exact h1 m hm

theorem ends_some {m : List Nat} (hm : m ∈ Ms) (h0 : 0 < pip m) {x y : Nat} (hx : 1 ≤ x ∧ x ≤ 6) (hy : 1 ≤ y ∧ y ≤ 6) : lst (endsL m x y) ≤ 304679870005248 := by
  have h5 := (ends_both hm h0 hx hy).2
  have hsub := (ends_is hm hx hy).2
  generalize endsL m x y = L at *
  cases L with
  | nil => simp at h5
  | cons z L =>
    have := (lst_fold (z :: L) 9223372036854775807).1 z (by simp)
    have hz := vl_le (hsub z (by simp))
    unfold lst
    omega

end Go.Proofs.Ytmboikpcbkiepaa
