/-
  Boards in a row of their own, as a sort reads them. No conditions beyond those that each theorem bears.
-/
import Derived.Test.YtmboikpcbkiepaaCo
import Derived.Test.YtmboikpcbkiepaaEnds2
namespace Go.Proofs.Ytmboikpcbkiepaa
open Go.RowKit

theorem rep_some (p : Nat) : ∀ (k : Nat) (X : List Int → Prop), (∃ z, X z) → ∃ z, rep p k X z
  | 0, _, h => h
  | k + 1, X, h => by
    by_cases e : ∃ x, aft X p x
    · obtain ⟨z, hz⟩ := rep_some p k (aft X p) e
      exact ⟨z, Or.inl ⟨e, hz⟩⟩
    · obtain ⟨z, hz⟩ := h
      exact ⟨z, Or.inr ⟨e, hz⟩⟩

theorem endsX_some (s : List Int) (x y : Nat) : ∃ z, endsX s x y z := by
  unfold endsX
  split
  · exact rep_some x 4 _ ⟨s, rfl⟩
  · unfold two
    by_cases hB : ∃ u, bothX s (max x y) (min x y) u
    · obtain ⟨u, hu⟩ := hB
      exact ⟨u, Or.inl ⟨⟨u, hu⟩, hu⟩⟩
    · have hB' : ∀ u, ¬ bothX s (max x y) (min x y) u := fun u hu => hB ⟨u, hu⟩
      by_cases hF : ∃ u, aft (fun u => u = s) (max x y) u
      · obtain ⟨u, hu⟩ := hF
        exact ⟨u, Or.inr (Or.inl ⟨hB', ⟨u, hu⟩, hu⟩)⟩
      · have hF' : ∀ u, ¬ aft (fun u => u = s) (max x y) u := fun u hu => hF ⟨u, hu⟩
        by_cases hG : ∃ u, aft (fun u => u = s) (min x y) u
        · obtain ⟨u, hu⟩ := hG
          exact ⟨u, Or.inr (Or.inr (Or.inl ⟨hB', hF', ⟨u, hu⟩, hu⟩))⟩
        · exact ⟨s, Or.inr (Or.inr (Or.inr ⟨hB', hF', fun u hu => hG ⟨u, hu⟩, rfl⟩))⟩

/-- A board that lies in the world's memory, apart from the block of the row. -/
structure Cl (w : World) (blk : Nat) where
  g : Nat
  c : Nat
  x : Bo
  rd : Rd w (some ⟨g, 0, none⟩) 26 c x.P
  ne : g ≠ blk

abbrev encC (T : Int) {w : World} {blk : Nat} (z : Cl w blk) : List Value := bv z.g z.c z.x T

theorem Bv.cl {w : World} {T : Int} {blk : Nat} (hne : ∀ g c P, Rd w (some ⟨g, 0, none⟩) 26 c P → g ≠ blk) : ∀ {L : List Bo} {vs : List Value}, Bv w T vs L → ∃ D : List (Cl w blk), D.map Cl.x = L ∧ ∀ i z, D[i]? = some z → ∀ c v, (encC T z)[c]? = some v → vs[i * 4 + c]? = some v
  | [], vs, _ => ⟨[], rfl, fun i z h => by simp at h⟩
  | x :: L, vs, h => by
    obtain ⟨g, c, vs', rfl, h1, h2⟩ := h
    obtain ⟨D, hD, hc⟩ := Bv.cl hne h2
    refine ⟨⟨g, c, x, h1, hne _ _ _ h1⟩ :: D, by rw [List.map_cons, hD], fun i z hz k v hv => ?_⟩
    have hk : k < 4 := (List.getElem?_eq_some_iff.1 hv).1
    cases i with
    | zero =>
      simp only [List.getElem?_cons_zero, Option.some.injEq] at hz
      subst hz
      rw [Nat.zero_mul, Nat.zero_add, List.getElem?_append_left (by show k < 4; exact hk)]
      exact hv
    | succ i =>
      rw [List.getElem?_cons_succ] at hz
      rw [List.getElem?_append_right (by show 4 ≤ _; omega)]
      have := hc i z hz k v hv
      rw [show (i + 1) * 4 + k - (bv g c x T).length = i * 4 + k by show (i + 1) * 4 + k - 4 = _; omega]
      exact this

/-- A list of boards that can be read. -/
def Br (w : World) (T : Int) (ga n cap : Nat) (L : List Bo) : Prop :=
  n = L.length ∧ n ≤ cap ∧ cap ≤ maxLen ∧ ∀ j, j < L.length → ∃ g c, w.rangeAt ga (4 * j) (bv g c (L.getD j b0) T) ∧ Rd w (some ⟨g, 0, none⟩) 26 c (L.getD j b0).P

theorem Bs.br {base : Nat} {w : World} {T : Int} {ga n cap : Nat} {L : List Bo} (h : Bs base w T (.slice (some ⟨ga, 0, none⟩) n cap) L) : Br w T ga n cap L := by
  obtain ⟨a, c, e, h1, h2, -⟩ := h.form
  simp only [Value.slice.injEq] at e
  obtain ⟨_, rfl, rfl⟩ := e
  exact ⟨rfl, h1, h2, fun j hj => h.at hj⟩

theorem Br.mono {w w' : World} {T : Int} {ga n cap : Nat} {L : List Bo} (h : Br w T ga n cap L) (hb : Below w.heap.size w w') : Br w' T ga n cap L := by
  obtain ⟨h0, h1, h2, h3⟩ := h
  refine ⟨h0, h1, h2, fun j hj => ?_⟩
  obtain ⟨g, c, h4, h5⟩ := h3 j hj
  refine ⟨g, c, fun i v hv => ?_, h5.mono hb⟩
  have := h4 i v hv
  exact (hb.cell (World.block_lt_of_cell? _ _ this)).trans this

/-- In order and without doubles. -/
theorem srt_of {L : List Bo} (hl : Len L) (hn : L.Nodup) (hs : L.Pairwise (fun a b => lessO b a = false)) : Srt L := by
  refine (hn.and hs).imp_of_mem (fun {a b} ha hb h => ?_)
  rcases lessO_tri (hl a ha) (hl b hb) with h1 | h1 | h1
  · exact h1
  · exact absurd h1 h.1
  · rw [h.2] at h1; cases h1

end Go.Proofs.Ytmboikpcbkiepaa
