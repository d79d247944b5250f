/-
  What the document's BestTricks answers. No conditions beyond those that each theorem bears.
-/
import Derived.Test.YtiihnlpoagnkhaaDoorTuL
namespace Go.Proofs.YtiihnlpoagnkhaaDoor
open Go.RowKit

/-- Four hands of their own lengths, in memory. -/
structure HL (w : World) (b o : Nat) (H : Nat → List Nat) : Prop where
  cell : ∀ i, i < 4 → ∃ a cc, w.cell? ⟨b, o + i, none⟩ = some (.slice a (H i).length cc) ∧ Rd w a (H i).length cc (toI (H i))

theorem HL.below {w w' : World} {b o : Nat} {H : Nat → List Nat} (h : HL w b o H) (hb : Below w.heap.size w w') : HL w' b o H :=
  ⟨fun i hi => by
    obtain ⟨a, cc, h1, h2⟩ := h.cell i hi
    exact ⟨a, cc, (hb.cell (World.block_lt_of_cell? w _ h1)).trans h1, h2.mono hb⟩⟩

/-- May this card be put down? -/
def okB (L tr : List Nat) (c : Nat) : Bool := decide (tr = []) || (!hasB L (tr.getD 0 0) || decide (c % 4 = tr.getD 0 0 % 4))

theorem ok_may (L tr : List Nat) : L.filter (okB L tr) = mayL L tr := by
  unfold mayL
  by_cases h : tr = []
  · rw [if_pos h, List.filter_eq_self]
    intro x _
    simp [okB, h]
  · rw [if_neg h]
    have hd : decide (tr = []) = false := by simpa using h
    by_cases hb : hasB L (tr.getD 0 0) = true
    · have hne : L.filter (fun c => c % 4 == tr.getD 0 0 % 4) ≠ [] := by
        obtain ⟨x, hx, e⟩ := (hasB_iff L (tr.getD 0 0)).1 hb
        intro e2
        have : x ∈ L.filter (fun c => c % 4 == tr.getD 0 0 % 4) := List.mem_filter.2 ⟨hx, by simp [e]⟩
        rw [e2] at this
        cases this
      rw [if_neg hne]
      congr 1
      funext c
      rw [okB, hd, hb]
      simp only [Bool.false_or, Bool.not_true]
      rw [Bool.eq_iff_iff]
      simp
    · have hb' : hasB L (tr.getD 0 0) = false := by simpa using hb
      have he : L.filter (fun c => c % 4 == tr.getD 0 0 % 4) = [] := by
        rw [List.filter_eq_nil_iff]
        intro x hx e
        exact hb ((hasB_iff L (tr.getD 0 0)).2 ⟨x, hx, by simpa using e⟩)
      rw [if_pos he, List.filter_eq_self]
      intro x _
      rw [okB, hd, hb']
      rfl

/-- The hands behind a card's going. -/
def outH (H : Nat → List Nat) (who i : Nat) : Nat → List Nat := fun k => if k = who then (H k).take i ++ (H k).drop (i + 1) else H k

theorem bt_out (win : List Nat → Nat) (f : Nat) (H : Nat → List Nat) (who i ld : Nat) (tr : List Nat) (hi : i < (H who).length) :
    bt win f (outH H who i) ld tr = bt win f (fun p => if p = who then (H p).erase ((H who).getD i 0) else H p) ld tr := by
  apply bt_perm
  intro p _
  unfold outH
  by_cases e : p = who
  · subst e
    rw [if_pos rfl, if_pos rfl]
    exact out_perm (H p) i hi
  · rw [if_neg e, if_neg e]

theorem even_out (H : Nat → List Nat) (ld k n i : Nat) (hl : ld < 4) (hk : k < 4) (hn : 1 ≤ n) (h : Even4 H ld k n) (hi : i < (H ((ld + k) % 4)).length) : Even4 (outH H ((ld + k) % 4) i) ld (k + 1) n := by
  intro p hp
  have h1 := even_step H ld k n ((H ((ld + k) % 4)).getD i 0) hl hk hn h (by simp [List.getD, hi]) p hp
  rw [← h1]
  unfold outH
  by_cases e : p = (ld + k) % 4
  · simp only [if_pos e]
    exact (out_perm (H p) i (by rw [e]; exact hi)).length_eq.trans (by rw [e])
  · simp only [if_neg e]

/-- Rows of numbers that a row of hands cannot touch. -/
def Apart (w : World) (base n : Nat) (a : Option Addr) : Prop := 0 < n → ∀ b off, a = some ⟨b, off, none⟩ → b < base ∨ ∃ cur, w.heap[b]? = some (.cells cur 3 (0, 0))

/-- The first k hands are laid. -/
def Nx (w : World) (base : Nat) (v : Value) (k : Nat) (H : Nat → List Nat) : Prop :=
  ∃ vs : List Value, w.ownsRow base 27 1 v k vs ∧ ∀ j, j < k → ∃ a cc, vs[j]? = some (.slice a (H j).length cc) ∧ Rd w a (H j).length cc (toI (H j)) ∧ Apart w base (H j).length a

theorem Nx.push {w w' : World} {base : Nat} {v v' : Value} {k : Nat} {H : Nat → List Nat} {vs : List Value} (h1 : w.ownsRow base 27 1 v k vs) (h2 : ∀ j, j < k → ∃ a cc, vs[j]? = some (.slice a (H j).length cc) ∧ Rd w a (H j).length cc (toI (H j)) ∧ Apart w base (H j).length a)
    {a : Option Addr} {cc : Nat} (hR : Rd w a (H k).length cc (toI (H k))) (hA : Apart w base (H k).length a) (hO : w'.ownsRow base 27 1 v' (k + 1) (vs ++ [.slice a (H k).length cc])) (hG : w.grownBy w' v.ownBlock) : Nx w' base v' (k + 1) H := by
  have hl : vs.length = k := by have := h1.1; omega
  have hne : ∀ {b : Nat}, (b < base ∨ ∃ cur, w.heap[b]? = some (.cells cur 3 (0, 0))) → some b ≠ v.ownBlock := by
    intro b hb e
    rcases hb with hb | ⟨cur, hc⟩
    · have := (h1.lt b e.symm).1
      omega
    · rcases h1.2 with ⟨rfl, _⟩ | ⟨g, cap, cur', rfl, _, hg, _⟩
      · simp [Value.ownBlock] at e
      · simp only [Value.ownBlock, Option.some.injEq] at e
        subst e
        rw [hc] at hg
        simp at hg
  have keep : ∀ {a : Option Addr} {n c : Nat} {zs : List Int}, Rd w a n c zs → Apart w base n a → Rd w' a n c zs ∧ Apart w' base n a := by
    intro a n c zs hr ha
    refine ⟨⟨hr.len, hr.cap, hr.max, hr.nil, fun hn => ?_⟩, fun hn b off e => ?_⟩
    · obtain ⟨b, off, e, hc⟩ := hr.cells hn
      exact ⟨b, off, e, fun i hi => hG.cell (hc i hi) (hne (ha hn b off e))⟩
    · rcases ha hn b off e with h3 | ⟨cur, hc⟩
      · exact Or.inl h3
      · exact Or.inr ⟨cur, (hG.block b (Array.getElem?_eq_some_iff.1 hc).1 (hne (ha hn b off e))).trans hc⟩
  refine ⟨vs ++ [.slice a (H k).length cc], hO, fun j hj => ?_⟩
  by_cases hj' : j < k
  · obtain ⟨a', c', e1, e2, e3⟩ := h2 j hj'
    exact ⟨a', c', by rw [List.getElem?_append_left (by omega)]; exact e1, (keep e2 e3).1, (keep e2 e3).2⟩
  · obtain rfl : j = k := by omega
    exact ⟨a, cc, by rw [← hl]; simp, (keep hR hA).1, (keep hR hA).2⟩

theorem Nx.below {w w' : World} {base : Nat} {v : Value} {k : Nat} {H : Nat → List Nat} (h : Nx w base v k H) (hb : Below w.heap.size w w') : Nx w' base v k H := by
  obtain ⟨vs, h1, h2⟩ := h
  refine ⟨vs, h1.kept (row := none) ⟨hb.os, hb.tape, hb.output, hb.size, fun i hi _ => hb.block i hi⟩ (by
    cases hv : v.ownBlock with
    | none => exact Or.inl rfl
    | some q => exact Or.inr (by simp)), fun j hj => ?_⟩
  obtain ⟨a, cc, e1, e2, e3⟩ := h2 j hj
  refine ⟨a, cc, e1, e2.mono hb, fun hn b off e => ?_⟩
  rcases e3 hn b off e with h3 | ⟨cur, hc⟩
  · exact Or.inl h3
  · exact Or.inr ⟨cur, (hb.block b (Array.getElem?_eq_some_iff.1 hc).1).trans hc⟩

theorem Nx.hl {w : World} {base g c : Nat} {H : Nat → List Nat} (h : Nx w base (.slice (some ⟨g, 0, none⟩) 4 c) 4 H) : HL w g 0 H := by
  obtain ⟨vs, h1, h2⟩ := h
  refine ⟨fun i hi => ?_⟩
  obtain ⟨a, cc, e1, e2, _⟩ := h2 i hi
  exact ⟨a, cc, by rw [Nat.zero_add, h1.cellAt i (by omega)]; exact e1, e2⟩

theorem Nx.form {w : World} {base : Nat} {v : Value} {k : Nat} {H : Nat → List Nat} (h : Nx w base v k H) : ∃ a c, v = .slice a k c := by
  obtain ⟨vs, h1, _⟩ := h
  exact form27 h1

end Go.Proofs.YtiihnlpoagnkhaaDoor
