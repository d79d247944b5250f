/-
  Rows of hands, copied. No conditions beyond those that each theorem bears.
-/
import Derived.Test.YtiihnlpoagnkhaaDoorRf
namespace Go.Proofs.YtiihnlpoagnkhaaDoor
open Go.RowKit

/-- Rows of their own lengths, in memory. -/
structure HI (w : World) (a : Option Addr) (N : Nat) (Z : Nat → List Int) : Prop where
  cell : ∀ i, i < N → ∃ b o ai ci, a = some ⟨b, o, none⟩ ∧ w.cell? ⟨b, o + i, none⟩ = some (.slice ai (Z i).length ci) ∧ Rd w ai (Z i).length ci (Z i)

theorem HI.below {w w' : World} {a : Option Addr} {N : Nat} {Z : Nat → List Int} (h : HI w a N Z) (hb : Below w.heap.size w w') : HI w' a N Z :=
  ⟨fun i hi => by
    obtain ⟨b, o, ai, ci, h0, h1, h2⟩ := h.cell i hi
    exact ⟨b, o, ai, ci, h0, (hb.cell (World.block_lt_of_cell? w _ h1)).trans h1, h2.mono hb⟩⟩

/-- The first k rows are laid. -/
def NI (w : World) (base : Nat) (v : Value) (k : Nat) (H : Nat → List Int) : Prop :=
  ∃ vs : List Value, w.ownsRow base 27 1 v k vs ∧ ∀ j, j < k → ∃ a cc, vs[j]? = some (.slice a (H j).length cc) ∧ Rd w a (H j).length cc (H j) ∧ Apart w base (H j).length a

theorem NI.push {w w' : World} {base : Nat} {v v' : Value} {k : Nat} {H : Nat → List Int} {vs : List Value} (h1 : w.ownsRow base 27 1 v k vs) (h2 : ∀ j, j < k → ∃ a cc, vs[j]? = some (.slice a (H j).length cc) ∧ Rd w a (H j).length cc (H j) ∧ Apart w base (H j).length a)
    {a : Option Addr} {cc : Nat} (hR : Rd w a (H k).length cc (H k)) (hA : Apart w base (H k).length a) (hO : w'.ownsRow base 27 1 v' (k + 1) (vs ++ [.slice a (H k).length cc])) (hG : w.grownBy w' v.ownBlock) : NI w' base v' (k + 1) H := by
  have hl : vs.length = k := by have := h1.1; omega
  have hne : ∀ {b : Nat}, (b < base ∨ ∃ cur, w.heap[b]? = some (.cells cur 3 (0, 0))) → some b ≠ v.ownBlock := by
    intro b hb e
    rcases hb with hb | ⟨cur, hc⟩
    · have := (h1.lt b e.symm).1
      omega
    · rcases h1.2 with ⟨rfl, _⟩ | ⟨g, cap, cur', rfl, _, hg, _⟩
      · simp [Value.ownBlock] at e
      · simp only [Value.ownBlock, Option.some.injEq] at e
        subst e
        rw [hc] at hg
        simp at hg
  have keep : ∀ {a : Option Addr} {n c : Nat} {zs : List Int}, Rd w a n c zs → Apart w base n a → Rd w' a n c zs ∧ Apart w' base n a := by
    intro a n c zs hr ha
    refine ⟨⟨hr.len, hr.cap, hr.max, hr.nil, fun hn => ?_⟩, fun hn b off e => ?_⟩
    · obtain ⟨b, off, e, hc⟩ := hr.cells hn
      exact ⟨b, off, e, fun i hi => hG.cell (hc i hi) (hne (ha hn b off e))⟩
    · rcases ha hn b off e with h3 | ⟨cur, hc⟩
      · exact Or.inl h3
      · exact Or.inr ⟨cur, (hG.block b (Array.getElem?_eq_some_iff.1 hc).1 (hne (ha hn b off e))).trans hc⟩
  refine ⟨vs ++ [.slice a (H k).length cc], hO, fun j hj => ?_⟩
  by_cases hj' : j < k
  · obtain ⟨a', c', e1, e2, e3⟩ := h2 j hj'
    exact ⟨a', c', by rw [List.getElem?_append_left (by omega)]; exact e1, (keep e2 e3).1, (keep e2 e3).2⟩
  · obtain rfl : j = k := by omega
    exact ⟨a, cc, by rw [← hl]; simp, (keep hR hA).1, (keep hR hA).2⟩

theorem NI.below {w w' : World} {base : Nat} {v : Value} {k : Nat} {H : Nat → List Int} (h : NI w base v k H) (hb : Below w.heap.size w w') : NI w' base v k H := by
  obtain ⟨vs, h1, h2⟩ := h
  refine ⟨vs, h1.kept (row := none) ⟨hb.os, hb.tape, hb.output, hb.size, fun i hi _ => hb.block i hi⟩ (by
    cases hv : v.ownBlock with
    | none => exact Or.inl rfl
    | some q => exact Or.inr (by simp)), fun j hj => ?_⟩
  obtain ⟨a, cc, e1, e2, e3⟩ := h2 j hj
  refine ⟨a, cc, e1, e2.mono hb, fun hn b off e => ?_⟩
  rcases e3 hn b off e with h3 | ⟨cur, hc⟩
  · exact Or.inl h3
  · exact Or.inr ⟨cur, (hb.block b (Array.getElem?_eq_some_iff.1 hc).1).trans hc⟩

theorem NI.form {w : World} {base : Nat} {v : Value} {k : Nat} {H : Nat → List Int} (h : NI w base v k H) : ∃ a c, v = .slice a k c := by
  obtain ⟨vs, h1, _⟩ := h
  exact form27 h1

theorem Apart.own {w : World} {base base' n c : Nat} {a : Option Addr} {xs : List Value} (h : w.ownsRow base' 3 1 (.slice a n c) n xs) : Apart w base n a := by
  intro hn b off e
  rcases h.2 with ⟨hv, h0⟩ | ⟨g, cap, cur, hv, _, hg, _⟩
  · omega
  · simp only [Value.slice.injEq] at hv
    rw [hv.1] at e
    simp only [Option.some.injEq, Addr.mk.injEq] at e
    obtain ⟨rfl, -, -⟩ := e
    exact Or.inr ⟨cur, hg⟩

theorem NI.cellAt {w : World} {base : Nat} {g c N : Nat} {Z : Nat → List Int} (h : NI w base (.slice (some ⟨g, 0, none⟩) N c) N Z) (i : Nat) (hi : i < N) : ∃ a cc, w.cell? ⟨g, i, none⟩ = some (.slice a (Z i).length cc) ∧ Rd w a (Z i).length cc (Z i) := by
  obtain ⟨vs, h1, h2⟩ := h
  obtain ⟨a, cc, e1, e2, _⟩ := h2 i hi
  exact ⟨a, cc, by rw [h1.cellAt i (by omega)]; exact e1, e2⟩

theorem NI.at0 {w : World} {base : Nat} {a : Option Addr} {c N : Nat} {Z : Nat → List Int} (h : NI w base (.slice a N c) N Z) (hN : 0 < N) : ∃ g, a = some ⟨g, 0, none⟩ ∧ base ≤ g ∧ N ≤ c ∧ c ≤ 9223372036854775807 := by
  obtain ⟨vs, N1, -⟩ := h
  rcases N1.2 with ⟨hv, h0⟩ | ⟨g, cap, cur, hv, hb, hg, hnc, hcm, -⟩
  · omega
  · simp only [Value.slice.injEq] at hv
    unfold maxLen at hcm
    exact ⟨g, hv.1, hb, by omega, by omega⟩

set_option maxRecDepth 100000 in
set_option maxHeartbeats 2000000 in
theorem copied_any (a : Option Addr) (N c : Nat) (Z : Nat → List Int) (w : World) (h : HI w a N Z) (hN : N * 24 ≤ 140737488351232) (hZ : ∀ i, i < N → (Z i).length * 8 ≤ 140737488351232) :
    Calls Tryd.prog 6 #[.slice a N c] w fun e w' => ∃ a' c', e = .returned (.slice a' N c') ∧ NI w' w.heap.size (.slice a' N c') N Z ∧ Below w.heap.size w w' := by
  obtain ⟨i0, hi0, hz0, hz1, hz2⟩ := info_parts Tryd.info27
  have HH := hide h
  have HZ := hide hZ
  clear h hZ
  go_enter Tryd.func6, Tryd.ntmps6
  go_wp2_with fail
  go_loopw [3, 4] (fun v3 v4 wr => ∃ (k : Nat), v4 = .int .i64 k ∧ k ≤ N ∧ (∃ ad cc, v3 = .slice ad k cc) ∧ Hid (NI wr w.heap.size v3 k Z) ∧ Hid (Below w.heap.size w wr)) (fun _ v _ => N - (intOf v).toNat)
  case atStart => exact ⟨0, rfl, by omega, ⟨_, _, rfl⟩, ⟨[], World.ownsRow_nil _ _ _ _, fun j hj => by omega⟩, Below.refl _ _⟩
  case round =>
    obtain ⟨k, rfl, hk, ⟨ad, cc, rfl⟩, hN', hB⟩ := hrel
    by_cases hlt : k < N
    · have hlt' : (k : Int) < (N : Int) := by omega
      obtain ⟨b, o, ai, ci, ha, hc, hR⟩ := HH.out.cell k hlt
      subst ha
      obtain ⟨nk, hnk⟩ : ∃ nk, (Z k).length = nk := ⟨_, rfl⟩
      have hzk := HZ.out k hlt
      rw [hnk] at hc hR hzk
      have cr : wr.cell? ⟨b, o + k, none⟩ = some (.slice ai nk ci) := (hB.out.cell (p := ⟨b, o + k, none⟩) (World.block_lt_of_cell? w _ hc)).trans hc
      have INTS := hide (ints_own ai nk ci (Z k) wr (hR.mono hB.out) (by omega))
      have HNK := hide hnk
      clear hc hR hnk
      go_wp2_with fail
      refine INTS.out.mono ?_
      rintro e w1 ⟨a1, c1, rfl, own1, B1⟩
      have OW1 := hide own1
      have HB1 := hide B1
      clear own1 B1 INTS
      obtain ⟨vs, N1, N2⟩ := hN'.out.below (HB1.out.alloc HB1.out.size (.cells #[.slice a1 nk c1] 27))
      have N1 := hide N1
      have N2 := hide N2
      go_wp2_with (at_builtin; refine wpList_append_own _ rfl (.tmp 11) (.tmp 17) 22 rfl w.heap.size 27 i0 (.slice none 0 0) 1 24 Tryd.underlying22 hi0 hz0 hz1 hz2 rfl (by decide) _ k vs rfl N1.out ⟨w1.heap.size, 0, none⟩ 1 1 [.slice a1 nk c1] rfl (by simp) (one_news _ _) (by simp [Value.oneCell']) (by unfold maxLen; omega) (by omega) (by have := hB.out.size; have := HB1.out.size; simp; omega) ?_)
      intro v4 w4 O4 G4 _
      obtain ⟨a4, c4, hv4⟩ := form27 O4
      subst hv4
      have X1 := hB.out.trans (HB1.out.mono hB.out.size)
      have X30 := X1.alloc X1.size (.cells #[.slice a1 nk c1] 27)
      have X4 := hide (X30.grown G4 X30.size (fun j hj => (N1.out.lt j hj).1))
      have O1 := OW1.out.alloc (.cells #[.slice a1 nk c1] 27)
      have NX4 := hide (NI.push (H := Z) N1.out N2.out (a := a1) (cc := c1) (by rw [HNK.out]; exact Rd.of_own O1) (by rw [HNK.out]; exact Apart.own O1) (by rw [HNK.out]; exact O4) G4)
      clear X1 X30 G4 O4 N1 N2 hN' hB cr O1 OW1 HB1
      go_wp2
      exact ⟨⟨k + 1, by go_num, by omega, ⟨_, _, rfl⟩, NX4.out, X4.out⟩, by simp [intOf]; omega⟩
    · have hge : ¬ (k : Int) < (N : Int) := by omega
      obtain rfl : k = N := by omega
      go_wp2
      go_ret
      exact ⟨_, _, rfl, hN'.out, hB.out⟩

end Go.Proofs.YtiihnlpoagnkhaaDoor
