/-
  What a slice of ints reads as; how a row grows by a piece. No conditions beyond those that each theorem bears.
-/
import Derived.Test.YtjcglpnpdalcjaaRowsN
import Derived.Test.YtjcglpnpdalcjaaEuTab
import Derived.Test.YtjcglpnpdalcjaaPlay2
namespace Go.Proofs.Ytjcglpnpdalcjaa
open Go.RowKit
attribute [local irreducible] hz hzL laid

/-- A slice of ints, of length n and capacity c, reads zs. -/
structure Rd (w : World) (a : Option Addr) (n c : Nat) (zs : List Int) : Prop where
  len : zs.length = n
  cap : n ≤ c
  max : c ≤ maxLen
  nil : a = none → c = 0
  cells : 0 < n → ∃ b off, a = some ⟨b, off, none⟩ ∧ ∀ i, i < n → w.cell? ⟨b, off + i, none⟩ = some (.int .i64 (zs.getD i 0))

theorem Rd.of_nil (w : World) : Rd w none 0 0 [] := ⟨rfl, Nat.le_refl _, Nat.zero_le _, fun _ => rfl, fun h => absurd h (by omega)⟩

theorem Rd.mono {w w' : World} {a n c zs} (h : Rd w a n c zs) (hb : Below w.heap.size w w') : Rd w' a n c zs := by
  refine ⟨h.len, h.cap, h.max, h.nil, fun hn => ?_⟩
  obtain ⟨b, off, rfl, hc⟩ := h.cells hn
  refine ⟨b, off, rfl, fun i hi => ?_⟩
  rw [hb.cell (World.block_lt_of_cell? w _ (hc i hi))]
  exact hc i hi

/-- The cell of an element. -/
theorem Rd.cell {w : World} {b off n c : Nat} {spot} {zs : List Int} (h : Rd w (some ⟨b, off, spot⟩) n c zs) {i : Nat} (hi : i < n) :
    spot = none ∧ w.cell? ⟨b, off + i, none⟩ = some (.int .i64 (zs.getD i 0)) := by
  obtain ⟨b', off', he, hc⟩ := h.cells (by omega)
  simp only [Option.some.injEq, Addr.mk.injEq] at he
  obtain ⟨rfl, rfl, rfl⟩ := he
  exact ⟨rfl, hc i hi⟩

/-- A slice that came in. -/
theorem Rd.of_open {w : World} {x : Addr} {n c : Nat} {zs : List Int} (hl : n ≤ c) (hm : c ≤ maxLen) (hz : zs.length = c) (hcell : ∀ i, i < zs.length → w.cell? (x.add i) = some (.int .i64 (zs.getD i 0))) : Rd w (some x) n c (zs.take n) := by
  refine ⟨by simp; omega, hl, hm, (fun h => by simp at h), fun hn => ?_⟩
  obtain ⟨b, off, spot⟩ := x
  have hspot : spot = none := by simpa [Addr.add] using World.cell?_spot (hcell 0 (by omega))
  subst hspot
  refine ⟨b, off, rfl, fun i hi => ?_⟩
  have := hcell i (by omega)
  rw [Addr.add_lit] at this
  rw [this]
  simp [List.getD, hi]


theorem pcB_turn (p : Pc) : pcB (turn p) = pcB p := by
  unfold pcB turn
  simp only
  exact Bool.and_comm _ _

theorem pcsB_longer (ps : List Pc) (p : Pc) (r : Bool) (h : pcsB ps = true) (hp : pcB p = true) : pcsB (longer ps p r) = true := by
  unfold pcsB at h ⊢
  unfold longer
  cases r with
  | true => simp only [if_true, List.all_append, h, List.all_cons, List.all_nil, hp]; rfl
  | false => simp only [Bool.false_eq_true, if_false, List.all_cons, h, hp]; rfl

theorem longer_len (ps : List Pc) (p : Pc) (r : Bool) : (longer ps p r).length = ps.length + 1 := by
  unfold longer; cases r <;> simp

theorem longer_nil (p : Pc) (r : Bool) : longer [] p r = [p] := by unfold longer; cases r <;> rfl

theorem play_facts (ps : List Pc) (p : Pc) (r : Bool) (hf : fltE ps 59 = 0) (hp : pcB p = true) (hr : isR ps = true) (hB : pcsB ps = true) :
    (∃ L, playV ps p r = (L, 0) ∧ L.length = ps.length + 1 ∧ isR L = true ∧ pcsB L = true) ∨ (playV ps p r = ([], 10) ∧ ps.length ≠ 0) := by
  rw [playV, if_neg (by simp [hf]), if_neg (by simp [hp]), if_neg (by simp [hr])]
  unfold playD
  by_cases h1 : isR (longer ps p r) = true
  · rw [if_pos h1]
    exact Or.inl ⟨_, rfl, longer_len _ _ _, h1, pcsB_longer ps p r hB hp⟩
  · rw [if_neg h1]
    by_cases h2 : isR (longer ps (turn p) r) = true
    · rw [if_pos h2]
      exact Or.inl ⟨_, rfl, longer_len _ _ _, h2, pcsB_longer ps (turn p) r hB (by rw [pcB_turn]; exact hp)⟩
    · rw [if_neg h2]
      refine Or.inr ⟨rfl, fun h0 => h1 ?_⟩
      have : ps = [] := List.eq_nil_of_length_eq_zero h0
      rw [this, longer_nil]
      rfl

theorem rows_one : rowsV [(0, 1)] = (2, 0) := by decide +kernel

theorem row_grown (ps : List Pc) (hl : ps.length ≤ 60) (hB : pcsB ps = true) (hr : isR ps = true) : (rowE ps).2 = 0 ∧ (rowE ps).1.length = ps.length := by
  obtain ⟨h1, h2⟩ := row_again ps hB hr
  rw [rowE, if_neg (by rw [flt_ok ps hl hB]; simp), if_neg (by omega), if_neg (by simpa using h2)]
  exact ⟨rfl, h2⟩

theorem isR_at (ps : List Pc) (h : isR ps = true) (k : Nat) (h1 : 1 ≤ k) (hk : k < ps.length) : (ps.getD (k - 1) (0, 0)).2 = (ps.getD k (0, 0)).1 := by
  by_cases e : (ps.getD (k - 1) (0, 0)).2 = (ps.getD k (0, 0)).1
  · exact e
  · have := isR_false ps k h1 hk e
    rw [this] at h; cases h

end Go.Proofs.Ytjcglpnpdalcjaa
