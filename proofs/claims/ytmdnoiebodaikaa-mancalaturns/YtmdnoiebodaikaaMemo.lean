/-
  The map of what was found. No conditions beyond those that each theorem bears.
-/
import Derived.Test.YtmdnoiebodaikaaVMath
import Derived.Test.YtmdnoiebodaikaaKey
import Derived.WideKeyEntry
namespace Go.Proofs.Ytmdnoiebodaikaa
open Go.RowKit Go.Maps
open Go.ChangeMaps (setBlock heap_setBlock_same heap_setBlock_other modify_eq_set)
open Go.MapKept (Stamped stamped_push stamped_modify)

/-- An outcome's value. -/
abbrev ov (x y : Int) : Value := .agg #[.int .i64 x, .int .i64 y]

/-- A board that may be, of so many pits. -/
structure Bd (p t : Nat) (S : List Int) : Prop where
  p6 : p ≤ 6
  t1 : t ≤ 1
  len : S.length = 2 * (p + 1)
  fit : Fit p S

theorem wf_small {z : Int} (h0 : 0 ≤ z) (h1 : z ≤ 1000) : (Lit.int .i64 z).wf = true := by
  simp [Lit.wf, IntKind.min, IntKind.max, IntKind.signed, IntKind.bits]
  omega

theorem Bd.key {p t : Nat} {S : List Int} (h : Bd p t S) : ∃ kl, keyOf Try.prog 46 (bv (pad S) p t) = some kl := by
  have hp := h.p6
  have ht := h.t1
  have hl := h.len
  refine key_mk (pad S) p t (pad_length S (by omega)) (fun z hz => ?_) (wf_small (by omega) (by omega)) (wf_small (by omega) (by omega))
  obtain ⟨i, hi, rfl⟩ := List.getElem_of_mem hz
  have e : (pad S)[i] = (pad S).getD i 0 := by simp [List.getD, hi]
  rw [e]
  rw [pad_length S (by omega)] at hi
  by_cases hs : i < S.length
  · rw [pad_getD S i hs]
    exact wf_small (h.fit.pos i (by omega)) (h.fit.le (by omega))
  · have : (pad S).getD i 0 = 0 := by
      unfold pad
      rw [List.getD, List.getElem?_append_right (by omega), List.getElem?_replicate]
      split <;> rfl
    rw [this]
    exact wf_small (by omega) (by omega)

theorem bv_inj {p t p' t' : Nat} {S S' : List Int} (hl : S.length = 2 * (p + 1)) (hl' : S'.length = 2 * (p' + 1)) (hp : p ≤ 6) (hp' : p' ≤ 6) (h : bv (pad S) p t = bv (pad S') p' t') : p = p' ∧ t = t' ∧ S = S' := by
  have h1 : bdL (pad S) p t = bdL (pad S') p' t' := by
    have : (ivs (bdL (pad S) p t)).toArray = (ivs (bdL (pad S') p' t')).toArray := by simpa using h
    exact ivs_inj (by simpa using congrArg Array.toList this)
  have L := pad_length S (by omega)
  have L' := pad_length S' (by omega)
  have e14 := congrArg (fun l => l.getD 14 0) h1
  have e15 := congrArg (fun l => l.getD 15 0) h1
  rw [bdL_pits _ _ _ L, bdL_pits _ _ _ L'] at e14
  rw [bdL_turn _ _ _ L, bdL_turn _ _ _ L'] at e15
  have hpp : p = p' := by omega
  have htt : t = t' := by omega
  subst hpp htt
  refine ⟨rfl, rfl, ?_⟩
  have e := congrArg (fun l => l.take (2 * (p + 1))) h1
  simp only [bdL] at e
  rw [List.take_append_of_le_length (by omega), List.take_append_of_le_length (by omega), ← hl, pad_take, hl, ← hl', pad_take] at e
  exact e

/-- Block b of w is a map whose entries are all right. -/
def Mp (w : World) (b : Nat) : Prop :=
  ∃ es clock, w.heap[b]? = some (.map es clock) ∧ ∀ x ∈ es.toList, ∃ p t S, Bd p t S ∧ x.key = bv (pad S) p t ∧ x.val = ov (val p t S).1 (val p t S).2

theorem Mp.lt {w : World} {b : Nat} (h : Mp w b) : b < w.heap.size := by
  obtain ⟨es, clock, hb, _⟩ := h
  exact (Array.getElem?_eq_some_iff.1 hb).1

theorem Mp.of_block {w w' : World} {b : Nat} (h : Mp w b) (he : w'.heap[b]? = w.heap[b]?) : Mp w' b := by
  obtain ⟨es, clock, hb, r⟩ := h
  exact ⟨es, clock, he.trans hb, r⟩

theorem Mp.below {w w' : World} {b B : Nat} (h : Mp w b) (hk : Below B w w') (hb : b < B) : Mp w' b := h.of_block (hk.block b hb)
theorem Mp.keeps {X : Nat → Prop} {w w' : World} {b : Nat} (h : Mp w b) (hk : Keeps X w w') (hb : ¬ X b) : Mp w' b := h.of_block (hk.block b h.lt hb)

theorem Mp.made (w : World) : Mp (w.alloc (.map #[] 0)) w.heap.size := ⟨#[], 0, heap_alloc_new w _, by simp⟩

theorem zero56 (w : World) : (zeroValue 56).run Try.prog w = .ok (ov 0 0) w := Try.zeroValue56 w

/-- 'v, ok := m[k]'. -/
theorem Mp.look {w : World} {b : Nat} (h : Mp w b) {p t : Nat} {S : List Int} (hB : Bd p t S) :
    (Instr.lookup 58 (.map (some b)) (bv (pad S) p t) true).run Try.prog w = .ok (.tuple #[ov (val p t S).1 (val p t S).2, .bool true]) w
    ∨ (Instr.lookup 58 (.map (some b)) (bv (pad S) p t) true).run Try.prog w = .ok (.tuple #[ov 0 0, .bool false]) w := by
  obtain ⟨es, clock, hb, hk⟩ := h
  obtain ⟨kl, hkl⟩ := hB.key
  have hc := fun em => board_keyed.check w em hkl
  have hz := zero56 w
  rcases board_keyed.find w hkl es.toList (fun x hx => by obtain ⟨p', t', S', hB', hq, _⟩ := hk x hx; rw [hq]; exact hB'.key) with ⟨h1, _⟩ | ⟨j, x, h1, h2, h3⟩
  · refine Or.inr ?_
    simp [Instr.lookup, run_underlying Try.underlying58, MapKept.run_getObj_map hb, hc, h1, hz, Result.andThen]
  · obtain ⟨p', t', S', hB', hq, hv⟩ := hk x (List.mem_of_getElem? h2)
    obtain ⟨rfl, rfl, rfl⟩ := bv_inj hB'.len hB.len hB'.p6 hB.p6 (hq.symm.trans h3)
    refine Or.inl ?_
    simp [Instr.lookup, run_underlying Try.underlying58, MapKept.run_getObj_map hb, hc, h1, hv, Result.andThen]

/-- 'm[k] = v'. -/
theorem Mp.put {w : World} {b : Nat} (h : Mp w b) {p t : Nat} {S : List Int} (hB : Bd p t S) :
    ∃ w', (Instr.mapUpdate 58 (.map (some b)) (bv (pad S) p t) (ov (val p t S).1 (val p t S).2)).run Try.prog w = .ok () w' ∧ Mp w' b ∧ Keeps (fun k => k = b) w w' := by
  obtain ⟨es, clock, hb, hk⟩ := h
  obtain ⟨kl, hkl⟩ := hB.key
  have hc := fun em => board_keyed.check w em hkl
  have hs := board_keyed.stays w hkl
  have hgr : ∀ o, Keeps (fun k => k = b) w (setBlock w b o) := fun o => ⟨rfl, rfl, rfl, by simp [setBlock], fun i _ hi => heap_setBlock_other hb _ (fun e => hi (by rw [e]))⟩
  rcases board_keyed.find w hkl es.toList (fun x hx => by obtain ⟨p', t', S', hB', hq, _⟩ := hk x hx; rw [hq]; exact hB'.key) with ⟨h1, _⟩ | ⟨j, x, h1, h2, h3⟩
  · refine ⟨setBlock w b (.map (es.push ⟨bv (pad S) p t, ov (val p t S).1 (val p t S).2, clock⟩) (clock + 1)), ?_, ⟨_, _, heap_setBlock_same hb _, ?_⟩, hgr _⟩
    · simp [Instr.mapUpdate, run_underlying Try.underlying58, MapKept.run_getObj_map hb, hc, h1, MapKept.run_setObj_map _ hb, Result.andThen, setBlock]
    · intro x hx
      simp only [Array.toList_push, List.mem_append, List.mem_singleton] at hx
      rcases hx with hx | rfl
      · exact hk x hx
      · exact ⟨p, t, S, hB, rfl, rfl⟩
  · have hj : es[j]? = some x := by simpa using h2
    refine ⟨setBlock w b (.map (es.modify j fun e => { e with key := bv (pad S) p t, val := ov (val p t S).1 (val p t S).2 }) clock), ?_, ⟨_, _, heap_setBlock_same hb _, ?_⟩, hgr _⟩
    · simp [Instr.mapUpdate, run_underlying Try.underlying58, MapKept.run_getObj_map hb, hc, h1, hj, h3, hs, MapKept.run_setObj_map _ hb, Result.andThen, setBlock]
    · intro y hy
      rw [Array.toList_modify, modify_eq_set _ _ _ _ h2] at hy
      obtain ⟨i, hi, rfl⟩ := List.getElem_of_mem hy
      rw [List.getElem_set]
      split
      · exact ⟨p, t, S, hB, rfl, rfl⟩
      · have hi' : i < es.toList.length := by simpa using hi
        exact hk _ (List.getElem_mem hi')

end Go.Proofs.Ytmdnoiebodaikaa
