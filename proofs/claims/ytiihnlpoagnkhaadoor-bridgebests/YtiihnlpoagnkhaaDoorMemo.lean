/-
  The map of what was found. No conditions beyond those that each theorem bears.
-/
import Derived.Test.YtiihnlpoagnkhaaDoorBlk
import Derived.WideKeyEntry
namespace Go.Proofs.YtiihnlpoagnkhaaDoor
open Go.RowKit
open Go.ChangeMaps (setBlock heap_setBlock_same heap_setBlock_other modify_eq_set)
open Go.MapKept (Stamped stamped_push stamped_modify)

/-- A state's value. -/
abbrev kv (l d : Nat) : Value := .agg #[.int .u64 (l : Int), .int .i64 (d : Int)]

theorem kv_inj {l d l' d' : Nat} (h : kv l d = kv l' d') : l = l' ∧ d = d' := by
  simp at h
  exact ⟨by omega, by omega⟩

theorem run_equal51 (w : World) (l d l' d' : Nat) : (Op.equal 51 (kv l d) (kv l' d')).run Tryd.prog w = .ok (decide (l = l' ∧ d = d')) w := by
  show (Op.equalIn (9998 + 1 + 1) 51 (kv l d) (kv l' d')).run Tryd.prog w = _
  generalize (9998 : Nat) = m
  have e : decide (l = l' ∧ d = d') = (decide (l = l') && decide (d = d')) := by rw [Bool.eq_iff_iff]; simp
  rw [e]
  simp [go_sem]
  by_cases h1 : l = l' <;> by_cases h2 : d = d' <;> simp [h1, h2, Int.natCast_inj]

theorem check51 (w : World) (em : Bool) (l d : Nat) : (Instr.checkKey em 10000 51 (kv l d)).run Tryd.prog w = .ok () w := by
  show (Instr.checkKey em (9998 + 1 + 1) 51 (kv l d)).run Tryd.prog w = .ok () w
  generalize (9998 : Nat) = m
  rw [Instr.checkKey]
  have e3 : ∀ a : Int, (Instr.checkKey em (m + 1) 3 (.int .i64 a)).run Tryd.prog w = .ok () w := fun a => by
    rw [Instr.checkKey]
    simp [Sem.run_bind, run_underlying Tryd.underlying3, Result.andThen]
  have e4 : ∀ a : Int, (Instr.checkKey em (m + 1) 49 (.int .u64 a)).run Tryd.prog w = .ok () w := fun a => by
    rw [Instr.checkKey]
    simp [Sem.run_bind, run_underlying Tryd.underlying49, Result.andThen]
  simp only [Sem.run_bind, run_underlying Tryd.underlying51, Result.andThen_ok]
  simp [part, Tryd.isAgg3, Tryd.isAgg49, e3, e4, Result.andThen]

theorem ask51 (w : World) (l d : Nat) : ∀ (es : List MapEntry) (i : Nat), (∀ x ∈ es, ∃ l' d', x.key = kv l' d') →
    (∃ j x, (Instr.findAsking 51 (kv l d) es i).run Tryd.prog w = .ok (some (i + j, x.val)) w ∧ es[j]? = some x ∧ x.key = kv l d) ∨
    ((Instr.findAsking 51 (kv l d) es i).run Tryd.prog w = .ok none w ∧ ∀ x ∈ es, x.key ≠ kv l d)
  | [], i, _ => Or.inr ⟨rfl, by simp⟩
  | x :: es, i, h => by
    obtain ⟨l', d', hq⟩ := h x (by simp)
    have hr := run_equal51 w l d l' d'
    rw [← hq] at hr
    by_cases hpq : l = l' ∧ d = d'
    · refine Or.inl ⟨0, x, ?_, rfl, by rw [hq, hpq.1, hpq.2]⟩
      rw [decide_eq_true hpq] at hr
      rw [Instr.findAsking]
      simp [Sem.run_bind, hr, Result.andThen]
    · rw [decide_eq_false hpq] at hr
      rcases ask51 w l d es (i + 1) (fun y hy => h y (by simp [hy])) with ⟨j, y, h1, h2, h3⟩ | ⟨h1, h2⟩
      · refine Or.inl ⟨j + 1, y, ?_, by simpa using h2, h3⟩
        rw [Instr.findAsking]
        simp [Sem.run_bind, hr, Result.andThen, h1]
        omega
      · refine Or.inr ⟨?_, ?_⟩
        · rw [Instr.findAsking]
          simp [Sem.run_bind, hr, Result.andThen, h1]
        · intro y hy
          rcases List.mem_cons.1 hy with rfl | hy
          · rw [hq]
            intro e
            have := kv_inj e
            exact hpq ⟨this.1.symm, this.2.symm⟩
          · exact h2 y hy

theorem find51 (w : World) (l d : Nat) (es : List MapEntry) (h : ∀ x ∈ es, ∃ l' d', x.key = kv l' d') :
    (∃ j x, (Instr.findKey 51 (kv l d) es).run Tryd.prog w = .ok (some (j, x.val)) w ∧ es[j]? = some x ∧ x.key = kv l d) ∨
    ((Instr.findKey 51 (kv l d) es).run Tryd.prog w = .ok none w ∧ ∀ x ∈ es, x.key ≠ kv l d) := by
  have hf : (Instr.findKey 51 (kv l d) es).run Tryd.prog w = (Instr.findAsking 51 (kv l d) es 0).run Tryd.prog w := by
    rw [Instr.findKey]
    simp only [Sem.run_bind, run_underlying Tryd.underlying51, Result.andThen_ok]
    cases es with
    | nil => rfl
    | cons x es =>
      obtain ⟨l', d', hq⟩ := h x (by simp)
      rw [Instr.findNow]
      rfl
  rw [hf]
  rcases ask51 w l d es 0 h with ⟨j, x, h1, h2, h3⟩ | h2
  · exact Or.inl ⟨j, x, by rw [h1, Nat.zero_add], h2, h3⟩
  · exact Or.inr h2

/-- Block b of w is a map whose entries are all right. -/
def Mp (w : World) (b : Nat) (G : Nat → Nat → Nat → Prop) : Prop :=
  ∃ es clock, w.heap[b]? = some (.map es clock) ∧ ∀ x ∈ es.toList, ∃ l d v, x.key = kv l d ∧ x.val = .int .i64 (v : Nat) ∧ G l d v

theorem Mp.lt {w : World} {b : Nat} {G : Nat → Nat → Nat → Prop} (h : Mp w b G) : b < w.heap.size := by
  obtain ⟨es, clock, hb, _⟩ := h
  exact (Array.getElem?_eq_some_iff.1 hb).1

theorem Mp.of_block {w w' : World} {b : Nat} {G : Nat → Nat → Nat → Prop} (h : Mp w b G) (he : w'.heap[b]? = w.heap[b]?) : Mp w' b G := by
  obtain ⟨es, clock, hb, r⟩ := h
  exact ⟨es, clock, he.trans hb, r⟩

theorem Mp.made (w : World) (G : Nat → Nat → Nat → Prop) : Mp (w.alloc (.map #[] 0)) w.heap.size G :=
  ⟨#[], 0, heap_alloc_new w _, by simp⟩

/-- 'v, ok := m[k]'. -/
theorem Mp.look {w : World} {b : Nat} {G : Nat → Nat → Nat → Prop} (h : Mp w b G) (l d : Nat) :
    (∃ v : Nat, (Instr.lookup 46 (.map (some b)) (kv l d) true).run Tryd.prog w = .ok (.tuple #[.int .i64 v, .bool true]) w ∧ G l d v)
    ∨ (Instr.lookup 46 (.map (some b)) (kv l d) true).run Tryd.prog w = .ok (.tuple #[.int .i64 0, .bool false]) w := by
  obtain ⟨es, clock, hb, hk⟩ := h
  have hz : (zeroValue 3).run Tryd.prog w = .ok (.int .i64 0) w := Tryd.zeroValue3 w
  rcases find51 w l d es.toList (fun x hx => let ⟨l', d', v, h1, _⟩ := hk x hx; ⟨l', d', h1⟩) with ⟨j, x, h1, h2, h3⟩ | ⟨h1, h2⟩
  · obtain ⟨l', d', v, hq, hv, hG⟩ := hk x (List.mem_of_getElem? h2)
    obtain ⟨rfl, rfl⟩ := kv_inj (hq.symm.trans h3)
    refine Or.inl ⟨v, ?_, hG⟩
    simp [Instr.lookup, run_underlying Tryd.underlying46, MapKept.run_getObj_map hb, check51, h1, hv, Result.andThen]
  · refine Or.inr ?_
    simp [Instr.lookup, run_underlying Tryd.underlying46, MapKept.run_getObj_map hb, check51, h1, hz, Result.andThen]

theorem stays51 (w : World) (l d : Nat) : (Instr.keyThatStays (kv l d) (kv l d)).run Tryd.prog w = .ok (kv l d) w := by
  have : Instr.sameBits 10000 (kv l d) (kv l d) = true := by
    show Instr.sameBits (9999 + 1) (kv l d) (kv l d) = true
    generalize (9999 : Nat) = m
    simp [Instr.sameBits]
  simp [Instr.keyThatStays, this]

/-- 'm[k] = v'. -/
theorem Mp.put {w : World} {b : Nat} {G : Nat → Nat → Nat → Prop} (h : Mp w b G) (l d v : Nat) (hG : G l d v) :
    ∃ w', (Instr.mapUpdate 46 (.map (some b)) (kv l d) (.int .i64 v)).run Tryd.prog w = .ok () w' ∧ Mp w' b G ∧ w.grownBy w' (some b) := by
  obtain ⟨es, clock, hb, hk⟩ := h
  have hgr : ∀ o, w.grownBy (setBlock w b o) (some b) := fun o => ⟨rfl, rfl, rfl, by simp [setBlock], fun i _ hi => heap_setBlock_other hb _ (fun e => hi (by rw [e]))⟩
  rcases find51 w l d es.toList (fun x hx => let ⟨l', d', v, h1, _⟩ := hk x hx; ⟨l', d', h1⟩) with ⟨j, x, h1, h2, h3⟩ | ⟨h1, h2⟩
  · have hj : es[j]? = some x := by simpa using h2
    refine ⟨setBlock w b (.map (es.modify j fun e => { e with key := kv l d, val := .int .i64 v }) clock), ?_, ⟨_, _, heap_setBlock_same hb _, ?_⟩, hgr _⟩
    · simp [Instr.mapUpdate, run_underlying Tryd.underlying46, MapKept.run_getObj_map hb, check51, h1, hj, h3, stays51, MapKept.run_setObj_map _ hb, Result.andThen, setBlock]
    · intro y hy
      rw [Array.toList_modify, modify_eq_set _ _ _ _ h2] at hy
      obtain ⟨i, hi, rfl⟩ := List.getElem_of_mem hy
      rw [List.getElem_set]
      split
      · exact ⟨l, d, v, rfl, rfl, hG⟩
      · have hi' : i < es.toList.length := by simpa using hi
        exact hk _ (List.getElem_mem hi')
  · refine ⟨setBlock w b (.map (es.push ⟨kv l d, .int .i64 v, clock⟩) (clock + 1)), ?_, ⟨_, _, heap_setBlock_same hb _, ?_⟩, hgr _⟩
    · simp [Instr.mapUpdate, run_underlying Tryd.underlying46, MapKept.run_getObj_map hb, check51, h1, MapKept.run_setObj_map _ hb, Result.andThen, setBlock]
    · intro x hx
      simp only [Array.toList_push, List.mem_append, List.mem_singleton] at hx
      rcases hx with hx | rfl
      · exact hk x hx
      · exact ⟨l, d, v, rfl, rfl, hG⟩

end Go.Proofs.YtiihnlpoagnkhaaDoor
