/-
  A map from pieces to numbers. No conditions beyond those that each theorem bears.
-/
import Derived.Test.YtjcglpnpdalcjaaCat
import Derived.WideKeyEntry
namespace Go.Proofs.Ytjcglpnpdalcjaa
open Go.RowKit
open Go.ChangeMaps (setBlock heap_setBlock_same heap_setBlock_other modify_eq_set)
open Go.MapKept (Stamped stamped_push stamped_modify)

theorem pv_inj {p q : Pc} (h : pv p = pv q) : p = q := by
  obtain ⟨a, b⟩ := p
  obtain ⟨c, d⟩ := q
  simp [pv] at h
  simp [h.1, h.2]

theorem run_equal35 (w : World) (p q : Pc) : (Op.equal 35 (pv p) (pv q)).run Try.prog w = .ok (decide (p = q)) w := by
  have := run_eq35 w p.1 p.2 q.1 q.2
  have e : (p.1 == q.1 && p.2 == q.2) = decide (p = q) := by
    obtain ⟨a, b⟩ := p
    obtain ⟨c, d⟩ := q
    by_cases h1 : a = c <;> by_cases h2 : b = d <;> simp [h1, h2]
  rw [e] at this
  exact this

theorem check35 (w : World) (em : Bool) (p : Pc) : (Instr.checkKey em 10000 35 (pv p)).run Try.prog w = .ok () w := by
  show (Instr.checkKey em (9998 + 1 + 1) 35 (pv p)).run Try.prog w = .ok () w
  generalize (9998 : Nat) = d
  unfold pv
  rw [Instr.checkKey]
  simp only [Sem.run_bind, run_underlying Try.underlying35, Result.andThen_ok, Std.Legacy.Range.forIn_eq_forIn_range']
  have e3 : ∀ a : Int, (Instr.checkKey em (d + 1) 3 (.int .i64 a)).run Try.prog w = .ok () w := fun a => by
    rw [Instr.checkKey]
    simp [Sem.run_bind, run_underlying Try.underlying3, Result.andThen]
  generalize Instr.checkKey em (d + 1) 3 = E at *
  simp [List.range', part, Try.isAgg3, Try.sizeOf3, e3, Result.andThen]

theorem ask35 (w : World) (p : Pc) : ∀ (es : List MapEntry) (i : Nat), (∀ x ∈ es, ∃ q, x.key = pv q) →
    (∃ j x, (Instr.findAsking 35 (pv p) es i).run Try.prog w = .ok (some (i + j, x.val)) w ∧ es[j]? = some x ∧ x.key = pv p) ∨
    ((Instr.findAsking 35 (pv p) es i).run Try.prog w = .ok none w ∧ ∀ x ∈ es, x.key ≠ pv p)
  | [], i, _ => Or.inr ⟨rfl, by simp⟩
  | x :: es, i, h => by
    obtain ⟨q, hq⟩ := h x (by simp)
    have hr := run_equal35 w p q
    rw [← hq] at hr
    by_cases hpq : p = q
    · refine Or.inl ⟨0, x, ?_, rfl, by rw [hq, hpq]⟩
      rw [decide_eq_true hpq] at hr
      rw [Instr.findAsking]
      simp [Sem.run_bind, hr, Result.andThen]
    · rcases ask35 w p es (i + 1) (fun y hy => h y (by simp [hy])) with ⟨j, y, h1, h2, h3⟩ | ⟨h1, h2⟩
      · refine Or.inl ⟨j + 1, y, ?_, by simpa using h2, h3⟩
        rw [Instr.findAsking]
        simp [Sem.run_bind, hr, Result.andThen, hpq, h1]
        omega
      · refine Or.inr ⟨?_, ?_⟩
        · rw [Instr.findAsking]
          simp [Sem.run_bind, hr, Result.andThen, hpq, h1]
        · intro y hy
          rcases List.mem_cons.1 hy with rfl | hy
          · rw [hq]
            exact fun e => hpq (pv_inj e).symm
          · exact h2 y hy

theorem find35 (w : World) (p : Pc) (es : List MapEntry) (h : ∀ x ∈ es, ∃ q, x.key = pv q) :
    (∃ j x, (Instr.findKey 35 (pv p) es).run Try.prog w = .ok (some (j, x.val)) w ∧ es[j]? = some x ∧ x.key = pv p) ∨
    ((Instr.findKey 35 (pv p) es).run Try.prog w = .ok none w ∧ ∀ x ∈ es, x.key ≠ pv p) := by
  have hf : (Instr.findKey 35 (pv p) es).run Try.prog w = (Instr.findAsking 35 (pv p) es 0).run Try.prog w := by
    rw [Instr.findKey]
    simp only [Sem.run_bind, run_underlying Try.underlying35, Result.andThen_ok]
    cases es with
    | nil => rfl
    | cons x es =>
      have : Instr.findNow (.array 2 3) (pv p) (x :: es) 0 = none := by
        rw [Instr.findNow]; rfl
      rw [this]
  rw [hf]
  rcases ask35 w p es 0 h with ⟨j, x, h1, h2, h3⟩ | h2
  · exact Or.inl ⟨j, x, by rw [h1, Nat.zero_add], h2, h3⟩
  · exact Or.inr h2

/-- Block b of w is a map that says f. -/
def Mp (w : World) (b : Nat) (f : Pc → Nat) : Prop :=
  ∃ es clock, w.heap[b]? = some (.map es clock) ∧ Stamped es clock ∧ (∀ x ∈ es.toList, ∃ p : Pc, x.key = pv p ∧ x.val = .int .i64 (f p)) ∧ (∀ p : Pc, (∀ x ∈ es.toList, x.key ≠ pv p) → f p = 0)

theorem Mp.keys {es : Array MapEntry} {f : Pc → Nat} (h : ∀ x ∈ es.toList, ∃ p : Pc, x.key = pv p ∧ x.val = .int .i64 (f p)) : ∀ x ∈ es.toList, ∃ q, x.key = pv q :=
  fun x hx => let ⟨p, h1, _⟩ := h x hx; ⟨p, h1⟩

theorem Mp.lt {w : World} {b : Nat} {f : Pc → Nat} (h : Mp w b f) : b < w.heap.size := by
  obtain ⟨es, clock, hb, _⟩ := h
  exact (Array.getElem?_eq_some_iff.1 hb).1

theorem Mp.of_block {w w' : World} {b : Nat} {f : Pc → Nat} (h : Mp w b f) (he : w'.heap[b]? = w.heap[b]?) : Mp w' b f := by
  obtain ⟨es, clock, hb, r⟩ := h
  exact ⟨es, clock, he.trans hb, r⟩

theorem Mp.made (w : World) : Mp (w.alloc (.map #[] 0)) w.heap.size (fun _ => 0) :=
  ⟨#[], 0, heap_alloc_new w _, MapKept.stamped_empty 0, by simp, fun _ _ => rfl⟩

/-- 'm[p]'. -/
theorem Mp.look {w : World} {b : Nat} {f : Pc → Nat} (h : Mp w b f) (p : Pc) : (Instr.lookup 47 (.map (some b)) (pv p) false).run Try.prog w = .ok (.int .i64 (f p)) w := by
  obtain ⟨es, clock, hb, hs, hk, h0⟩ := h
  have hz : (zeroValue 3).run Try.prog w = .ok (.int .i64 0) w := Try.zeroValue3 w
  rcases find35 w p es.toList (Mp.keys hk) with ⟨j, x, h1, h2, h3⟩ | ⟨h1, h2⟩
  · obtain ⟨q, hq, hv⟩ := hk x (List.mem_of_getElem? h2)
    have e : q = p := pv_inj (hq.symm.trans h3)
    subst e
    simp [Instr.lookup, run_underlying Try.underlying47, MapKept.run_getObj_map hb, check35, h1, hv, Result.andThen]
  · simp [Instr.lookup, run_underlying Try.underlying47, MapKept.run_getObj_map hb, check35, h1, hz, h0 p h2, Result.andThen]

/-- An entry of this stamp has the key p. -/
def AtE (w : World) (b st : Nat) (p : Pc) : Prop := ∃ es clock, w.heap[b]? = some (.map es clock) ∧ ∃ (j : Nat) (x : MapEntry), es.toList[j]? = some x ∧ x.born = st ∧ x.key = pv p

theorem stays35 (w : World) (p : Pc) : (Instr.keyThatStays (pv p) (pv p)).run Try.prog w = .ok (pv p) w := by
  have : Instr.sameBits 10000 (pv p) (pv p) = true := by
    show Instr.sameBits (9999 + 1) (pv p) (pv p) = true
    generalize (9999 : Nat) = d
    simp [pv, Instr.sameBits]
  simp [Instr.keyThatStays, this]

/-- The entry of a key: the map says what it said. -/
theorem Mp.entry {w : World} {b : Nat} {f : Pc → Nat} (h : Mp w b f) (p : Pc) :
    ∃ v0 st w', (Instr.mapEntry 47 (.map (some b)) (pv p)).run Try.prog w = .ok (.tuple #[v0, .int .i64 (st : Nat)]) w' ∧ Mp w' b f ∧ AtE w' b st p ∧ w.grownBy w' (some b) ∧ (0 < f p → w' = w) := by
  obtain ⟨es, clock, hb, hs, hk, h0⟩ := h
  have hz : (zeroValue 3).run Try.prog w = .ok (.int .i64 0) w := Try.zeroValue3 w
  have hgr : ∀ o, w.grownBy (setBlock w b o) (some b) := fun o => ⟨rfl, rfl, rfl, by simp [setBlock], fun i _ hi => heap_setBlock_other hb _ (fun e => hi (by rw [e]))⟩
  rcases find35 w p es.toList (Mp.keys hk) with ⟨j, x, h1, h2, h3⟩ | ⟨h1, h2⟩
  · have hj : es[j]? = some x := by simpa using h2
    have hsame : es.modify j (fun e => { e with key := pv p }) = es := by
      apply Array.ext'
      rw [Array.toList_modify, modify_eq_set _ _ _ _ h2]
      have : ({ x with key := pv p } : MapEntry) = x := by rw [← h3]
      rw [this]
      exact WideElems.set_self _ _ _ h2
    have hwb : setBlock w b (.map es clock) = w := by
      unfold setBlock
      have hlt := (Array.getElem?_eq_some_iff.1 hb).1
      have : w.heap.setIfInBounds b (.map es clock) = w.heap := by
        apply Array.ext'
        rw [Array.toList_setIfInBounds]
        exact WideElems.set_self _ _ _ (by simpa using hb)
      rw [this]
    refine ⟨x.val, x.born, w, ?_, ⟨es, clock, hb, hs, hk, h0⟩, ⟨es, clock, hb, j, x, h2, rfl, h3⟩, World.grownBy.refl _ _, fun _ => rfl⟩
    simp [Instr.mapEntry, run_underlying Try.underlying47, MapKept.run_getObj_map hb, check35, h1, hj, h3, stays35, hsame, MapKept.run_setObj_map _ hb, Result.andThen, goInt]
    exact hwb
  · have h00 := h0 p h2
    refine ⟨.int .i64 0, clock, setBlock w b (.map (es.push ⟨pv p, .int .i64 0, clock⟩) (clock + 1)), ?_, ⟨_, _, heap_setBlock_same hb _, stamped_push hs h2, ?_, ?_⟩, ⟨_, _, heap_setBlock_same hb _, es.size, ⟨pv p, .int .i64 0, clock⟩, by simp, rfl, rfl⟩, hgr _, fun h => by omega⟩
    · simp [Instr.mapEntry, run_underlying Try.underlying47, MapKept.run_getObj_map hb, check35, h1, hz, MapKept.run_setObj_map _ hb, Result.andThen, setBlock, goInt]
    · intro x hx
      simp only [Array.toList_push, List.mem_append, List.mem_singleton] at hx
      rcases hx with hx | rfl
      · exact hk x hx
      · exact ⟨p, rfl, by rw [h00]; rfl⟩
    · intro q hq
      exact h0 q (fun x hx => hq x (by simp [hx]))

def upd (f : Pc → Nat) (p : Pc) (c : Nat) : Pc → Nat := fun q => if q = p then c else f q

/-- The store into an entry. -/
theorem Mp.store {w : World} {b st : Nat} {f : Pc → Nat} (h : Mp w b f) {p : Pc} (hat : AtE w b st p) (c : Nat) :
    ∃ w', (Instr.entryStore 47 (.map (some b)) (.int .i64 (st : Nat)) (.int .i64 c)).run Try.prog w = .ok () w' ∧ Mp w' b (upd f p c) ∧ w.grownBy w' (some b) := by
  obtain ⟨es, clock, hb, hs, hk, h0⟩ := h
  obtain ⟨es', clock', hb', j, x, h2, hst, hxk⟩ := hat
  rw [hb] at hb'
  simp only [Option.some.injEq, Obj.map.injEq] at hb'
  obtain ⟨rfl, rfl⟩ := hb'
  have hgr : ∀ o, w.grownBy (setBlock w b o) (some b) := fun o => ⟨rfl, rfl, rfl, by simp [setBlock], fun i _ hi => heap_setBlock_other hb _ (fun e => hi (by rw [e]))⟩
  have hidx : es.findIdx? (fun e => ((e.born : Nat) : Int) == ((st : Nat) : Int)) = some j := by
    rw [WideElems.findIdx_arr, ← hst]
    exact WideElems.findIdx_born hs.2.1 h2
  refine ⟨setBlock w b (.map (es.modify j fun e => { e with val := .int .i64 c }) clock), ?_, ⟨_, _, heap_setBlock_same hb _, stamped_modify hs _ _ (fun _ _ => rfl) (fun _ _ _ => rfl), ?_, ?_⟩, hgr _⟩
  · simp [Instr.entryStore, MapKept.run_getObj_map hb, asInt, asIntOf, hidx, MapKept.run_setObj_map _ hb, Result.andThen, setBlock]
  · intro y hy
    rw [Array.toList_modify, modify_eq_set _ _ _ _ h2] at hy
    obtain ⟨i, hi, rfl⟩ := List.getElem_of_mem hy
    rw [List.getElem_set]
    split
    · exact ⟨p, hxk, by simp [upd]⟩
    · rename_i hne
      have hi' : i < es.toList.length := by simpa using hi
      obtain ⟨q, hq, hv⟩ := hk _ (List.getElem_mem hi')
      refine ⟨q, hq, ?_⟩
      have hqp : q ≠ p := by
        rintro rfl
        have hn := hs.2.2
        have e1 : (es.toList.map (·.key))[i]? = some (pv q) := by simp [← hq, List.getElem?_eq_getElem hi'] 
        have e2 : (es.toList.map (·.key))[j]? = some (pv q) := by simp [h2, hxk]
        exact hne ((List.getElem?_inj (by simpa using hi') hn).1 (e1.trans e2.symm)).symm
      rw [hv]
      simp [upd, hqp]
  · intro q hq
    have hqp : q ≠ p := by
      rintro rfl
      refine hq { x with val := .int .i64 c } ?_ hxk
      rw [Array.toList_modify, modify_eq_set _ _ _ _ h2]
      exact List.mem_of_getElem? (i := j) (by rw [List.getElem?_set_self (by exact (List.getElem?_eq_some_iff.1 h2).1)])
    have : f q = 0 := h0 q (fun y hy hyk => by
      obtain ⟨i, hi, rfl⟩ := List.getElem_of_mem hy
      by_cases hij : i = j
      · subst hij
        rw [List.getElem?_eq_getElem hi] at h2
        obtain rfl := Option.some.inj h2
        exact hqp (pv_inj (hyk.symm.trans hxk))
      · refine hq _ ?_ hyk
        rw [Array.toList_modify, modify_eq_set _ _ _ _ h2]
        exact List.mem_of_getElem? (i := i) (by rw [List.getElem?_set_ne (Ne.symm hij), List.getElem?_eq_getElem hi]))
    simp [upd, hqp, this]

end Go.Proofs.Ytjcglpnpdalcjaa
