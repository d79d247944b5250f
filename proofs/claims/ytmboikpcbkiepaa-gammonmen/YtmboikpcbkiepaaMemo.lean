/-
  The map of the means that were found, and what the closure sees. No conditions beyond those that each theorem bears.
-/
import Derived.Test.YtmboikpcbkiepaaTab
import Derived.WideKeyEntry
namespace Go.Proofs.Ytmboikpcbkiepaa
open Go.RowKit Go.Maps
open Go.ChangeMaps (setBlock heap_setBlock_same heap_setBlock_other modify_eq_set)
open Go.MapKept (Stamped stamped_push stamped_modify)

theorem Ms_gd {m : List Nat} (h : m ∈ Ms) : Gd 3 (sd6 m) := by
  have := List.all_eq_true.1 gd_tab m h
  simp only [Bool.and_eq_true, beq_iff_eq, List.all_eq_true, List.mem_range, decide_eq_true_eq] at this
  exact ⟨this.1, this.2⟩

theorem map_cast_inj : ∀ {l l' : List Nat}, l.map (fun n : Nat => (n : Int)) = l'.map (fun n : Nat => (n : Int)) → l = l'
  | [], [], _ => rfl
  | [], _ :: _, h => by simp at h
  | _ :: _, [], h => by simp at h
  | a :: l, b :: l', h => by
    simp only [List.map_cons, List.cons.injEq] at h
    have : a = b := by omega
    rw [this, map_cast_inj h.2]

theorem sd6_inj {m m' : List Nat} (h : sd6 m = sd6 m') : m = m' := by
  unfold sd6 at h
  simp only [List.cons.injEq, true_and] at h
  exact map_cast_inj (List.append_cancel_right h)

abbrev tv (m : List Nat) : Value := .int .i64 (vl m)

/-- Block b of w is a map whose entries are all right. -/
def Mp (w : World) (b : Nat) : Prop :=
  ∃ es clock, w.heap[b]? = some (.map es clock) ∧ ∀ x ∈ es.toList, ∃ m, m ∈ Ms ∧ x.key = sv (sd6 m) ∧ x.val = tv m

theorem Mp.lt {w : World} {b : Nat} (h : Mp w b) : b < w.heap.size := by
  obtain ⟨es, clock, hb, _⟩ := h
  exact (Array.getElem?_eq_some_iff.1 hb).1

theorem Mp.of_block {w w' : World} {b : Nat} (h : Mp w b) (he : w'.heap[b]? = w.heap[b]?) : Mp w' b := by
  obtain ⟨es, clock, hb, r⟩ := h
  exact ⟨es, clock, he.trans hb, r⟩

theorem Mp.keeps {X : Nat → Prop} {w w' : World} {b : Nat} (h : Mp w b) (hk : Keeps X w w') (hb : ¬ X b) : Mp w' b := h.of_block (hk.block b h.lt hb)

theorem Mp.made (w : World) : Mp (w.alloc (.map #[] 0)) w.heap.size := ⟨#[], 0, heap_alloc_new w _, by simp⟩

theorem Ms_key {m : List Nat} (h : m ∈ Ms) : keyOf Try.prog 54 (sv (sd6 m)) = some (kof (sd6 m)) := (Ms_gd h).key (by omega)

theorem zero3 (w : World) : (zeroValue 3).run Try.prog w = .ok (.int .i64 0) w := Try.zeroValue3 w

/-- 'v, ok := m[k]'. -/
theorem Mp.look {w : World} {b : Nat} (h : Mp w b) {m : List Nat} (hm : m ∈ Ms) :
    (Instr.lookup 86 (.map (some b)) (sv (sd6 m)) true).run Try.prog w = .ok (.tuple #[tv m, .bool true]) w
    ∨ (Instr.lookup 86 (.map (some b)) (sv (sd6 m)) true).run Try.prog w = .ok (.tuple #[.int .i64 0, .bool false]) w := by
  obtain ⟨es, clock, hb, hk⟩ := h
  have hkl := Ms_key hm
  have hc := fun em => side_keyed.check w em hkl
  have hz := zero3 w
  rcases side_keyed.find w hkl es.toList (fun x hx => by obtain ⟨m', hm', hq, _⟩ := hk x hx; rw [hq]; exact ⟨_, Ms_key hm'⟩) with ⟨h1, _⟩ | ⟨j, x, h1, h2, h3⟩
  · refine Or.inr ?_
    simp [Instr.lookup, run_underlying Try.underlying86, MapKept.run_getObj_map hb, hc, h1, hz, Result.andThen]
  · obtain ⟨m', hm', hq, hv⟩ := hk x (List.mem_of_getElem? h2)
    obtain rfl := sd6_inj (sv_inj (hq.symm.trans h3))
    refine Or.inl ?_
    simp [Instr.lookup, run_underlying Try.underlying86, MapKept.run_getObj_map hb, hc, h1, hv, Result.andThen]

/-- 'm[k] = v', and 'm[k]' behind it. -/
theorem Mp.put {w : World} {b : Nat} (h : Mp w b) {m : List Nat} (hm : m ∈ Ms) :
    ∃ w', (Instr.mapUpdate 86 (.map (some b)) (sv (sd6 m)) (tv m)).run Try.prog w = .ok () w' ∧ Mp w' b ∧ Keeps (fun k => k = b) w w' ∧ (Instr.lookup 86 (.map (some b)) (sv (sd6 m)) false).run Try.prog w' = .ok (tv m) w' := by
  obtain ⟨es, clock, hb, hk⟩ := h
  have hkl := Ms_key hm
  have hc := fun em => side_keyed.check w em hkl
  have hs := side_keyed.stays w hkl
  have hgr : ∀ o, Keeps (fun k => k = b) w (setBlock w b o) := fun o => ⟨rfl, rfl, rfl, by simp [setBlock], fun i _ hi => heap_setBlock_other hb _ (fun e => hi (by rw [e]))⟩
  rcases side_keyed.find w hkl es.toList (fun x hx => by obtain ⟨m', hm', hq, _⟩ := hk x hx; rw [hq]; exact ⟨_, Ms_key hm'⟩) with ⟨h1, _⟩ | ⟨j, x, h1, h2, h3⟩
  · have hnew : ∀ x ∈ (es.push ⟨sv (sd6 m), tv m, clock⟩).toList, ∃ m', m' ∈ Ms ∧ x.key = sv (sd6 m') ∧ x.val = tv m' := by
      intro x hx
      simp only [Array.toList_push, List.mem_append, List.mem_singleton] at hx
      rcases hx with hx | rfl
      · exact hk x hx
      · exact ⟨m, hm, rfl, rfl⟩
    refine ⟨setBlock w b (.map (es.push ⟨sv (sd6 m), tv m, clock⟩) (clock + 1)), ?_, ⟨_, _, heap_setBlock_same hb _, hnew⟩, hgr _, ?_⟩
    · simp [Instr.mapUpdate, run_underlying Try.underlying86, MapKept.run_getObj_map hb, hc, h1, MapKept.run_setObj_map _ hb, Result.andThen, setBlock]
    · have hb2 := heap_setBlock_same hb (.map (es.push ⟨sv (sd6 m), tv m, clock⟩) (clock + 1))
      generalize setBlock w b (.map (es.push ⟨sv (sd6 m), tv m, clock⟩) (clock + 1)) = w2 at *
      have hc2 := fun em => side_keyed.check w2 em hkl
      rcases side_keyed.find w2 hkl (es.push ⟨sv (sd6 m), tv m, clock⟩).toList (fun x hx => by obtain ⟨m', hm', hq, _⟩ := hnew x hx; rw [hq]; exact ⟨_, Ms_key hm'⟩) with ⟨g1, g2⟩ | ⟨j, x, g1, g2, g3⟩
      · exfalso
        exact g2 ⟨sv (sd6 m), tv m, clock⟩ (by simp) rfl
      · obtain ⟨m', hm', hq, hv⟩ := hnew x (List.mem_of_getElem? g2)
        obtain rfl := sd6_inj (sv_inj (hq.symm.trans g3))
        simp only [Array.toList_push] at g1
        simp [Instr.lookup, run_underlying Try.underlying86, MapKept.run_getObj_map hb2, hc2, g1, hv, Result.andThen]
  · have hj : es[j]? = some x := by simpa using h2
    have hnew : ∀ y ∈ (es.modify j fun e => { e with key := sv (sd6 m), val := tv m }).toList, ∃ m', m' ∈ Ms ∧ y.key = sv (sd6 m') ∧ y.val = tv m' := by
      intro y hy
      rw [Array.toList_modify, modify_eq_set _ _ _ _ h2] at hy
      obtain ⟨i, hi, rfl⟩ := List.getElem_of_mem hy
      rw [List.getElem_set]
      split
      · exact ⟨m, hm, rfl, rfl⟩
      · have hi' : i < es.toList.length := by simpa using hi
        exact hk _ (List.getElem_mem hi')
    refine ⟨setBlock w b (.map (es.modify j fun e => { e with key := sv (sd6 m), val := tv m }) clock), ?_, ⟨_, _, heap_setBlock_same hb _, hnew⟩, hgr _, ?_⟩
    · simp [Instr.mapUpdate, run_underlying Try.underlying86, MapKept.run_getObj_map hb, hc, h1, hj, h3, hs, MapKept.run_setObj_map _ hb, Result.andThen, setBlock]
    · have hb2 := heap_setBlock_same hb (.map (es.modify j fun e => { e with key := sv (sd6 m), val := tv m }) clock)
      generalize setBlock w b (.map (es.modify j fun e => { e with key := sv (sd6 m), val := tv m }) clock) = w2 at *
      have hmem : ({ x with key := sv (sd6 m), val := tv m }) ∈ (es.modify j fun e => { e with key := sv (sd6 m), val := tv m }).toList := by
        rw [Array.toList_modify, modify_eq_set _ _ _ _ h2]
        have hjl : j < es.toList.length := (List.getElem?_eq_some_iff.1 h2).1
        exact List.mem_iff_getElem.2 ⟨j, by simpa using hjl, by simp⟩
      generalize (es.modify j fun e => { e with key := sv (sd6 m), val := tv m }) = es2 at *
      have hc2 := fun em => side_keyed.check w2 em hkl
      rcases side_keyed.find w2 hkl es2.toList (fun x hx => by obtain ⟨m', hm', hq, _⟩ := hnew x hx; rw [hq]; exact ⟨_, Ms_key hm'⟩) with ⟨g1, g2⟩ | ⟨j2, x2, g1, g2, g3⟩
      · exfalso
        exact g2 _ hmem rfl
      · obtain ⟨m', hm', hq, hv⟩ := hnew x2 (List.mem_of_getElem? g2)
        obtain rfl := sd6_inj (sv_inj (hq.symm.trans g3))
        simp [Instr.lookup, run_underlying Try.underlying86, MapKept.run_getObj_map hb2, hc2, g1, hv, Result.andThen]

/-- The closure. -/
abbrev fv (k f o : Nat) : Value := .func (.func 60) #[] #[.pointer (some ⟨k, 0, none⟩), .pointer (some ⟨f, 0, none⟩), .pointer (some ⟨o, 0, none⟩)]

/-- What the closure sees. -/
structure Env (w : World) (k f o g : Nat) : Prop where
  known : w.cell? ⟨k, 0, none⟩ = some (.map (some g))
  self : w.cell? ⟨f, 0, none⟩ = some (fv k f o)
  one : w.cell? ⟨o, 0, none⟩ = some (.int .i64 (one9 : Nat))
  memo : Mp w g

theorem cell_keeps {X : Nat → Prop} {w w' : World} {b : Nat} {v : Value} (hk : Keeps X w w') (hb : ¬ X b) (h : w.cell? ⟨b, 0, none⟩ = some v) : w'.cell? ⟨b, 0, none⟩ = some v := by
  have hlt := World.block_lt_of_cell? _ _ h
  have hbk := hk.block b hlt hb
  unfold World.cell? at h ⊢
  rw [hbk]
  exact h

theorem Mp.ne {w : World} {b l : Nat} {v : Value} (h : Mp w b) (hc : w.cell? ⟨l, 0, none⟩ = some v) : l ≠ b := by
  rintro rfl
  obtain ⟨es, clock, hb, _⟩ := h
  simp [World.cell?, hb] at hc

theorem Env.lts {w : World} {k f o g : Nat} (h : Env w k f o g) : k < w.heap.size ∧ f < w.heap.size ∧ o < w.heap.size ∧ g < w.heap.size ∧ k ≠ g ∧ f ≠ g ∧ o ≠ g :=
  ⟨World.block_lt_of_cell? _ _ h.known, World.block_lt_of_cell? _ _ h.self, World.block_lt_of_cell? _ _ h.one, h.memo.lt, h.memo.ne h.known, h.memo.ne h.self, h.memo.ne h.one⟩

theorem Env.kept {X : Nat → Prop} {w w' : World} {k f o g : Nat} (h : Env w k f o g) (hk : Keeps X w w') (h1 : ¬ X k) (h2 : ¬ X f) (h3 : ¬ X o) (h4 : ¬ X g) : Env w' k f o g :=
  ⟨cell_keeps hk h1 h.known, cell_keeps hk h2 h.self, cell_keeps hk h3 h.one, h.memo.keeps hk h4⟩

theorem Env.below {w w' : World} {k f o g B : Nat} (h : Env w k f o g) (hk : Below B w w') (hB : w.heap.size ≤ B) : Env w' k f o g := by
  have := h.lts
  exact h.kept (Keeps.of_below hk) (by omega) (by omega) (by omega) (by omega)

end Go.Proofs.Ytmboikpcbkiepaa
