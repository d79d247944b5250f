/-
  The map of the trays that were met: rows of stones as keys, directions as values. No conditions beyond those that each theorem bears.
-/
import Derived.Test.YticalbpohhpjaaaDoorPb
import Derived.DeepKeys4
import Derived.Maps.Keyed
import Derived.WideKeyEntry
namespace Go.Proofs.YticalbpohhpjaaaDoor
open Go.RowKit Go.Maps Go.WideMaps
open Go.ChangeMaps (setBlock heap_setBlock_same heap_setBlock_other modify_eq_set)
open Go.MapKept (Stamped stamped_push stamped_modify)

theorem ky_laidOut : laidOutB Tryd.prog = true := by kernel_rfl
theorem ky_row : 71 < Tryd.prog.types.size := of_decide_eq_true (by kernel_rfl)
theorem ky_type : Tryd.prog.keyType 71 = true := by kernel_rfl
theorem ky_at : Tryd.prog.keyTypeAt 2 71 = true := by kernel_rfl
theorem ky_c3 : Tryd.prog.cellsOf 3 = 1 := by kernel_rfl
theorem ky_c71 : Tryd.prog.cellsOf 71 = 6 := by kernel_rfl
theorem ky_deep : ∃ d, Tryd.prog.types.size + 1 = d + 2 := ⟨Tryd.prog.types.size - 1, by have := ky_row; omega⟩

theorem key_keyed : Keyed Tryd.prog 71 := Keyed.of_law (deep_law_laid ky_laidOut (m := 2) (by omega) ky_row ky_at (by rw [Tryd.underlying71]))

theorem mapM_all {α β : Type} (f : α → Option β) (g : α → β) : ∀ l : List α, (∀ x ∈ l, f x = some (g x)) → l.mapM f = some (l.map g)
  | [], _ => rfl
  | x :: l, h => by
    rw [List.mapM_cons, h x List.mem_cons_self, mapM_all f g l (fun y hy => h y (List.mem_cons_of_mem _ hy))]
    rfl

theorem key_int (d : Nat) (z : Int) (hw : (Lit.int .i64 z).wf = true) : Tryd.prog.keyLits (d + 1) 3 [.int .i64 z] = some [Lit.int .i64 z] := by
  unfold Program.keyLits
  rw [Tryd.underlying3]
  simp only
  rw [if_pos ⟨by trivial, hw⟩]

theorem key_array (d : Nat) (S : List Int) (hl : S.length = 6) (hw : ∀ z ∈ S, (Lit.int .i64 z).wf = true) : Tryd.prog.keyLits (d + 2) 71 (ivs S) = some (((List.range 6).map fun i => [Lit.int .i64 (S.getD i 0)]).flatten) := by
  unfold Program.keyLits
  rw [Tryd.underlying71]
  simp only
  rw [if_pos (by rw [ky_c71, ivs_length, hl]), mapM_all _ (fun i => [Lit.int .i64 (S.getD i 0)]) _ (fun i hi => ?_)]
  · rfl
  · have hi' : i < S.length := by rw [hl]; simpa using hi
    rw [ky_c3, Nat.mul_one]
    have e : ((ivs S).drop i).take 1 = [.int .i64 (S.getD i 0)] := by
      simp [ivs, List.getD, hi', List.drop_eq_getElem_cons, List.take]
    rw [e]
    exact key_int d _ (hw _ (by simp [List.getD, hi']))

theorem key_mk (S : List Int) (hl : S.length = 6) (hw : ∀ z ∈ S, (Lit.int .i64 z).wf = true) : ∃ kl, keyOf Tryd.prog 71 (.agg (ivs S).toArray) = some kl := by
  obtain ⟨d, hd⟩ := ky_deep
  obtain ⟨L, hL⟩ : ∃ L, Tryd.prog.keyLits (d + 2) 71 (ivs S) = some L := ⟨_, key_array d S hl hw⟩
  refine ⟨.string (keyBytes L), ?_⟩
  unfold keyOf
  rw [Tryd.underlying71]
  simp only
  have hf : (Value.agg (ivs S).toArray).formed Tryd.prog 71 = true := by
    simp only [Value.formed, Tryd.underlying71, ky_c71]
    simp [ivs_length, hl]
  rw [ky_type, hf, hd]
  show (if (true && true) = true then (Tryd.prog.keyLits (d + 2) 71 (ivs S)).map _ else none) = _
  rw [hL]
  rfl


theorem wf_small {z : Int} (h0 : 0 ≤ z) (h1 : z ≤ 1000) : (Lit.int .i64 z).wf = true := by
  simp [Lit.wf, IntKind.min, IntKind.max, IntKind.signed, IntKind.bits]
  omega

/-- A row of stones, as the key of a map. -/
structure Kz (s : List Int) : Prop where
  len : s.length = 6
  bd : ∀ z ∈ s, 0 ≤ z ∧ z ≤ 25

theorem Kz.key {s : List Int} (h : Kz s) : ∃ kl, keyOf Tryd.prog 71 (.agg (ivs s).toArray) = some kl :=
  key_mk s h.len (fun z hz => wf_small (h.bd z hz).1 (by have := (h.bd z hz).2; omega))

theorem ivsA_inj {s t : List Int} (h : (Value.agg (ivs s).toArray) = .agg (ivs t).toArray) : s = t := by
  have : (ivs s).toArray = (ivs t).toArray := by simpa using h
  exact ivs_inj (by simpa using congrArg Array.toList this)

/-- What is told of a key. -/
def lk : List (List Int × Int) → List Int → Option Int
  | [], _ => none
  | p :: A, s => if p.1 = s then some p.2 else lk A s

theorem lk_none {A : List (List Int × Int)} {s : List Int} (h : ∀ p ∈ A, p.1 ≠ s) : lk A s = none := by
  induction A with
  | nil => rfl
  | cons p A ih => rw [lk, if_neg (h p (by simp)), ih (fun q hq => h q (by simp [hq]))]

theorem lk_at {A : List (List Int × Int)} (hd : A.Pairwise (fun p q => p.1 ≠ q.1)) {j : Nat} {p : List Int × Int} (h : A[j]? = some p) : lk A p.1 = some p.2 := by
  induction A generalizing j with
  | nil => simp at h
  | cons q A ih =>
    rw [List.pairwise_cons] at hd
    cases j with
    | zero =>
      simp at h
      subst h
      rw [lk, if_pos rfl]
    | succ j =>
      have hm : p ∈ A := List.mem_of_getElem? (by simpa using h)
      rw [lk, if_neg (hd.1 p hm), ih hd.2 (by simpa using h)]

theorem lk_snoc {A : List (List Int × Int)} {s : List Int} (h : lk A s = none) : ∀ p ∈ A, p.1 ≠ s := by
  induction A with
  | nil => simp
  | cons p A ih =>
    rw [lk] at h
    by_cases e : p.1 = s
    · rw [if_pos e] at h; cases h
    · rw [if_neg e] at h
      intro q hq
      rcases List.mem_cons.1 hq with rfl | hq
      · exact e
      · exact ih h q hq

/-- Block b is a map that reads A. -/
def Mz (w : World) (b : Nat) (A : List (List Int × Int)) : Prop :=
  ∃ es clock, w.heap[b]? = some (.map es clock) ∧ es.toList.map (fun x => (x.key, x.val)) = A.map (fun p => ((Value.agg (ivs p.1).toArray), Value.int .i64 p.2)) ∧ (∀ p ∈ A, Kz p.1) ∧ A.Pairwise (fun p q => p.1 ≠ q.1)

theorem Mz.lt {w : World} {b : Nat} {A : List (List Int × Int)} (h : Mz w b A) : b < w.heap.size := by
  obtain ⟨es, clock, hb, _⟩ := h
  exact (Array.getElem?_eq_some_iff.1 hb).1

theorem Mz.keeps {X : Nat → Prop} {w w' : World} {b : Nat} {A : List (List Int × Int)} (h : Mz w b A) (hk : Keeps X w w') (hb : ¬ X b) : Mz w' b A := by
  have := hk.block b h.lt hb
  obtain ⟨es, clock, h1, r⟩ := h
  exact ⟨es, clock, this.trans h1, r⟩

theorem Mz.below {w w' : World} {b B : Nat} {A : List (List Int × Int)} (h : Mz w b A) (hk : Below B w w') (hb : b < B) : Mz w' b A := h.keeps (Keeps.of_below hk) (by omega)

theorem Mz.made (w : World) : Mz (w.alloc (.map #[] 0)) w.heap.size [] := ⟨#[], 0, heap_alloc_new w _, by simp, by simp, List.Pairwise.nil⟩

theorem Mz.entry {es : Array MapEntry} {A : List (List Int × Int)} (h : es.toList.map (fun x => (x.key, x.val)) = A.map (fun p => ((Value.agg (ivs p.1).toArray), Value.int .i64 p.2))) (x : MapEntry) (hx : x ∈ es.toList) : ∃ p ∈ A, x.key = .agg (ivs p.1).toArray ∧ x.val = .int .i64 p.2 := by
  have : (x.key, x.val) ∈ A.map (fun p => ((Value.agg (ivs p.1).toArray), Value.int .i64 p.2)) := by rw [← h]; exact List.mem_map.2 ⟨x, hx, rfl⟩
  obtain ⟨p, hp, e⟩ := List.mem_map.1 this
  simp only [Prod.mk.injEq] at e
  exact ⟨p, hp, e.1.symm, e.2.symm⟩

/-- What is found. -/
theorem Mz.find {w : World} {es : Array MapEntry} {A : List (List Int × Int)} (h : es.toList.map (fun x => (x.key, x.val)) = A.map (fun p => ((Value.agg (ivs p.1).toArray), Value.int .i64 p.2))) (hg : ∀ p ∈ A, Kz p.1) (hd : A.Pairwise (fun p q => p.1 ≠ q.1)) {s : List Int} (hs : Kz s) :
    ((Instr.findKey 71 (.agg (ivs s).toArray) es.toList).run Tryd.prog w = .ok none w ∧ lk A s = none) ∨ ∃ j v, (Instr.findKey 71 (.agg (ivs s).toArray) es.toList).run Tryd.prog w = .ok (some (j, .int .i64 v)) w ∧ lk A s = some v := by
  obtain ⟨kl, hkl⟩ := hs.key
  rcases key_keyed.find w hkl es.toList (fun x hx => by obtain ⟨p, hp, e, _⟩ := Mz.entry h x hx; rw [e]; exact (hg p hp).key) with ⟨h1, h2⟩ | ⟨j, x, h1, h2, h3⟩
  · refine Or.inl ⟨h1, lk_none fun p hp e => ?_⟩
    have hm : ((Value.agg (ivs p.1).toArray), Value.int .i64 p.2) ∈ es.toList.map (fun x => (x.key, x.val)) := by rw [h]; exact List.mem_map.2 ⟨p, hp, rfl⟩
    obtain ⟨x, hx, ex⟩ := List.mem_map.1 hm
    simp only [Prod.mk.injEq] at ex
    exact h2 x hx (by rw [ex.1, e])
  · have hj := congrArg (fun l : List (Value × Value) => l[j]?) h
    simp only [List.getElem?_map, h2, Option.map_some] at hj
    cases hA : A[j]? with
    | none => rw [hA] at hj; cases hj
    | some p =>
      rw [hA] at hj
      simp only [Option.map_some, Option.some.injEq, Prod.mk.injEq] at hj
      have e : p.1 = s := ivsA_inj (hj.1.symm.trans h3)
      refine Or.inr ⟨j, p.2, by rw [h1, hj.2], ?_⟩
      rw [← e]
      exact lk_at hd hA

/-- 'v, ok := m[k]' and 'm[k]'. -/
theorem Mz.look {w : World} {b : Nat} {A : List (List Int × Int)} (h : Mz w b A) {s : List Int} (hs : Kz s) :
    (Instr.lookup 65 (.map (some b)) (.agg (ivs s).toArray) true).run Tryd.prog w = .ok (.tuple #[.int .i64 ((lk A s).getD 0), .bool (lk A s).isSome]) w ∧
    (Instr.lookup 65 (.map (some b)) (.agg (ivs s).toArray) false).run Tryd.prog w = .ok (.int .i64 ((lk A s).getD 0)) w := by
  obtain ⟨es, clock, hb, hk, hg, hd⟩ := h
  obtain ⟨kl, hkl⟩ := hs.key
  have hc := fun em => key_keyed.check w em hkl
  have hz := Tryd.zeroValue3 w
  rcases Mz.find (w := w) hk hg hd hs with ⟨h1, h2⟩ | ⟨j, v, h1, h2⟩
  · rw [h2]
    simp [Instr.lookup, run_underlying Tryd.underlying65, MapKept.run_getObj_map hb, hc, h1, hz, Result.andThen]
  · rw [h2]
    simp [Instr.lookup, run_underlying Tryd.underlying65, MapKept.run_getObj_map hb, hc, h1, Result.andThen]

/-- 'm[k] = v', k new. -/
theorem Mz.put {w : World} {b : Nat} {A : List (List Int × Int)} (h : Mz w b A) {s : List Int} (hs : Kz s) (v : Int) (hn : lk A s = none) :
    ∃ w', (Instr.mapUpdate 65 (.map (some b)) (.agg (ivs s).toArray) (.int .i64 v)).run Tryd.prog w = .ok () w' ∧ Mz w' b (A ++ [(s, v)]) ∧ Keeps (fun k => k = b) w w' := by
  obtain ⟨es, clock, hb, hk, hg, hd⟩ := h
  obtain ⟨kl, hkl⟩ := hs.key
  have hc := fun em => key_keyed.check w em hkl
  have hst := key_keyed.stays w hkl
  have hgr : ∀ o, Keeps (fun k => k = b) w (setBlock w b o) := fun o => ⟨rfl, rfl, rfl, by simp [setBlock], fun i _ hi => heap_setBlock_other hb _ (fun e => hi (by rw [e]))⟩
  rcases Mz.find (w := w) hk hg hd hs with ⟨h1, _⟩ | ⟨j, v', _, h2⟩
  · refine ⟨setBlock w b (.map (es.push ⟨.agg (ivs s).toArray, .int .i64 v, clock⟩) (clock + 1)), ?_, ⟨_, _, heap_setBlock_same hb _, ?_, ?_, ?_⟩, hgr _⟩
    · simp [Instr.mapUpdate, run_underlying Tryd.underlying65, MapKept.run_getObj_map hb, hc, h1, MapKept.run_setObj_map _ hb, Result.andThen, setBlock]
    · rw [Array.toList_push, List.map_append, List.map_append, hk]
      rfl
    · intro p hp
      rcases List.mem_append.1 hp with hp | hp
      · exact hg p hp
      · rw [List.mem_singleton.1 hp]; exact hs
    · rw [List.pairwise_append]
      refine ⟨hd, List.pairwise_singleton _ _, fun p hp q hq => ?_⟩
      rw [List.mem_singleton.1 hq]
      exact lk_snoc hn p hp
  · rw [hn] at h2; cases h2

theorem wp_update_mz {o : Oper} {a : Act} {w : World} {K : Act → World → Prop} {Q : Exit → Act → World → Prop} (m x y : Operand) (ho : o.op = .mapUpdate 65 m x y ∨ o.op = .insert 65 m x y)
    {b : Nat} {A : List (List Int × Int)} (h : Mz w b A) {s : List Int} (hs : Kz s) {v : Int} (hn : lk A s = none) (hm : a.eval m = .map (some b)) (hx : a.eval x = .agg (ivs s).toArray) (hy : a.eval y = .int .i64 v)
    (hK : ∀ w', Mz w' b (A ++ [(s, v)]) → Keeps (fun k => k = b) w w' → K (a.put o.dst undef) w') : o.wp Tryd.prog a w K Q := by
  obtain ⟨w', hrun, h1, h2⟩ := h.put hs v hn
  have := hK w' h1 h2
  unfold Oper.wp
  rcases ho with ho | ho <;> (simp [execOp, ho, hm, hx, hy, hrun, Result.andThen]; exact this)

theorem wpList_update_mz {ops : Array Oper} {rest : List Oper} {o : Oper} {a : Act} {w : World} {Q : Exit → Act → World → Prop} (hgd : o.guard = none) (m x y : Operand) (ho : o.op = .mapUpdate 65 m x y ∨ o.op = .insert 65 m x y)
    {b : Nat} {A : List (List Int × Int)} (h : Mz w b A) {s : List Int} (hs : Kz s) {v : Int} (hn : lk A s = none) (hm : a.eval m = .map (some b)) (hx : a.eval x = .agg (ivs s).toArray) (hy : a.eval y = .int .i64 v)
    (hK : ∀ w', Mz w' b (A ++ [(s, v)]) → Keeps (fun k => k = b) w w' → wpList Tryd.prog ops Q rest (a.put o.dst undef) w') : wpList Tryd.prog ops Q (o :: rest) a w :=
  wpList_plain hgd fun _ hk => wp_update_mz m x y ho h hs hn hm hx hy fun w' h1 h2 => hk _ _ (hK w' h1 h2)

theorem wpList_look2 {ops : Array Oper} {rest : List Oper} {o : Oper} {a : Act} {w : World} {Q : Exit → Act → World → Prop} (hgd : o.guard = none) (m x : Operand) (ho : o.op = .lookup 65 m x true)
    {b : Nat} {A : List (List Int × Int)} (h : Mz w b A) {s : List Int} (hs : Kz s) (hm : a.eval m = .map (some b)) (hx : a.eval x = .agg (ivs s).toArray)
    (hK : wpList Tryd.prog ops Q rest (a.put o.dst (.tuple #[.int .i64 ((lk A s).getD 0), .bool (lk A s).isSome])) w) : wpList Tryd.prog ops Q (o :: rest) a w := by
  refine wpList_plain hgd fun K hk => ?_
  have := hk _ _ hK
  unfold Oper.wp
  simp [execOp, ho, hm, hx, (h.look hs).1, Result.andThen]
  exact this

theorem wpList_look1 {ops : Array Oper} {rest : List Oper} {o : Oper} {a : Act} {w : World} {Q : Exit → Act → World → Prop} (hgd : o.guard = none) (m x : Operand) (ho : o.op = .lookup 65 m x false)
    {b : Nat} {A : List (List Int × Int)} (h : Mz w b A) {s : List Int} (hs : Kz s) (hm : a.eval m = .map (some b)) (hx : a.eval x = .agg (ivs s).toArray)
    (hK : wpList Tryd.prog ops Q rest (a.put o.dst (.int .i64 ((lk A s).getD 0))) w) : wpList Tryd.prog ops Q (o :: rest) a w := by
  refine wpList_plain hgd fun K hk => ?_
  have := hk _ _ hK
  unfold Oper.wp
  simp [execOp, ho, hm, hx, (h.look hs).2, Result.andThen]
  exact this

end Go.Proofs.YticalbpohhpjaaaDoor
