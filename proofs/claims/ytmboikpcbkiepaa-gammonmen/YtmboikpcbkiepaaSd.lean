/-
  A side as the program sees it: 52 numbers; blocks that hold such. No conditions beyond those that each theorem bears.
-/
import Derived.Test.YtmboikpcbkiepaaMay2
import Derived.Deep.MidRow
import Derived.ChangeKeysEq
namespace Go.Proofs.Ytmboikpcbkiepaa
open Go.RowKit

/-- Of the blocks that there were, those that X does not name are as they were. -/
structure Keeps (X : Nat → Prop) (w w' : World) : Prop where
  os : w'.os = w.os
  tape : w'.tape = w.tape
  output : w'.output = w.output
  size : w.heap.size ≤ w'.heap.size
  block : ∀ k, k < w.heap.size → ¬ X k → w'.heap[k]? = w.heap[k]?

theorem Keeps.refl (X : Nat → Prop) (w : World) : Keeps X w w := ⟨rfl, rfl, rfl, Nat.le_refl _, fun _ _ _ => rfl⟩

theorem Keeps.trans {X : Nat → Prop} {a b c : World} (h : Keeps X a b) (k : Keeps X b c) : Keeps X a c :=
  ⟨k.os.trans h.os, k.tape.trans h.tape, k.output.trans h.output, Nat.le_trans h.size k.size, fun i hi hx => (k.block i (Nat.lt_of_lt_of_le hi h.size) hx).trans (h.block i hi hx)⟩

theorem Keeps.mono {X Y : Nat → Prop} {a b : World} (h : Keeps X a b) (hs : ∀ k, k < a.heap.size → X k → Y k) : Keeps Y a b :=
  ⟨h.os, h.tape, h.output, h.size, fun i hi hx => h.block i hi (fun k => hx (hs i hi k))⟩

theorem Keeps.of_below {B : Nat} {a b : World} (h : Below B a b) : Keeps (fun k => B ≤ k) a b :=
  ⟨h.os, h.tape, h.output, h.size, fun i _ hx => h.block i (Nat.lt_of_not_le hx)⟩

theorem Keeps.below {X : Nat → Prop} {B : Nat} {a b : World} (h : Keeps X a b) (hB : B ≤ a.heap.size) (hX : ∀ k, k < B → ¬ X k) : Below B a b :=
  ⟨h.os, h.tape, h.output, h.size, fun i hi => h.block i (Nat.lt_of_lt_of_le hi hB) (hX i hi)⟩

theorem Keeps.of_all {X : Nat → Prop} {a b : World} (h : Below a.heap.size a b) : Keeps X a b :=
  ⟨h.os, h.tape, h.output, h.size, fun i hi _ => h.block i hi⟩

theorem Keeps.drew {X : Nat → Prop} {a b : World} (h : Keeps X a b) : Keeps X a b.drew := ⟨h.os, h.tape, h.output, h.size, h.block⟩

theorem Keeps.alloc {X : Nat → Prop} {a b : World} (h : Keeps X a b) (o : Obj) : Keeps X a (b.alloc o) :=
  h.trans (Keeps.of_all ((Below.refl _ b).alloc (Nat.le_refl _) o))

theorem Keeps.setCell {X : Nat → Prop} {a b : World} (h : Keeps X a b) {p : Addr} (hp : X p.block) (u : Value) : Keeps X a (b.setCell p u) :=
  h.trans ⟨rfl, rfl, rfl, by simp [World.setCell], fun k _ hx => Below.heap_setCell _ _ _ _ (fun e => hx (e ▸ hp))⟩

theorem Keeps.cell {X : Nat → Prop} {w w' : World} (h : Keeps X w w') {p : Addr} {v : Value} (hc : w.cell? p = some v) (hp : ¬ X p.block) : w'.cell? p = some v :=
  (World.cell?_of_block (w := w) (h.block p.block (World.block_lt_of_cell? w _ hc) hp)).trans hc

theorem Rd.keeps {X : Nat → Prop} {w w' : World} {a n c zs} (h : Rd w a n c zs) (hb : Keeps X w w') (hX : ∀ b off, a = some ⟨b, off, none⟩ → ¬ X b) : Rd w' a n c zs := by
  refine ⟨h.len, h.cap, h.max, h.nil, fun hn => ?_⟩
  obtain ⟨b, off, rfl, hc⟩ := h.cells hn
  exact ⟨b, off, rfl, fun i hi => hb.cell (hc i hi) (hX b off rfl)⟩

theorem ret_int {a b : Int} (h : a = b) : Ending.returned (.int .i64 a) = .returned (.int .i64 b) := by rw [h]

/-- Numbers as cells. -/
def ivs (S : List Int) : List Value := S.map (Value.int .i64)

theorem ivs_length (S : List Int) : (ivs S).length = S.length := by simp [ivs]
theorem ivs_one (S : List Int) : (ivs S).toArray.all (·.oneCell') = true := by simp [ivs, Value.oneCell']
theorem ivs_inj {S T : List Int} (h : ivs S = ivs T) : S = T := by
  have := congrArg (List.map fun v => match v with | .int _ z => z | _ => 0) h
  simpa [ivs, Function.comp_def] using this

/-- A block of numbers. -/
def Blk (w : World) (b t : Nat) (L : List Int) : Prop := w.heap[b]? = some (.cells (ivs L).toArray t (0, 0))

theorem Blk.cell {w : World} {b t : Nat} {L : List Int} (h : Blk w b t L) {i : Nat} (hi : i < L.length) : w.cell? ⟨b, i, none⟩ = some (.int .i64 (L.getD i 0)) := by
  have h' : w.heap[b]? = _ := h
  simp [World.cell?, h', ivs, List.getD, hi]

theorem Blk.frozen {w : World} {b t : Nat} {L : List Int} (h : Blk w b t L) (i : Nat) : w.frozen? ⟨b, i, none⟩ = false := by
  have h' : w.heap[b]? = _ := h
  simp [World.frozen?, h']

theorem Blk.set {w : World} {b t : Nat} {L : List Int} (h : Blk w b t L) (i : Nat) (x : Int) : Blk (w.setCell ⟨b, i, none⟩ (.int .i64 x)) b t (L.set i x) := by
  have h' : w.heap[b]? = _ := h
  simp [Blk, World.setCell, Array.getElem?_modify, h', ivs, List.map_set]

theorem Blk.keeps {X : Nat → Prop} {w w' : World} {b t : Nat} {L : List Int} (h : Blk w b t L) (hk : Keeps X w w') (hb : ¬ X b) : Blk w' b t L :=
  (hk.block b (Array.getElem?_eq_some_iff.1 h).1 hb).trans h

theorem Blk.lt {w : World} {b t : Nat} {L : List Int} (h : Blk w b t L) : b < w.heap.size := (Array.getElem?_eq_some_iff.1 h).1

theorem Blk.below {w w' : World} {b B t : Nat} {L : List Int} (h : Blk w b t L) (hk : Below B w w') (hb : b < B) : Blk w' b t L := (hk.block b hb).trans h

theorem Blk.old {w : World} {b t : Nat} {L : List Int} (h : Blk w b t L) (o : Obj) : Blk (w.alloc o) b t L :=
  (Below.heap_alloc w o b h.lt).trans h

theorem Blk.new (w : World) (t : Nat) (L : List Int) (c : Array Value) (hc : c = (ivs L).toArray) : Blk (w.alloc (.cells c t)) w.heap.size t L := by
  subst hc
  exact heap_alloc_new w _

theorem Keeps.set1 (w : World) (b i : Nat) (v : Value) : Keeps (fun k => k = b) w (w.setCell ⟨b, i, none⟩ v) :=
  Keeps.setCell (X := fun k => k = b) (Keeps.refl _ w) (p := ⟨b, i, none⟩) rfl v

theorem Blk.other {w : World} {b g t : Nat} {L : List Int} (h : Blk w b t L) (hb : b ≠ g) (i : Nat) (v : Value) : Blk (w.setCell ⟨g, i, none⟩ v) b t L := h.keeps (Keeps.set1 w g i v) hb

theorem Blk.range {w : World} {b t : Nat} {T : List Int} (h : Blk w b t T) : w.rangeAt b 0 (ivs T) := by
  intro j v hv
  have hj : j < T.length := by have := (List.getElem?_eq_some_iff.1 hv).1; rwa [ivs_length] at this
  rw [Nat.zero_add, h.cell hj, ← hv]
  simp [ivs, List.getD, hj]

theorem Blk.there {w : World} {b t : Nat} {T : List Int} (h : Blk w b t T) : w.there b 0 T.length := by
  intro j hj
  rw [Nat.zero_add]
  exact ⟨by rw [h.cell hj]; rfl, h.frozen j⟩

theorem size54 : (Try.prog.info? 54).map (·.size) = some 52 := by kernel_rfl
theorem size52 : (Try.prog.info? 52).map (·.size) = some 26 := by kernel_rfl

/-- A side is read whole. -/
theorem wpList_load_sd {ops : Array Oper} {rest : List Oper} {op : Oper} {a : Act} {w : World} {Q : Exit → Act → World → Prop} (hgd : op.guard = none) (x : Operand) (ho : op.op = .load 54 x)
    (b : Nat) (hx : a.eval x = .pointer (some ⟨b, 0, none⟩)) (S : List Int) (hS : S.length = 52) (hc : Blk w b 54 S)
    (h : wpList Try.prog ops Q rest (a.put op.dst (.agg (ivs S).toArray)) w) : wpList Try.prog ops Q (op :: rest) a w :=
  wpList_load_mid hgd 54 x ho b 0 hx (ivs S) _ hc.range Try.underlying54 rfl (by rw [ivs_length, hS]; exact size54) h

/-- A side is written whole. -/
theorem wpList_store_sd {ops : Array Oper} {rest : List Oper} {o : Oper} {a : Act} {w : World} {Q : Exit → Act → World → Prop} (hgd : o.guard = none) (x y : Operand) (ho : o.op = .store 54 x y)
    (b : Nat) (S T : List Int) (hS : S.length = 52) (hT : T.length = 52) (hx : a.eval x = .pointer (some ⟨b, 0, none⟩)) (hy : a.eval y = .agg (ivs S).toArray) (hb : Blk w b 54 T)
    (h : ∀ w', Blk w' b 54 S → Keeps (fun k => k = b) w w' → wpList Try.prog ops Q rest (a.put o.dst undef) w') : wpList Try.prog ops Q (o :: rest) a w := by
  refine wpList_plain hgd fun _ hK => ?_
  have hb' : w.heap[b]? = _ := hb
  refine wp_store_row 54 x y ho b (ivs S).toArray hx hy 54 (ivs T).toArray hb' (by rw [List.size_toArray, ivs_length, hS]; exact size54) (by simp [ivs_length, hS, hT]) (ivs_one S) ?_
  refine hK _ _ (h _ ?_ ?_)
  · simp [Blk, World.setRow, Array.getElem?_modify, hb']
  · exact ⟨rfl, rfl, rfl, by simp [World.setRow], fun k _ hk => by simp [World.setRow, Array.getElem?_modify, show ¬ b = k from fun e => hk e.symm]⟩

theorem load54 (w : World) (b : Nat) (S : List Int) (hS : S.length = 52) (h : Blk w b 54 S) : (loadVar 54 ⟨b, 0, none⟩).run Try.prog w = .ok (.agg (ivs S).toArray) w :=
  run_loadVar_mid w b 0 54 (ivs S) _ h.range Try.underlying54 rfl (by rw [ivs_length, hS]; exact size54)

theorem results_sd {fn : Func} {t : Tmp} (h : fn.results = #[.cell t 54]) (tmps : Array Value) (w : World) (b : Nat) (hb : tmps.getD t undef = .pointer (some ⟨b, 0, none⟩)) (S : List Int) (hS : S.length = 52) (hr : Blk w b 54 S) :
    (results fn tmps).run Try.prog w = .ok (.agg (ivs S).toArray) w := by
  have hl := load54 w b S hS hr
  have hb' : tmps[t]?.getD undef = .pointer (some ⟨b, 0, none⟩) := by simpa using hb
  have ha : (asAddr (.pointer (some ⟨b, 0, none⟩))).run Try.prog w = .ok ⟨b, 0, none⟩ w := rfl
  simp [results, h, hb', ha, hl, Sem.run_bind, Result.andThen]

theorem results_sb {fn : Func} {t u : Tmp} (h : fn.results = #[.cell t 54, .tmp u]) (tmps : Array Value) (w : World) (b : Nat) (hb : tmps.getD t undef = .pointer (some ⟨b, 0, none⟩)) (S : List Int) (hS : S.length = 52) (hr : Blk w b 54 S) :
    (results fn tmps).run Try.prog w = .ok (.tuple #[.agg (ivs S).toArray, tmps.getD u undef]) w := by
  have hl := load54 w b S hS hr
  have hb' : tmps[t]?.getD undef = .pointer (some ⟨b, 0, none⟩) := by simpa using hb
  have ha : (asAddr (.pointer (some ⟨b, 0, none⟩))).run Try.prog w = .ok ⟨b, 0, none⟩ w := rfl
  simp [results, h, hb', ha, hl, Sem.run_bind, Result.andThen]

/-- Arrays of 26 numbers, compared. -/
theorem eq26_items (d : Nat) (w : World) (A B : List Int) (is : List Nat) (hi : ∀ i ∈ is, i < A.length ∧ i < B.length) :
    (Op.eqItems (d + 1) 3 1 (ivs A).toArray (ivs B).toArray is).run Try.prog w = .ok (decide (∀ i ∈ is, A.getD i 0 = B.getD i 0)) w := by
  induction is with
  | nil => simp [Op.eqItems]
  | cons i is ih =>
    have h1 := hi i (by simp)
    have e1 : (part 3 (ivs A).toArray (i * 1)).run Try.prog w = .ok (.int .i64 (A.getD i 0)) w := by
      simp [part, go_sem, ivs, h1.1, List.getD]
    have e2 : (part 3 (ivs B).toArray (i * 1)).run Try.prog w = .ok (.int .i64 (B.getD i 0)) w := by
      simp [part, go_sem, ivs, h1.2, List.getD]
    have e3 := run_equalIn_int (P := Try.prog) w d 3 .i64 .i64 (A.getD i 0) (B.getD i 0) Try.underlying3
    have hd : decide (∀ j ∈ i :: is, A.getD j 0 = B.getD j 0) = (decide (A.getD i 0 = B.getD i 0) && decide (∀ j ∈ is, A.getD j 0 = B.getD j 0)) := by
      rw [Bool.eq_iff_iff]
      simp only [List.forall_mem_cons, Bool.and_eq_true, decide_eq_true_eq]
    rw [hd]
    simp only [Op.eqItems, Sem.run_bind, e1, e2, e3, Result.andThen_ok]
    have ih' := ih (fun j hj => hi j (by simp [hj]))
    generalize A.getD i 0 = x at *
    generalize B.getD i 0 = y at *
    by_cases hq : x = y
    · subst hq
      simp [ih']
    · have hb : (x == y) = false := by simpa using hq
      simp [hb, hq]

theorem getD_ext (A B : List Int) (n : Nat) (hA : A.length = n) (hB : B.length = n) (h : ∀ i, i < n → A.getD i 0 = B.getD i 0) : A = B := by
  apply List.ext_getElem (by rw [hA, hB])
  intro i h1 h2
  have := h i (by omega)
  simpa [List.getD, h1, h2] using this

theorem eq26 (w : World) (A B : List Int) (hA : A.length = 26) (hB : B.length = 26) : (binOp .eql 52 (.agg (ivs A).toArray) (.agg (ivs B).toArray)).run Try.prog w = .ok (.bool (decide (A = B))) w := by
  obtain ⟨i0, hi, hz0, hz1, hz2⟩ := info_parts Try.info3
  rw [run_eql_struct, run_equalIn_array (P := Try.prog) w 9999 _ _ Try.underlying52 hi]
  have hc : Try.prog.cellsOf 3 = 1 := by kernel_rfl
  rw [hc, eq26_items 9998 w A B (List.range 26) (fun i hi => by have := List.mem_range.1 hi; omega)]
  simp only [Result.andThen_ok, Result.ok.injEq, Value.bool.injEq, and_true]
  rw [Bool.eq_iff_iff]
  simp only [decide_eq_true_eq, List.mem_range]
  exact ⟨fun h => getD_ext A B 26 hA hB h, fun h => by subst h; exact fun _ _ => rfl⟩

end Go.Proofs.Ytmboikpcbkiepaa
