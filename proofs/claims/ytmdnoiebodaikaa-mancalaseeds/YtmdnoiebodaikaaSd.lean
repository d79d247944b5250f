/-
  Boards as the program sees them: 16 numbers; blocks that hold such. No conditions beyond those that each theorem bears.
-/
import Derived.Test.YtmdnoiebodaikaaBase
import Derived.Deep.MidRow
import Derived.ChangeKeysEq
import Derived.BigRegion
import Derived.Laws.Rows
namespace Go.Proofs.Ytmdnoiebodaikaa
open Go.RowKit

/-- Of the blocks that there were, those that X does not name are as they were. -/
structure Keeps (X : Nat → Prop) (w w' : World) : Prop where
  os : w'.os = w.os
  tape : w'.tape = w.tape
  output : w'.output = w.output
  size : w.heap.size ≤ w'.heap.size
  block : ∀ k, k < w.heap.size → ¬ X k → w'.heap[k]? = w.heap[k]?

theorem Keeps.refl (X : Nat → Prop) (w : World) : Keeps X w w := ⟨rfl, rfl, rfl, Nat.le_refl _, fun _ _ _ => rfl⟩

theorem Keeps.trans {X : Nat → Prop} {a b c : World} (h : Keeps X a b) (k : Keeps X b c) : Keeps X a c :=
  ⟨k.os.trans h.os, k.tape.trans h.tape, k.output.trans h.output, Nat.le_trans h.size k.size, fun i hi hx => (k.block i (Nat.lt_of_lt_of_le hi h.size) hx).trans (h.block i hi hx)⟩

theorem Keeps.mono {X Y : Nat → Prop} {a b : World} (h : Keeps X a b) (hs : ∀ k, k < a.heap.size → X k → Y k) : Keeps Y a b :=
  ⟨h.os, h.tape, h.output, h.size, fun i hi hx => h.block i hi (fun k => hx (hs i hi k))⟩

theorem Keeps.of_below {B : Nat} {a b : World} (h : Below B a b) : Keeps (fun k => B ≤ k) a b :=
  ⟨h.os, h.tape, h.output, h.size, fun i _ hx => h.block i (Nat.lt_of_not_le hx)⟩

theorem Keeps.below {X : Nat → Prop} {B : Nat} {a b : World} (h : Keeps X a b) (hB : B ≤ a.heap.size) (hX : ∀ k, k < B → ¬ X k) : Below B a b :=
  ⟨h.os, h.tape, h.output, h.size, fun i hi => h.block i (Nat.lt_of_lt_of_le hi hB) (hX i hi)⟩

theorem Keeps.of_all {X : Nat → Prop} {a b : World} (h : Below a.heap.size a b) : Keeps X a b :=
  ⟨h.os, h.tape, h.output, h.size, fun i hi _ => h.block i hi⟩

theorem Keeps.drew {X : Nat → Prop} {a b : World} (h : Keeps X a b) : Keeps X a b.drew := ⟨h.os, h.tape, h.output, h.size, h.block⟩

theorem Keeps.alloc {X : Nat → Prop} {a b : World} (h : Keeps X a b) (o : Obj) : Keeps X a (b.alloc o) :=
  h.trans (Keeps.of_all ((Below.refl _ b).alloc (Nat.le_refl _) o))

theorem Keeps.setCell {X : Nat → Prop} {a b : World} (h : Keeps X a b) {p : Addr} (hp : X p.block) (u : Value) : Keeps X a (b.setCell p u) :=
  h.trans ⟨rfl, rfl, rfl, by simp [World.setCell], fun k _ hx => Below.heap_setCell _ _ _ _ (fun e => hx (e ▸ hp))⟩

theorem Keeps.cell {X : Nat → Prop} {w w' : World} (h : Keeps X w w') {p : Addr} {v : Value} (hc : w.cell? p = some v) (hp : ¬ X p.block) : w'.cell? p = some v :=
  (World.cell?_of_block (w := w) (h.block p.block (World.block_lt_of_cell? w _ hc) hp)).trans hc

theorem Rd.keeps {X : Nat → Prop} {w w' : World} {a n c zs} (h : Rd w a n c zs) (hb : Keeps X w w') (hX : ∀ b off, a = some ⟨b, off, none⟩ → ¬ X b) : Rd w' a n c zs := by
  refine ⟨h.len, h.cap, h.max, h.nil, fun hn => ?_⟩
  obtain ⟨b, off, rfl, hc⟩ := h.cells hn
  exact ⟨b, off, rfl, fun i hi => hb.cell (hc i hi) (hX b off rfl)⟩


/-- Numbers as cells. -/
def ivs (S : List Int) : List Value := S.map (Value.int .i64)

theorem ivs_length (S : List Int) : (ivs S).length = S.length := by simp [ivs]
theorem ivs_one (S : List Int) : (ivs S).toArray.all (·.oneCell') = true := by simp [ivs, Value.oneCell']
theorem ivs_inj {S T : List Int} (h : ivs S = ivs T) : S = T := by
  have := congrArg (List.map fun v => match v with | .int _ z => z | _ => 0) h
  simpa [ivs, Function.comp_def] using this

/-- A block of numbers. -/
def Blk (w : World) (b t : Nat) (L : List Int) : Prop := w.heap[b]? = some (.cells (ivs L).toArray t (0, 0))

theorem Blk.cell {w : World} {b t : Nat} {L : List Int} (h : Blk w b t L) {i : Nat} (hi : i < L.length) : w.cell? ⟨b, i, none⟩ = some (.int .i64 (L.getD i 0)) := by
  have h' : w.heap[b]? = _ := h
  simp [World.cell?, h', ivs, List.getD, hi]

theorem Blk.frozen {w : World} {b t : Nat} {L : List Int} (h : Blk w b t L) (i : Nat) : w.frozen? ⟨b, i, none⟩ = false := by
  have h' : w.heap[b]? = _ := h
  simp [World.frozen?, h']

theorem Blk.set {w : World} {b t : Nat} {L : List Int} (h : Blk w b t L) (i : Nat) (x : Int) : Blk (w.setCell ⟨b, i, none⟩ (.int .i64 x)) b t (L.set i x) := by
  have h' : w.heap[b]? = _ := h
  simp [Blk, World.setCell, Array.getElem?_modify, h', ivs, List.map_set]

theorem Blk.keeps {X : Nat → Prop} {w w' : World} {b t : Nat} {L : List Int} (h : Blk w b t L) (hk : Keeps X w w') (hb : ¬ X b) : Blk w' b t L :=
  (hk.block b (Array.getElem?_eq_some_iff.1 h).1 hb).trans h

theorem Blk.lt {w : World} {b t : Nat} {L : List Int} (h : Blk w b t L) : b < w.heap.size := (Array.getElem?_eq_some_iff.1 h).1

theorem Blk.below {w w' : World} {b B t : Nat} {L : List Int} (h : Blk w b t L) (hk : Below B w w') (hb : b < B) : Blk w' b t L := (hk.block b hb).trans h

theorem Blk.old {w : World} {b t : Nat} {L : List Int} (h : Blk w b t L) (o : Obj) : Blk (w.alloc o) b t L :=
  (Below.heap_alloc w o b h.lt).trans h

theorem Blk.new (w : World) (t : Nat) (L : List Int) (c : Array Value) (hc : c = (ivs L).toArray) : Blk (w.alloc (.cells c t)) w.heap.size t L := by
  subst hc
  exact heap_alloc_new w _

theorem Keeps.set1 (w : World) (b i : Nat) (v : Value) : Keeps (fun k => k = b) w (w.setCell ⟨b, i, none⟩ v) :=
  Keeps.setCell (X := fun k => k = b) (Keeps.refl _ w) (p := ⟨b, i, none⟩) rfl v

theorem Blk.other {w : World} {b g t : Nat} {L : List Int} (h : Blk w b t L) (hb : b ≠ g) (i : Nat) (v : Value) : Blk (w.setCell ⟨g, i, none⟩ v) b t L := h.keeps (Keeps.set1 w g i v) hb

theorem Blk.range {w : World} {b t : Nat} {T : List Int} (h : Blk w b t T) : w.rangeAt b 0 (ivs T) := by
  intro j v hv
  have hj : j < T.length := by have := (List.getElem?_eq_some_iff.1 hv).1; rwa [ivs_length] at this
  rw [Nat.zero_add, h.cell hj, ← hv]
  simp [ivs, List.getD, hj]

theorem Blk.there {w : World} {b t : Nat} {T : List Int} (h : Blk w b t T) : w.there b 0 T.length := by
  intro j hj
  rw [Nat.zero_add]
  exact ⟨by rw [h.cell hj]; rfl, h.frozen j⟩

theorem size46 : (Try.prog.info? 46).map (·.size) = some 16 := by kernel_rfl
theorem size44 : (Try.prog.info? 44).map (·.size) = some 14 := by kernel_rfl

/-- A board is read whole. -/
theorem wpList_load_bd {ops : Array Oper} {rest : List Oper} {op : Oper} {a : Act} {w : World} {Q : Exit → Act → World → Prop} (hgd : op.guard = none) (x : Operand) (ho : op.op = .load 46 x)
    (b : Nat) (hx : a.eval x = .pointer (some ⟨b, 0, none⟩)) (S : List Int) (hS : S.length = 16) (hc : Blk w b 46 S)
    (h : wpList Try.prog ops Q rest (a.put op.dst (.agg (ivs S).toArray)) w) : wpList Try.prog ops Q (op :: rest) a w :=
  wpList_load_mid hgd 46 x ho b 0 hx (ivs S) _ hc.range Try.underlying46 rfl (by rw [ivs_length, hS]; exact size46) h

/-- A board is written whole. -/
theorem wpList_store_bd {ops : Array Oper} {rest : List Oper} {o : Oper} {a : Act} {w : World} {Q : Exit → Act → World → Prop} (hgd : o.guard = none) (x y : Operand) (ho : o.op = .store 46 x y)
    (b : Nat) (S T : List Int) (hS : S.length = 16) (hT : T.length = 16) (hx : a.eval x = .pointer (some ⟨b, 0, none⟩)) (hy : a.eval y = .agg (ivs S).toArray) (hb : Blk w b 46 T)
    (h : ∀ w', Blk w' b 46 S → Keeps (fun k => k = b) w w' → wpList Try.prog ops Q rest (a.put o.dst undef) w') : wpList Try.prog ops Q (o :: rest) a w := by
  refine wpList_plain hgd fun _ hK => ?_
  have hb' : w.heap[b]? = _ := hb
  refine wp_store_row 46 x y ho b (ivs S).toArray hx hy 46 (ivs T).toArray hb' (by rw [List.size_toArray, ivs_length, hS]; exact size46) (by simp [ivs_length, hS, hT]) (ivs_one S) ?_
  refine hK _ _ (h _ ?_ ?_)
  · simp [Blk, World.setRow, Array.getElem?_modify, hb']
  · exact ⟨rfl, rfl, rfl, by simp [World.setRow], fun k _ hk => by simp [World.setRow, Array.getElem?_modify, show ¬ b = k from fun e => hk e.symm]⟩

theorem load46 (w : World) (b : Nat) (S : List Int) (hS : S.length = 16) (h : Blk w b 46 S) : (loadVar 46 ⟨b, 0, none⟩).run Try.prog w = .ok (.agg (ivs S).toArray) w :=
  run_loadVar_mid w b 0 46 (ivs S) _ h.range Try.underlying46 rfl (by rw [ivs_length, hS]; exact size46)

theorem results_bd {fn : Func} {t : Tmp} (h : fn.results = #[.cell t 46]) (tmps : Array Value) (w : World) (b : Nat) (hb : tmps.getD t undef = .pointer (some ⟨b, 0, none⟩)) (S : List Int) (hS : S.length = 16) (hr : Blk w b 46 S) :
    (results fn tmps).run Try.prog w = .ok (.agg (ivs S).toArray) w := by
  have hl := load46 w b S hS hr
  have hb' : tmps[t]?.getD undef = .pointer (some ⟨b, 0, none⟩) := by simpa using hb
  have ha : (asAddr (.pointer (some ⟨b, 0, none⟩))).run Try.prog w = .ok ⟨b, 0, none⟩ w := rfl
  simp [results, h, hb', ha, hl, Sem.run_bind, Result.andThen]

theorem results_bb {fn : Func} {t u : Tmp} (h : fn.results = #[.cell t 46, .tmp u]) (tmps : Array Value) (w : World) (b : Nat) (hb : tmps.getD t undef = .pointer (some ⟨b, 0, none⟩)) (S : List Int) (hS : S.length = 16) (hr : Blk w b 46 S) :
    (results fn tmps).run Try.prog w = .ok (.tuple #[.agg (ivs S).toArray, tmps.getD u undef]) w := by
  have hl := load46 w b S hS hr
  have hb' : tmps[t]?.getD undef = .pointer (some ⟨b, 0, none⟩) := by simpa using hb
  have ha : (asAddr (.pointer (some ⟨b, 0, none⟩))).run Try.prog w = .ok ⟨b, 0, none⟩ w := rfl
  simp [results, h, hb', ha, hl, Sem.run_bind, Result.andThen]

theorem getD_ext (A B : List Int) (n : Nat) (hA : A.length = n) (hB : B.length = n) (h : ∀ i, i < n → A.getD i 0 = B.getD i 0) : A = B := by
  apply List.ext_getElem (by rw [hA, hB])
  intro i h1 h2
  have := h i (by omega)
  simpa [List.getD, h1, h2] using this

theorem getD_set (L : List Int) (i j : Nat) (x : Int) (hi : i < L.length) : (L.set i x).getD j 0 = if j = i then x else L.getD j 0 := by
  simp only [List.getD, List.getElem?_set]
  by_cases h : i = j
  · subst h; simp [hi]
  · rw [if_neg h, if_neg (fun e => h e.symm)]

theorem rep0 (n r : Nat) : (List.replicate n (0 : Int)).getD r 0 = 0 := by
  simp only [List.getD, List.getElem?_replicate]
  split <;> rfl

theorem take_getD (L : List Int) (n i : Nat) (h : i < n) : (L.take n).getD i 0 = L.getD i 0 := by
  simp [List.getD, h]


end Go.Proofs.Ytmdnoiebodaikaa
