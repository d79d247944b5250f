/-
  Boards as values and in blocks; which boards may be. No conditions beyond those that each theorem bears.
-/
import Derived.Test.YtdmlamnonbmboaaGreatDoorV02
import Derived.Deep.MidRow
import Derived.ChangeKeysEq
import Derived.BigRegion
import Derived.Laws.Rows
import Derived.Deep.Cut
import Derived.Deep.CutRange
import Derived.Deep.DeepCutAuto
import Derived.Deep.RegionHeld3
namespace Go.Proofs.YtdmlamnonbmboaaGreatDoor
open Go.RowKit

/-- Of the blocks that there were, those that X does not name are as they were. -/
structure Keeps (X : Nat → Prop) (w w' : World) : Prop where
  os : w'.os = w.os
  tape : w'.tape = w.tape
  output : w'.output = w.output
  size : w.heap.size ≤ w'.heap.size
  block : ∀ k, k < w.heap.size → ¬ X k → w'.heap[k]? = w.heap[k]?

theorem Keeps.refl (X : Nat → Prop) (w : World) : Keeps X w w := ⟨rfl, rfl, rfl, Nat.le_refl _, fun _ _ _ => rfl⟩

theorem Keeps.trans {X : Nat → Prop} {a b c : World} (h : Keeps X a b) (k : Keeps X b c) : Keeps X a c :=
  ⟨k.os.trans h.os, k.tape.trans h.tape, k.output.trans h.output, Nat.le_trans h.size k.size, fun i hi hx => (k.block i (Nat.lt_of_lt_of_le hi h.size) hx).trans (h.block i hi hx)⟩

theorem Keeps.mono {X Y : Nat → Prop} {a b : World} (h : Keeps X a b) (hs : ∀ k, k < a.heap.size → X k → Y k) : Keeps Y a b :=
  ⟨h.os, h.tape, h.output, h.size, fun i hi hx => h.block i hi (fun k => hx (hs i hi k))⟩

theorem Keeps.of_below {B : Nat} {a b : World} (h : Below B a b) : Keeps (fun k => B ≤ k) a b :=
  ⟨h.os, h.tape, h.output, h.size, fun i _ hx => h.block i (Nat.lt_of_not_le hx)⟩

theorem Keeps.below {X : Nat → Prop} {B : Nat} {a b : World} (h : Keeps X a b) (hB : B ≤ a.heap.size) (hX : ∀ k, k < B → ¬ X k) : Below B a b :=
  ⟨h.os, h.tape, h.output, h.size, fun i hi => h.block i (Nat.lt_of_lt_of_le hi hB) (hX i hi)⟩

theorem Keeps.of_all {X : Nat → Prop} {a b : World} (h : Below a.heap.size a b) : Keeps X a b :=
  ⟨h.os, h.tape, h.output, h.size, fun i hi _ => h.block i hi⟩

theorem Keeps.drew {X : Nat → Prop} {a b : World} (h : Keeps X a b) : Keeps X a b.drew := ⟨h.os, h.tape, h.output, h.size, h.block⟩

theorem Keeps.alloc {X : Nat → Prop} {a b : World} (h : Keeps X a b) (o : Obj) : Keeps X a (b.alloc o) :=
  h.trans (Keeps.of_all ((Below.refl _ b).alloc (Nat.le_refl _) o))

theorem Keeps.setCell {X : Nat → Prop} {a b : World} (h : Keeps X a b) {p : Addr} (hp : X p.block) (u : Value) : Keeps X a (b.setCell p u) :=
  h.trans ⟨rfl, rfl, rfl, by simp [World.setCell], fun k _ hx => Below.heap_setCell _ _ _ _ (fun e => hx (e ▸ hp))⟩

theorem Keeps.cell {X : Nat → Prop} {w w' : World} (h : Keeps X w w') {p : Addr} {v : Value} (hc : w.cell? p = some v) (hp : ¬ X p.block) : w'.cell? p = some v :=
  (World.cell?_of_block (w := w) (h.block p.block (World.block_lt_of_cell? w _ hc) hp)).trans hc

theorem Rd.keeps {X : Nat → Prop} {w w' : World} {a n c zs} (h : Rd w a n c zs) (hb : Keeps X w w') (hX : ∀ b off, a = some ⟨b, off, none⟩ → ¬ X b) : Rd w' a n c zs := by
  refine ⟨h.len, h.cap, h.max, h.nil, fun hn => ?_⟩
  obtain ⟨b, off, rfl, hc⟩ := h.cells hn
  exact ⟨b, off, rfl, fun i hi => hb.cell (hc i hi) (hX b off rfl)⟩

theorem ret_int {a b : Int} (h : a = b) : Ending.returned (.int .i64 a) = .returned (.int .i64 b) := by rw [h]

/-- Numbers as cells. -/
def ivs (S : List Int) : List Value := S.map (Value.int .i64)

theorem ivs_length (S : List Int) : (ivs S).length = S.length := by simp [ivs]
theorem ivs_one (S : List Int) : (ivs S).toArray.all (·.oneCell') = true := by simp [ivs, Value.oneCell']
theorem ivs_inj {S T : List Int} (h : ivs S = ivs T) : S = T := by
  have := congrArg (List.map fun v => match v with | .int _ z => z | _ => 0) h
  simpa [ivs, Function.comp_def] using this

/-- A block of numbers. -/
def Blk (w : World) (b t : Nat) (L : List Int) : Prop := w.heap[b]? = some (.cells (ivs L).toArray t (0, 0))

theorem Blk.cell {w : World} {b t : Nat} {L : List Int} (h : Blk w b t L) {i : Nat} (hi : i < L.length) : w.cell? ⟨b, i, none⟩ = some (.int .i64 (L.getD i 0)) := by
  have h' : w.heap[b]? = _ := h
  simp [World.cell?, h', ivs, List.getD, hi]

theorem Blk.frozen {w : World} {b t : Nat} {L : List Int} (h : Blk w b t L) (i : Nat) : w.frozen? ⟨b, i, none⟩ = false := by
  have h' : w.heap[b]? = _ := h
  simp [World.frozen?, h']

theorem Blk.set {w : World} {b t : Nat} {L : List Int} (h : Blk w b t L) (i : Nat) (x : Int) : Blk (w.setCell ⟨b, i, none⟩ (.int .i64 x)) b t (L.set i x) := by
  have h' : w.heap[b]? = _ := h
  simp [Blk, World.setCell, Array.getElem?_modify, h', ivs, List.map_set]

theorem Blk.keeps {X : Nat → Prop} {w w' : World} {b t : Nat} {L : List Int} (h : Blk w b t L) (hk : Keeps X w w') (hb : ¬ X b) : Blk w' b t L :=
  (hk.block b (Array.getElem?_eq_some_iff.1 h).1 hb).trans h

theorem Blk.lt {w : World} {b t : Nat} {L : List Int} (h : Blk w b t L) : b < w.heap.size := (Array.getElem?_eq_some_iff.1 h).1

theorem Blk.below {w w' : World} {b B t : Nat} {L : List Int} (h : Blk w b t L) (hk : Below B w w') (hb : b < B) : Blk w' b t L := (hk.block b hb).trans h

theorem Blk.old {w : World} {b t : Nat} {L : List Int} (h : Blk w b t L) (o : Obj) : Blk (w.alloc o) b t L :=
  (Below.heap_alloc w o b h.lt).trans h

theorem Blk.new (w : World) (t : Nat) (L : List Int) (c : Array Value) (hc : c = (ivs L).toArray) : Blk (w.alloc (.cells c t)) w.heap.size t L := by
  subst hc
  exact heap_alloc_new w _

theorem Keeps.set1 (w : World) (b i : Nat) (v : Value) : Keeps (fun k => k = b) w (w.setCell ⟨b, i, none⟩ v) :=
  Keeps.setCell (X := fun k => k = b) (Keeps.refl _ w) (p := ⟨b, i, none⟩) rfl v

theorem Blk.other {w : World} {b g t : Nat} {L : List Int} (h : Blk w b t L) (hb : b ≠ g) (i : Nat) (v : Value) : Blk (w.setCell ⟨g, i, none⟩ v) b t L := h.keeps (Keeps.set1 w g i v) hb

theorem Blk.range {w : World} {b t : Nat} {T : List Int} (h : Blk w b t T) : w.rangeAt b 0 (ivs T) := by
  intro j v hv
  have hj : j < T.length := by have := (List.getElem?_eq_some_iff.1 hv).1; rwa [ivs_length] at this
  rw [Nat.zero_add, h.cell hj, ← hv]
  simp [ivs, List.getD, hj]

theorem Blk.there {w : World} {b t : Nat} {T : List Int} (h : Blk w b t T) : w.there b 0 T.length := by
  intro j hj
  rw [Nat.zero_add]
  exact ⟨by rw [h.cell hj]; rfl, h.frozen j⟩


theorem Keeps.frozen {X : Nat → Prop} {w w' : World} (h : Keeps X w w') {p : Addr} (hlt : p.block < w.heap.size) (hp : ¬ X p.block) : w'.frozen? p = w.frozen? p :=
  World.frozen?_of_block (w := w) (h.block p.block hlt hp)

theorem Rd.alloc {w : World} {a n c zs} (h : Rd w a n c zs) (o : Obj) : Rd (w.alloc o) a n c zs := h.mono ((Below.refl _ _).alloc (Nat.le_refl _) _)

theorem Rd.of_blk {w : World} {b t n : Nat} {L : List Int} (h : Blk w b t L) (hn : L.length = n) (hm : n ≤ maxLen) : Rd w (some ⟨b, 0, none⟩) n n L :=
  ⟨hn, Nat.le_refl _, hm, (fun e => by cases e), fun _ => ⟨b, 0, rfl, fun i hi => by rw [Nat.zero_add]; exact h.cell (by omega)⟩⟩

theorem getD_mem {zs : List Int} {k : Nat} (hk : k < zs.length) : zs.getD k 0 ∈ zs := by
  simp [List.getD, hk]

theorem take_snoc (P : List Int) (k : Nat) (hk : k < P.length) : P.take (k + 1) = P.take k ++ [P.getD k 0] := by
  rw [List.take_succ_eq_append_getElem hk]
  simp [List.getD, hk]

theorem wpList_wanted {ops : Array Oper} {rest : List Oper} {o : Oper} {a : Act} {w : World} {Q : Exit → Act → World → Prop} (hw : Region.wanted o (yielded ops a.tmps) = true)
    (h : ∀ K : Act → World → Prop, (∀ a' w', wpList Tryz.prog ops Q rest a' w' → K a' w') → o.wp Tryz.prog a w K Q) : wpList Tryz.prog ops Q (o :: rest) a w :=
  wpList_step fun K hK => by simp only [hw, if_true]; exact h K hK

theorem Keeps.grown {b : Nat} {w w' : World} (h : Keeps (fun k => k = b) w w') : w.grownBy w' (some b) :=
  ⟨h.os, h.tape, h.output, h.size, fun i hi hne => h.block i hi (fun e => hne (by rw [e]))⟩

theorem own_keeps {w w' : World} {base b e s : Nat} {v : Value} {n : Nat} {xs : List Value} (h : w.ownsRow base e s v n xs) (hk : Keeps (fun k => k = b) w w') (hb : b < base) : w'.ownsRow base e s v n xs := by
  refine h.kept hk.grown (Or.inr ?_)
  intro hh
  have := (h.lt b hh).1
  omega

theorem own_base {w : World} {base base' e s : Nat} {v : Value} {n : Nat} {xs : List Value} (h : w.ownsRow base e s v n xs) (hb : base' ≤ base) : w.ownsRow base' e s v n xs := by
  refine ⟨h.1, ?_⟩
  rcases h.2 with h2 | ⟨g, cap, cur, h1, h2, h3⟩
  · exact Or.inl h2
  · exact Or.inr ⟨g, cap, cur, h1, by omega, h3⟩

theorem drewN_heap (w : World) (n : Nat) : (w.drewN n).heap = w.heap := by cases n <;> rfl

/-- A position as a value. -/
abbrev chA (a : Option Addr) (n c : Nat) (t k e h f : Int) : Array Value := #[.slice a n c, .int .i64 t, .int .i64 k, .int .i64 e, .int .i64 h, .int .i64 f]

/-- A position lies in a block. -/
def Ch (w : World) (b : Nat) (a : Option Addr) (n c : Nat) (t k e h f : Int) : Prop := w.heap[b]? = some (.cells (chA a n c t k e h f) 24 (0, 0))

section
variable {w w' : World} {b : Nat} {a : Option Addr} {n c : Nat} {t k e h f : Int}
theorem Ch.cells (H : Ch w b a n c t k e h f) : w.cell? ⟨b, 0, none⟩ = some (.slice a n c) ∧ w.cell? ⟨b, 1, none⟩ = some (.int .i64 t) ∧ w.cell? ⟨b, 2, none⟩ = some (.int .i64 k) ∧ w.cell? ⟨b, 3, none⟩ = some (.int .i64 e) ∧ w.cell? ⟨b, 4, none⟩ = some (.int .i64 h) ∧ w.cell? ⟨b, 5, none⟩ = some (.int .i64 f) := by
  have h' : w.heap[b]? = _ := H
  simp [World.cell?, h']
theorem Ch.frozen (H : Ch w b a n c t k e h f) (i : Nat) : w.frozen? ⟨b, i, none⟩ = false := by
  have h' : w.heap[b]? = _ := H
  simp [World.frozen?, h']
theorem Ch.lt (H : Ch w b a n c t k e h f) : b < w.heap.size := (Array.getElem?_eq_some_iff.1 H).1
theorem Ch.keeps {X : Nat → Prop} (H : Ch w b a n c t k e h f) (hk : Keeps X w w') (hb : ¬ X b) : Ch w' b a n c t k e h f := (hk.block b H.lt hb).trans H
theorem Ch.below {C : Nat} (H : Ch w b a n c t k e h f) (hk : Below C w w') (hb : b < C) : Ch w' b a n c t k e h f := (hk.block b hb).trans H
theorem Ch.other {g : Nat} (H : Ch w b a n c t k e h f) (hb : b ≠ g) (i : Nat) (v : Value) : Ch (w.setCell ⟨g, i, none⟩ v) b a n c t k e h f := H.keeps (Keeps.set1 w g i v) hb
theorem Ch.setP (H : Ch w b a n c t k e h f) (a' : Option Addr) (n' c' : Nat) : Ch (w.setCell ⟨b, 0, none⟩ (.slice a' n' c')) b a' n' c' t k e h f := by
  have h' : w.heap[b]? = _ := H
  simp [Ch, World.setCell, Array.getElem?_modify, h']
end
theorem Ch.new (w : World) (a : Option Addr) (n c : Nat) (t k e h f : Int) : Ch (w.alloc (.cells (chA a n c t k e h f) 24)) w.heap.size a n c t k e h f := heap_alloc_new w _
theorem Ch.old {w : World} {b : Nat} {a : Option Addr} {n c : Nat} {t k e h f : Int} (H : Ch w b a n c t k e h f) (o : Obj) : Ch (w.alloc o) b a n c t k e h f := (Below.heap_alloc w o b H.lt).trans H
theorem size24 : (Tryz.prog.info? 24).map (·.size) = some 6 := by kernel_rfl

theorem wpList_load_ch {ops : Array Oper} {rest : List Oper} {op : Oper} {a : Act} {w : World} {Q : Exit → Act → World → Prop} (hw : Region.wanted op (yielded ops a.tmps) = true) (x : Operand) (ho : op.op = .load 24 x)
    (b : Nat) (hx : a.eval x = .pointer (some ⟨b, 0, none⟩)) {ad : Option Addr} {n c : Nat} {t k e h f : Int} (hc : Ch w b ad n c t k e h f)
    (hK : wpList Tryz.prog ops Q rest (a.put op.dst (.agg (chA ad n c t k e h f))) w) : wpList Tryz.prog ops Q (op :: rest) a w :=
  wpList_wanted hw fun _ hK' => wp_load_row 24 x ho b hx 24 _ (0, 0) _ hc Tryz.underlying24 rfl size24 (hK' _ _ hK)

theorem wpList_store_ch {ops : Array Oper} {rest : List Oper} {o : Oper} {a : Act} {w : World} {Q : Exit → Act → World → Prop} (hgd : o.guard = none) (x y : Operand) (ho : o.op = .store 24 x y)
    (b : Nat) {ad : Option Addr} {n c : Nat} {t k e h f : Int} {ad' : Option Addr} {n' c' : Nat} {t' k' e' h' f' : Int} (hx : a.eval x = .pointer (some ⟨b, 0, none⟩)) (hy : a.eval y = .agg (chA ad n c t k e h f)) (hb : Ch w b ad' n' c' t' k' e' h' f')
    (hK : ∀ w', Ch w' b ad n c t k e h f → Keeps (fun k => k = b) w w' → wpList Tryz.prog ops Q rest (a.put o.dst undef) w') : wpList Tryz.prog ops Q (o :: rest) a w := by
  refine wpList_plain hgd fun _ hK2 => ?_
  have hb' : w.heap[b]? = _ := hb
  refine wp_store_row 24 x y ho b (chA ad n c t k e h f) hx hy 24 _ hb' size24 rfl (by simp [Value.oneCell']) ?_
  refine hK2 _ _ (hK _ ?_ ?_)
  · simp [Ch, World.setRow, Array.getElem?_modify, hb']
  · exact ⟨rfl, rfl, rfl, by simp [World.setRow], fun k _ hk => by simp [World.setRow, Array.getElem?_modify, show ¬ b = k from fun e => hk e.symm]⟩

theorem results_ch {fn : Func} {t : Tmp} (hf : fn.results = #[.cell t 24]) (tmps : Array Value) (w : World) (b : Nat) (hb : tmps.getD t undef = .pointer (some ⟨b, 0, none⟩)) {ad : Option Addr} {n c : Nat} {tt k e h f : Int} (hr : Ch w b ad n c tt k e h f) :
    (results fn tmps).run Tryz.prog w = .ok (.agg (chA ad n c tt k e h f)) w :=
  results_cell_row hf tmps w b 24 _ (0, 0) _ hb hr Tryz.underlying24 rfl size24

end Go.Proofs.YtdmlamnonbmboaaGreatDoor
