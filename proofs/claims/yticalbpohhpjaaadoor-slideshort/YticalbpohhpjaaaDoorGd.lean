/-
  Boards as values and in blocks; which boards may be. No conditions beyond those that each theorem bears.
-/
import Derived.Test.YticalbpohhpjaaaDoorBase
import Derived.Deep.MidRow
import Derived.ChangeKeysEq
import Derived.BigRegion
import Derived.Laws.Rows
import Derived.Deep.Cut
import Derived.Deep.CutRange
import Derived.Deep.DeepCutAuto
import Derived.Deep.RegionHeld3
namespace Go.Proofs.YticalbpohhpjaaaDoor
open Go.RowKit

/-- Of the blocks that there were, those that X does not name are as they were. -/
structure Keeps (X : Nat → Prop) (w w' : World) : Prop where
  os : w'.os = w.os
  tape : w'.tape = w.tape
  output : w'.output = w.output
  size : w.heap.size ≤ w'.heap.size
  block : ∀ k, k < w.heap.size → ¬ X k → w'.heap[k]? = w.heap[k]?

theorem Keeps.refl (X : Nat → Prop) (w : World) : Keeps X w w := ⟨rfl, rfl, rfl, Nat.le_refl _, fun _ _ _ => rfl⟩

theorem Keeps.trans {X : Nat → Prop} {a b c : World} (h : Keeps X a b) (k : Keeps X b c) : Keeps X a c :=
  ⟨k.os.trans h.os, k.tape.trans h.tape, k.output.trans h.output, Nat.le_trans h.size k.size, fun i hi hx => (k.block i (Nat.lt_of_lt_of_le hi h.size) hx).trans (h.block i hi hx)⟩

theorem Keeps.mono {X Y : Nat → Prop} {a b : World} (h : Keeps X a b) (hs : ∀ k, k < a.heap.size → X k → Y k) : Keeps Y a b :=
  ⟨h.os, h.tape, h.output, h.size, fun i hi hx => h.block i hi (fun k => hx (hs i hi k))⟩

theorem Keeps.of_below {B : Nat} {a b : World} (h : Below B a b) : Keeps (fun k => B ≤ k) a b :=
  ⟨h.os, h.tape, h.output, h.size, fun i _ hx => h.block i (Nat.lt_of_not_le hx)⟩

theorem Keeps.below {X : Nat → Prop} {B : Nat} {a b : World} (h : Keeps X a b) (hB : B ≤ a.heap.size) (hX : ∀ k, k < B → ¬ X k) : Below B a b :=
  ⟨h.os, h.tape, h.output, h.size, fun i hi => h.block i (Nat.lt_of_lt_of_le hi hB) (hX i hi)⟩

theorem Keeps.of_all {X : Nat → Prop} {a b : World} (h : Below a.heap.size a b) : Keeps X a b :=
  ⟨h.os, h.tape, h.output, h.size, fun i hi _ => h.block i hi⟩

theorem Keeps.drew {X : Nat → Prop} {a b : World} (h : Keeps X a b) : Keeps X a b.drew := ⟨h.os, h.tape, h.output, h.size, h.block⟩

theorem Keeps.alloc {X : Nat → Prop} {a b : World} (h : Keeps X a b) (o : Obj) : Keeps X a (b.alloc o) :=
  h.trans (Keeps.of_all ((Below.refl _ b).alloc (Nat.le_refl _) o))

theorem Keeps.setCell {X : Nat → Prop} {a b : World} (h : Keeps X a b) {p : Addr} (hp : X p.block) (u : Value) : Keeps X a (b.setCell p u) :=
  h.trans ⟨rfl, rfl, rfl, by simp [World.setCell], fun k _ hx => Below.heap_setCell _ _ _ _ (fun e => hx (e ▸ hp))⟩

theorem Keeps.cell {X : Nat → Prop} {w w' : World} (h : Keeps X w w') {p : Addr} {v : Value} (hc : w.cell? p = some v) (hp : ¬ X p.block) : w'.cell? p = some v :=
  (World.cell?_of_block (w := w) (h.block p.block (World.block_lt_of_cell? w _ hc) hp)).trans hc

theorem Rd.keeps {X : Nat → Prop} {w w' : World} {a n c zs} (h : Rd w a n c zs) (hb : Keeps X w w') (hX : ∀ b off, a = some ⟨b, off, none⟩ → ¬ X b) : Rd w' a n c zs := by
  refine ⟨h.len, h.cap, h.max, h.nil, fun hn => ?_⟩
  obtain ⟨b, off, rfl, hc⟩ := h.cells hn
  exact ⟨b, off, rfl, fun i hi => hb.cell (hc i hi) (hX b off rfl)⟩

theorem ret_int {a b : Int} (h : a = b) : Ending.returned (.int .i64 a) = .returned (.int .i64 b) := by rw [h]

/-- Numbers as cells. -/
def ivs (S : List Int) : List Value := S.map (Value.int .i64)

theorem ivs_length (S : List Int) : (ivs S).length = S.length := by simp [ivs]
theorem ivs_one (S : List Int) : (ivs S).toArray.all (·.oneCell') = true := by simp [ivs, Value.oneCell']
theorem ivs_inj {S T : List Int} (h : ivs S = ivs T) : S = T := by
  have := congrArg (List.map fun v => match v with | .int _ z => z | _ => 0) h
  simpa [ivs, Function.comp_def] using this

/-- A block of numbers. -/
def Blk (w : World) (b t : Nat) (L : List Int) : Prop := w.heap[b]? = some (.cells (ivs L).toArray t (0, 0))

theorem Blk.cell {w : World} {b t : Nat} {L : List Int} (h : Blk w b t L) {i : Nat} (hi : i < L.length) : w.cell? ⟨b, i, none⟩ = some (.int .i64 (L.getD i 0)) := by
  have h' : w.heap[b]? = _ := h
  simp [World.cell?, h', ivs, List.getD, hi]

theorem Blk.frozen {w : World} {b t : Nat} {L : List Int} (h : Blk w b t L) (i : Nat) : w.frozen? ⟨b, i, none⟩ = false := by
  have h' : w.heap[b]? = _ := h
  simp [World.frozen?, h']

theorem Blk.set {w : World} {b t : Nat} {L : List Int} (h : Blk w b t L) (i : Nat) (x : Int) : Blk (w.setCell ⟨b, i, none⟩ (.int .i64 x)) b t (L.set i x) := by
  have h' : w.heap[b]? = _ := h
  simp [Blk, World.setCell, Array.getElem?_modify, h', ivs, List.map_set]

theorem Blk.keeps {X : Nat → Prop} {w w' : World} {b t : Nat} {L : List Int} (h : Blk w b t L) (hk : Keeps X w w') (hb : ¬ X b) : Blk w' b t L :=
  (hk.block b (Array.getElem?_eq_some_iff.1 h).1 hb).trans h

theorem Blk.lt {w : World} {b t : Nat} {L : List Int} (h : Blk w b t L) : b < w.heap.size := (Array.getElem?_eq_some_iff.1 h).1

theorem Blk.below {w w' : World} {b B t : Nat} {L : List Int} (h : Blk w b t L) (hk : Below B w w') (hb : b < B) : Blk w' b t L := (hk.block b hb).trans h

theorem Blk.old {w : World} {b t : Nat} {L : List Int} (h : Blk w b t L) (o : Obj) : Blk (w.alloc o) b t L :=
  (Below.heap_alloc w o b h.lt).trans h

theorem Blk.new (w : World) (t : Nat) (L : List Int) (c : Array Value) (hc : c = (ivs L).toArray) : Blk (w.alloc (.cells c t)) w.heap.size t L := by
  subst hc
  exact heap_alloc_new w _

theorem Keeps.set1 (w : World) (b i : Nat) (v : Value) : Keeps (fun k => k = b) w (w.setCell ⟨b, i, none⟩ v) :=
  Keeps.setCell (X := fun k => k = b) (Keeps.refl _ w) (p := ⟨b, i, none⟩) rfl v

theorem Blk.other {w : World} {b g t : Nat} {L : List Int} (h : Blk w b t L) (hb : b ≠ g) (i : Nat) (v : Value) : Blk (w.setCell ⟨g, i, none⟩ v) b t L := h.keeps (Keeps.set1 w g i v) hb

theorem Blk.range {w : World} {b t : Nat} {T : List Int} (h : Blk w b t T) : w.rangeAt b 0 (ivs T) := by
  intro j v hv
  have hj : j < T.length := by have := (List.getElem?_eq_some_iff.1 hv).1; rwa [ivs_length] at this
  rw [Nat.zero_add, h.cell hj, ← hv]
  simp [ivs, List.getD, hj]

theorem Blk.there {w : World} {b t : Nat} {T : List Int} (h : Blk w b t T) : w.there b 0 T.length := by
  intro j hj
  rw [Nat.zero_add]
  exact ⟨by rw [h.cell hj]; rfl, h.frozen j⟩


theorem Keeps.frozen {X : Nat → Prop} {w w' : World} (h : Keeps X w w') {p : Addr} (hlt : p.block < w.heap.size) (hp : ¬ X p.block) : w'.frozen? p = w.frozen? p :=
  World.frozen?_of_block (w := w) (h.block p.block hlt hp)

theorem Rd.alloc {w : World} {a n c zs} (h : Rd w a n c zs) (o : Obj) : Rd (w.alloc o) a n c zs := h.mono ((Below.refl _ _).alloc (Nat.le_refl _) _)

theorem Rd.of_blk {w : World} {b t n : Nat} {L : List Int} (h : Blk w b t L) (hn : L.length = n) (hm : n ≤ maxLen) : Rd w (some ⟨b, 0, none⟩) n n L :=
  ⟨hn, Nat.le_refl _, hm, (fun e => by cases e), fun _ => ⟨b, 0, rfl, fun i hi => by rw [Nat.zero_add]; exact h.cell (by omega)⟩⟩

theorem getD_mem {zs : List Int} {k : Nat} (hk : k < zs.length) : zs.getD k 0 ∈ zs := by
  simp [List.getD, hk]

theorem take_snoc (P : List Int) (k : Nat) (hk : k < P.length) : P.take (k + 1) = P.take k ++ [P.getD k 0] := by
  rw [List.take_succ_eq_append_getElem hk]
  simp [List.getD, hk]

/-- A board as a value. -/
abbrev gdA (W H : Int) (a : Option Addr) (n c : Nat) : Array Value := #[.int .i64 W, .int .i64 H, .slice a n c]

/-- A board lies in a block. -/
def Gd (w : World) (b : Nat) (W H : Int) (a : Option Addr) (n c : Nat) : Prop := w.heap[b]? = some (.cells (gdA W H a n c) 24 (0, 0))

theorem Gd.cells {w : World} {b : Nat} {W H : Int} {a : Option Addr} {n c : Nat} (h : Gd w b W H a n c) : w.cell? ⟨b, 0, none⟩ = some (.int .i64 W) ∧ w.cell? ⟨b, 1, none⟩ = some (.int .i64 H) ∧ w.cell? ⟨b, 2, none⟩ = some (.slice a n c) := by
  have h' : w.heap[b]? = _ := h
  simp [World.cell?, h']

theorem Gd.frozen {w : World} {b : Nat} {W H : Int} {a : Option Addr} {n c : Nat} (h : Gd w b W H a n c) (i : Nat) : w.frozen? ⟨b, i, none⟩ = false := by
  have h' : w.heap[b]? = _ := h
  simp [World.frozen?, h']

theorem Gd.lt {w : World} {b : Nat} {W H : Int} {a : Option Addr} {n c : Nat} (h : Gd w b W H a n c) : b < w.heap.size := (Array.getElem?_eq_some_iff.1 h).1

theorem Gd.keeps {X : Nat → Prop} {w w' : World} {b : Nat} {W H : Int} {a : Option Addr} {n c : Nat} (h : Gd w b W H a n c) (hk : Keeps X w w') (hb : ¬ X b) : Gd w' b W H a n c :=
  (hk.block b h.lt hb).trans h

theorem Gd.below {w w' : World} {b C : Nat} {W H : Int} {a : Option Addr} {n c : Nat} (h : Gd w b W H a n c) (hk : Below C w w') (hb : b < C) : Gd w' b W H a n c := (hk.block b hb).trans h

theorem Gd.other {w : World} {b g : Nat} {W H : Int} {a : Option Addr} {n c : Nat} (h : Gd w b W H a n c) (hb : b ≠ g) (i : Nat) (v : Value) : Gd (w.setCell ⟨g, i, none⟩ v) b W H a n c := h.keeps (Keeps.set1 w g i v) hb

theorem Gd.setW {w : World} {b : Nat} {W H : Int} {a : Option Addr} {n c : Nat} (h : Gd w b W H a n c) (x : Int) : Gd (w.setCell ⟨b, 0, none⟩ (.int .i64 x)) b x H a n c := by
  have h' : w.heap[b]? = _ := h
  simp [Gd, World.setCell, Array.getElem?_modify, h']

theorem Gd.setH {w : World} {b : Nat} {W H : Int} {a : Option Addr} {n c : Nat} (h : Gd w b W H a n c) (x : Int) : Gd (w.setCell ⟨b, 1, none⟩ (.int .i64 x)) b W x a n c := by
  have h' : w.heap[b]? = _ := h
  simp [Gd, World.setCell, Array.getElem?_modify, h']

theorem Gd.setP {w : World} {b : Nat} {W H : Int} {a : Option Addr} {n c : Nat} (h : Gd w b W H a n c) (a' : Option Addr) (n' c' : Nat) : Gd (w.setCell ⟨b, 2, none⟩ (.slice a' n' c')) b W H a' n' c' := by
  have h' : w.heap[b]? = _ := h
  simp [Gd, World.setCell, Array.getElem?_modify, h']

theorem Gd.new (w : World) (W H : Int) (a : Option Addr) (n c : Nat) : Gd (w.alloc (.cells (gdA W H a n c) 24)) w.heap.size W H a n c := heap_alloc_new w _

theorem Gd.old {w : World} {b : Nat} {W H : Int} {a : Option Addr} {n c : Nat} (h : Gd w b W H a n c) (o : Obj) : Gd (w.alloc o) b W H a n c := (Below.heap_alloc w o b h.lt).trans h

theorem drewN_heap (w : World) (n : Nat) : (w.drewN n).heap = w.heap := by cases n <;> rfl

theorem Gd.drewN {w : World} {b : Nat} {W H : Int} {a : Option Addr} {n c : Nat} (h : Gd w b W H a n c) (m : Nat) : Gd (w.drewN m) b W H a n c := by unfold Gd; rw [drewN_heap]; exact h

theorem size24 : (Tryd.prog.info? 24).map (·.size) = some 3 := by kernel_rfl

theorem wpList_wanted {ops : Array Oper} {rest : List Oper} {o : Oper} {a : Act} {w : World} {Q : Exit → Act → World → Prop} (hw : Region.wanted o (yielded ops a.tmps) = true)
    (h : ∀ K : Act → World → Prop, (∀ a' w', wpList Tryd.prog ops Q rest a' w' → K a' w') → o.wp Tryd.prog a w K Q) : wpList Tryd.prog ops Q (o :: rest) a w :=
  wpList_step fun K hK => by simp only [hw, if_true]; exact h K hK

theorem wpList_load_gd {ops : Array Oper} {rest : List Oper} {op : Oper} {a : Act} {w : World} {Q : Exit → Act → World → Prop} (hw : Region.wanted op (yielded ops a.tmps) = true) (x : Operand) (ho : op.op = .load 24 x)
    (b : Nat) (hx : a.eval x = .pointer (some ⟨b, 0, none⟩)) {W H : Int} {ad : Option Addr} {n c : Nat} (hc : Gd w b W H ad n c)
    (h : wpList Tryd.prog ops Q rest (a.put op.dst (.agg (gdA W H ad n c))) w) : wpList Tryd.prog ops Q (op :: rest) a w :=
  wpList_wanted hw fun _ hK => wp_load_row 24 x ho b hx 24 _ (0, 0) _ hc Tryd.underlying24 rfl size24 (hK _ _ h)

theorem wpList_store_gd {ops : Array Oper} {rest : List Oper} {o : Oper} {a : Act} {w : World} {Q : Exit → Act → World → Prop} (hgd : o.guard = none) (x y : Operand) (ho : o.op = .store 24 x y)
    (b : Nat) {W H : Int} {ad : Option Addr} {n c : Nat} {W' H' : Int} {ad' : Option Addr} {n' c' : Nat} (hx : a.eval x = .pointer (some ⟨b, 0, none⟩)) (hy : a.eval y = .agg (gdA W H ad n c)) (hb : Gd w b W' H' ad' n' c')
    (h : ∀ w', Gd w' b W H ad n c → Keeps (fun k => k = b) w w' → wpList Tryd.prog ops Q rest (a.put o.dst undef) w') : wpList Tryd.prog ops Q (o :: rest) a w := by
  refine wpList_plain hgd fun _ hK => ?_
  have hb' : w.heap[b]? = _ := hb
  refine wp_store_row 24 x y ho b (gdA W H ad n c) hx hy 24 _ hb' size24 rfl (by simp [Value.oneCell']) ?_
  refine hK _ _ (h _ ?_ ?_)
  · simp [Gd, World.setRow, Array.getElem?_modify, hb']
  · exact ⟨rfl, rfl, rfl, by simp [World.setRow], fun k _ hk => by simp [World.setRow, Array.getElem?_modify, show ¬ b = k from fun e => hk e.symm]⟩

theorem results_gd {fn : Func} {t : Tmp} (h : fn.results = #[.cell t 24]) (tmps : Array Value) (w : World) (b : Nat) (hb : tmps.getD t undef = .pointer (some ⟨b, 0, none⟩)) {W H : Int} {ad : Option Addr} {n c : Nat} (hr : Gd w b W H ad n c) :
    (results fn tmps).run Tryd.prog w = .ok (.agg (gdA W H ad n c)) w :=
  results_cell_row h tmps w b 24 _ (0, 0) _ hb hr Tryd.underlying24 rfl size24

theorem Keeps.grown {b : Nat} {w w' : World} (h : Keeps (fun k => k = b) w w') : w.grownBy w' (some b) :=
  ⟨h.os, h.tape, h.output, h.size, fun i hi hne => h.block i hi (fun e => hne (by rw [e]))⟩

theorem own_keeps {w w' : World} {base b : Nat} {v : Value} {n : Nat} {xs : List Value} (h : w.ownsRow base 3 1 v n xs) (hk : Keeps (fun k => k = b) w w') (hb : b < base) : w'.ownsRow base 3 1 v n xs := by
  refine h.kept hk.grown (Or.inr ?_)
  intro e
  have := (h.lt b e).1
  omega

theorem own_base {w : World} {base base' : Nat} {v : Value} {n : Nat} {xs : List Value} (h : w.ownsRow base 3 1 v n xs) (hb : base' ≤ base) : w.ownsRow base' 3 1 v n xs := by
  refine ⟨h.1, ?_⟩
  rcases h.2 with h2 | ⟨g, cap, cur, h1, h2, h3⟩
  · exact Or.inl h2
  · exact Or.inr ⟨g, cap, cur, h1, by omega, h3⟩

set_option maxHeartbeats 4000000 in
theorem GridOf_own (W H : Int) (a : Option Addr) (n c : Nat) (zs : List Int) (w : World) (h : Rd w a n c zs) (hr : n * 8 ≤ 140737488351232) :
    Calls Tryd.prog 8 #[.agg (gdA W H a n c)] w fun e w' => ∃ a' c', e = .returned (.agg (gdA W H a' n c')) ∧ w'.ownsRow w.heap.size 3 1 (.slice a' n c') n (zs.map (Value.int .i64)) ∧ Below w.heap.size w w' := by
  go_enter Tryd.func8, Tryd.ntmps8
  go_upto_region 1 with fail
  obtain ⟨w1, hw1⟩ : ∃ w1, (w.alloc (Obj.cells (gdA W H a n c) 24)).alloc (Obj.cells #[.int .i64 0, .int .i64 0, .slice none 0 0] 24) = w1 := ⟨_, rfl⟩
  rw [hw1]
  have K1 : Gd w1 w.heap.size W H a n c := by rw [← hw1]; exact (Gd.new w W H a n c).old _
  have K2 : Gd w1 (w.heap.size + 1) 0 0 none 0 0 := by
    rw [← hw1]
    have := Gd.new (w.alloc (Obj.cells (gdA W H a n c) 24)) 0 0 none 0 0
    rw [World.size_alloc] at this
    exact this
  have hs1 : w1.heap.size = w.heap.size + 1 + 1 := by rw [← hw1]; simp
  have B1 : Below w.heap.size w w1 := by rw [← hw1]; exact ((Below.refl _ w).alloc (Nat.le_refl _) _).alloc (by simp) _
  clear hw1
  have HS := hide hs1
  have CALL := hide (ints_own a n c zs w1 (h.mono B1) hr)
  rw [hs1] at CALL
  clear hs1
  obtain ⟨-, -, g0⟩ := K1.cells
  go_wp2_with fail
  refine CALL.out.mono ?_
  rintro e w2 ⟨a', c', rfl, hO, hb⟩
  have K12 := K1.below (C := w.heap.size + 1 + 1) hb (by omega)
  have K22 := K2.below (C := w.heap.size + 1 + 1) hb (by omega)
  have B2 := B1.trans (hb.mono (by omega))
  clear K1 K2 B1 g0 CALL hb
  obtain ⟨-, -, g0⟩ := K12.cells
  have f0 := K12.frozen 2
  have HO := hide hO
  clear hO
  go_upto_region 2 with fail
  have K13 := K12.setP a' n c'
  have K23 := K22.other (show w.heap.size + 1 ≠ w.heap.size by omega) 2 (.slice a' n c')
  have B3 := B2.setCell (p := ⟨w.heap.size, 2, none⟩) (Nat.le_refl _) (.slice a' n c')
  have O3 := hide (own_keeps HO.out (Keeps.set1 w2 w.heap.size 2 (.slice a' n c')) (by omega))
  generalize w2.setCell ⟨w.heap.size, 2, none⟩ (.slice a' n c') = w3 at *
  clear K12 K22 B2 g0 f0 HO
  go_wp2_with (first
    | refine wpList_load_gd rfl (.tmp 1) rfl w.heap.size rfl K13 ?_
    | (refine wpList_store_gd rfl (.tmp 2) (.tmp 7) rfl (w.heap.size + 1) rfl rfl K23 ?_; intro w6 k6 kk6))
  refine bodyPost_ret (results_gd rfl _ _ (w.heap.size + 1) rfl k6) rfl ⟨a', c', rfl, ?_, ?_⟩
  · exact own_base (own_keeps O3.out kk6 (by omega)) (by omega)
  · exact B3.trans ((kk6.mono (Y := fun k => w.heap.size ≤ k) (fun k _ e => by omega)).below (by have := B3.size; omega) (fun k hk e => by omega))

end Go.Proofs.YticalbpohhpjaaaDoor
