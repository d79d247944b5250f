/-
  A game on a board of its own: what lies in memory; the signs at its open places, told. No conditions beyond those that each theorem bears.
-/
import Derived.Test.YthdnbbjehcicbaaDoorSMem
namespace Go.Proofs.YthdnbbjehcicbaaDoor
open Go.RowKit

/-- What does not change in a game. -/
structure Gp where
  (W H k n cc ol oc gb cb mb m0 : Nat)
  oa : Option Addr
  O : List Nat
  Z0 : List Int

structure Gp.Ok (g : Gp) : Prop where
  w : 1 ≤ g.W ∧ g.W ≤ 10
  h : 1 ≤ g.H ∧ g.H ≤ 10
  n : g.W * g.H = g.n
  k : 1 ≤ g.k ∧ g.k ≤ 10
  m : g.m0 = 1 ∨ g.m0 = 2
  z : g.Z0.length = g.n
  ol : g.O.length = g.ol
  o9 : g.ol ≤ 9
  nd : g.O.Nodup
  lt : ∀ p, p ∈ g.O → p < g.n
  gc : g.gb ≠ g.cb
  gm : g.gb ≠ g.mb
  cm : g.cb ≠ g.mb
  c0 : g.cb ≠ 0
  m1 : g.mb ≠ 0
  ob : ∀ b off, g.oa = some ⟨b, off, none⟩ → b ≠ g.cb ∧ b ≠ g.mb

theorem Gp.Ok.n100 {g : Gp} (h : g.Ok) : g.n ≤ 100 ∧ 0 < g.n := by
  have h1 : g.W * g.H ≤ 10 * 10 := Nat.mul_le_mul h.w.2 h.h.2
  have h2 : 1 * 1 ≤ g.W * g.H := Nat.mul_le_mul h.w.1 h.h.1
  have := h.n
  omega

abbrev Gp.cells (g : Gp) : Array Value := #[.int .i64 (g.W : Nat), .int .i64 (g.H : Nat), .slice (some ⟨g.cb, 0, none⟩) g.n g.cc, .int .i64 (g.k : Nat), .slice g.oa g.ol g.oc, .map (some g.mb)]

/-- The game in memory, its board being Z. -/
structure GS (g : Gp) (w : World) (Z : List Int) : Prop where
  blk : w.heap[g.gb]? = some (.cells g.cells 55 (0, 0))
  c : w.ownsRow 0 3 1 (.slice (some ⟨g.cb, 0, none⟩) g.n g.cc) g.n (Z.map (Value.int .i64))
  o : Rd w g.oa g.ol g.oc (toI g.O)
  m : Mp g.W g.H g.k g.O g.Z0 g.m0 w g.mb
  t : Tab w

def Gp.X (g : Gp) (i : Nat) : Prop := i = g.cb ∨ i = g.mb

theorem GS.lt {g : Gp} {w : World} {Z : List Int} (h : GS g w Z) : g.gb < w.heap.size ∧ g.cb < w.heap.size ∧ g.mb < w.heap.size := by
  refine ⟨(Array.getElem?_eq_some_iff.1 h.blk).1, ?_, h.m.lt⟩
  rcases h.c.2 with ⟨e, _⟩ | ⟨b, cap, cur, e, _, h2, _⟩
  · cases e
  · simp only [Value.slice.injEq, Option.some.injEq, Addr.mk.injEq] at e
    rw [e.1.1]
    exact (Array.getElem?_eq_some_iff.1 h2).1

theorem GS.cap {g : Gp} {w : World} {Z : List Int} (h : GS g w Z) : g.n ≤ g.cc ∧ g.cc ≤ maxLen ∧ Z.length = g.n := by
  refine ⟨?_, ?_, by simpa using h.c.1⟩
  all_goals
    rcases h.c.2 with ⟨e, _⟩ | ⟨b, cap, cur, e, _, _, h3, h4, _⟩
    · cases e
    · simp only [Value.slice.injEq] at e
      omega

theorem own_blk {w w' : World} {base e s n : Nat} {v : Value} {xs : List Value} (h : w.ownsRow base e s v n xs) (hb : ∀ g, v.ownBlock = some g → w'.heap[g]? = w.heap[g]?) : w'.ownsRow base e s v n xs := by
  refine ⟨h.1, ?_⟩
  rcases h.2 with h2 | ⟨g, cap, cur, rfl, h1, h2, h3⟩
  · exact Or.inl h2
  · exact Or.inr ⟨g, cap, cur, rfl, h1, (hb g rfl).trans h2, h3⟩

theorem Rd.keepsN {X : Nat → Prop} {w w' : World} {a n c zs} (h : Rd w a n c zs) (hb : Keeps X w w') (hX : 0 < n → ∀ b off, a = some ⟨b, off, none⟩ → ¬ X b) : Rd w' a n c zs := by
  refine ⟨h.len, h.cap, h.max, h.nil, fun hn => ?_⟩
  obtain ⟨b, off, rfl, hc⟩ := h.cells hn
  exact ⟨b, off, rfl, fun i hi => hb.cell (hc i hi) (hX hn b off rfl)⟩

theorem GS.keeps {g : Gp} {w w' : World} {Z : List Int} {X : Nat → Prop} (h : GS g w Z) (hk : Keeps X w w') (h1 : ¬ X g.gb) (h2 : ¬ X g.cb) (h3 : ¬ X g.mb) (h4 : ¬ X 0) (h5 : 0 < g.ol → ∀ b off, g.oa = some ⟨b, off, none⟩ → ¬ X b) : GS g w' Z :=
  ⟨(hk.block _ h.lt.1 h1).trans h.blk, own_blk h.c (fun b hb => by simp only [Value.ownBlock, Option.some.injEq] at hb; rw [← hb]; exact hk.block _ h.lt.2.1 h2), h.o.keepsN hk h5, h.m.keeps hk h3, h.t.keeps hk h4⟩

theorem Rd.blt {w : World} {b off n c : Nat} {zs : List Int} (h : Rd w (some ⟨b, off, none⟩) n c zs) (hn : 0 < n) : b < w.heap.size := World.block_lt_of_cell? w _ (h.cell hn).2

theorem GS.grow {g : Gp} {w w' : World} {Z : List Int} (h : GS g w Z) (hb : Below w.heap.size w w') : GS g w' Z :=
  ⟨(hb.block _ h.lt.1).trans h.blk, own_below h.c hb, h.o.mono hb, h.m.below hb h.lt.2.2, h.t.mono hb⟩

theorem GS.set {g : Gp} {w : World} {Z : List Int} (hg : g.Ok) (h : GS g w Z) (p : Nat) (x : Int) : GS g (w.setCell ⟨g.cb, p, none⟩ (.int .i64 x)) (Z.set p x) := by
  have hk := Keeps.set1 w g.cb p (.int .i64 x)
  refine ⟨(hk.block _ h.lt.1 hg.gc).trans h.blk, ?_, h.o.keeps hk (fun b off e => (hg.ob b off e).1), h.m.keeps hk (fun e => hg.cm e.symm), h.t.keeps hk (fun e => hg.c0 e.symm)⟩
  have := (World.ownsRow.stored h.c p (.int .i64 x)).1
  rwa [← List.map_set] at this

theorem GS.fields {g : Gp} {w : World} {Z : List Int} (h : GS g w Z) : w.cell? ⟨g.gb, 0, none⟩ = some (.int .i64 (g.W : Nat)) ∧ w.cell? ⟨g.gb, 1, none⟩ = some (.int .i64 (g.H : Nat)) ∧ w.cell? ⟨g.gb, 2, none⟩ = some (.slice (some ⟨g.cb, 0, none⟩) g.n g.cc) ∧ w.cell? ⟨g.gb, 3, none⟩ = some (.int .i64 (g.k : Nat)) ∧ w.cell? ⟨g.gb, 4, none⟩ = some (.slice g.oa g.ol g.oc) ∧ w.cell? ⟨g.gb, 5, none⟩ = some (.map (some g.mb)) := by
  have h' := h.blk
  simp [World.cell?, h']

theorem GS.cell {g : Gp} {w : World} {Z : List Int} (h : GS g w Z) {p : Nat} (hp : p < g.n) : w.cell? ⟨g.cb, p, none⟩ = some (.int .i64 (Z.getD p 0)) ∧ w.frozen? ⟨g.cb, p, none⟩ = false := by
  refine ⟨?_, World.ownsRow.frozenAt h.c p⟩
  have hl := h.cap.2.2
  rw [World.ownsRow.cellAt h.c p (by omega)]
  simp [List.getD, hl, hp]

theorem GS.range {g : Gp} {w : World} {Z : List Int} (h : GS g w Z) : w.rangeAt g.gb 0 [.int .i64 (g.W : Nat), .int .i64 (g.H : Nat), .slice (some ⟨g.cb, 0, none⟩) g.n g.cc] := by
  intro j v hv
  obtain ⟨h0, h1, h2, _⟩ := h.fields
  rw [Nat.zero_add]
  match j, hv with
  | 0, hv => rw [h0]; exact hv
  | 1, hv => rw [h1]; exact hv
  | 2, hv => rw [h2]; exact hv
  | j + 3, hv => simp at hv

theorem GS.rd {g : Gp} {w : World} {Z : List Int} (h : GS g w Z) : Rd w (some ⟨g.cb, 0, none⟩) g.n g.cc Z := Rd.of_own h.c

theorem size115 : (Tryd.prog.info? 115).map (·.size) = some 9 := by kernel_rfl

/-- The first i signs, then zeros. -/
def kyp (O : List Nat) (Z : List Int) (i : Nat) : List Int := ((O.take i).map fun p => Z.getD p 0) ++ List.replicate (9 - i) 0

theorem kyp_zero (O : List Nat) (Z : List Int) : kyp O Z 0 = List.replicate 9 0 := rfl

theorem kyp_len {O : List Nat} {Z : List Int} {i : Nat} (hi : i ≤ O.length) (h9 : O.length ≤ 9) : (kyp O Z i).length = 9 := by
  simp [kyp]; omega

theorem kyp_all {O : List Nat} {Z : List Int} : kyp O Z O.length = ky O Z := by
  unfold kyp ky
  rw [List.take_length]

theorem kyp_set {O : List Nat} {Z : List Int} {i : Nat} (hi : i < O.length) (h9 : O.length ≤ 9) : (kyp O Z i).set i (Z.getD (O.getD i 0) 0) = kyp O Z (i + 1) := by
  unfold kyp
  have hl : ((O.take i).map fun p => Z.getD p 0).length = i := by simp; omega
  rw [List.set_append_right _ _ (by omega), hl, Nat.sub_self, List.take_succ_eq_append_getElem hi, List.map_append, List.append_assoc]
  congr 1
  obtain ⟨d, hd⟩ : ∃ d, 9 - i = d + 1 := ⟨9 - i - 1, by omega⟩
  rw [hd, show 9 - (i + 1) = d by omega, List.replicate_succ, List.set_cons_zero]
  simp [List.getD, hi]

attribute [local irreducible] kyp ky

theorem wpList_store_ky {ops : Array Oper} {rest : List Oper} {o : Oper} {a : Act} {w : World} {Q : Exit → Act → World → Prop} (hgd : o.guard = none) (x y : Operand) (ho : o.op = .store 115 x y)
    (b : Nat) (S T : List Int) (hS : S.length = 9) (hT : T.length = 9) (hx : a.eval x = .pointer (some ⟨b, 0, none⟩)) (hy : a.eval y = .agg (ivs S).toArray) (hb : Blk w b 115 T)
    (h : ∀ w', Blk w' b 115 S → Keeps (fun k => k = b) w w' → wpList Tryd.prog ops Q rest (a.put o.dst undef) w') : wpList Tryd.prog ops Q (o :: rest) a w := by
  refine wpList_plain hgd fun _ hK => ?_
  have hb' : w.heap[b]? = _ := hb
  refine wp_store_row 115 x y ho b (ivs S).toArray hx hy 115 _ hb' (by rw [List.size_toArray, ivs_length, hS]; exact size115) (by simp [ivs_length, hS, hT]) (ivs_one S) ?_
  refine hK _ _ (h _ ?_ ?_)
  · have hTl : (ivs T).length = 9 := by rw [ivs_length, hT]
    simp [Blk, World.setRow, Array.getElem?_modify, hb']
  · exact ⟨rfl, rfl, rfl, by simp [World.setRow], fun k _ hk => by simp [World.setRow, Array.getElem?_modify, show ¬ b = k from fun e => hk e.symm]⟩

theorem results_ky {fn : Func} {u : Tmp} (h : fn.results = #[.cell u 115]) (tmps : Array Value) (w : World) (b : Nat) (hb : tmps.getD u undef = .pointer (some ⟨b, 0, none⟩)) (S : List Int) (hS : S.length = 9) (hr : Blk w b 115 S) :
    (results fn tmps).run Tryd.prog w = .ok (.agg (ivs S).toArray) w :=
  results_cell_row h tmps w b 115 _ (0, 0) _ hb hr Tryd.underlying115 rfl (by rw [List.size_toArray, ivs_length, hS]; exact size115)

def z9 : List Int := List.replicate 9 0

set_option maxRecDepth 100000 in
set_option maxHeartbeats 4000000 in
theorem laid_any (g : Gp) (hg : g.Ok) (Z : List Int) (w : World) (h : GS g w Z) :
    Calls Tryd.prog 76 #[.agg (gdA g.W g.H (some ⟨g.cb, 0, none⟩) g.n g.cc), .slice g.oa g.ol g.oc] w fun e w' => e = .returned (.agg (ivs (ky g.O Z)).toArray) ∧ Below w.heap.size w w' := by
  obtain ⟨w0, hw0⟩ : ∃ w0, w.alloc (.cells (gdA g.W g.H (some ⟨g.cb, 0, none⟩) g.n g.cc) 24) = w0 := ⟨_, rfl⟩
  have D0 : Gd w0 w.heap.size g.W g.H (some ⟨g.cb, 0, none⟩) g.n g.cc := by rw [← hw0]; exact Gd.new w _ _ _ _ _
  have B0 : Below w.heap.size w w0 := by rw [← hw0]; exact (Below.refl _ w).alloc (Nat.le_refl _) _
  have hs0 : w0.heap.size = w.heap.size + 1 := by rw [← hw0, World.size_alloc]
  obtain ⟨w1, hw1⟩ : ∃ w1, (w0.alloc (.cells (ivs z9).toArray 115)).alloc (.cells (ivs z9).toArray 115) = w1 := ⟨_, rfl⟩
  have B01 : Below w0.heap.size w0 w1 := by rw [← hw1]; exact ((Below.refl _ w0).alloc (Nat.le_refl _) _).alloc (by simp) _
  have B1 : Below w.heap.size w w1 := B0.trans (B01.mono (by omega))
  have D1 : Gd w1 w.heap.size g.W g.H (some ⟨g.cb, 0, none⟩) g.n g.cc := D0.below B01 (by omega)
  have R1 : Blk w1 (w.heap.size + 1) 115 z9 := by rw [← hw1, ← hs0]; exact (Blk.new w0 115 z9 _ rfl).old _
  have L1 : Blk w1 (w.heap.size + 1 + 1) 115 z9 := by
    rw [← hw1, ← hs0]
    have := Blk.new (w0.alloc (.cells (ivs z9).toArray 115)) 115 z9 _ rfl
    rw [World.size_alloc] at this
    exact this
  have hz9 : Hid ((ivs z9).toArray = #[.int .i64 0, .int .i64 0, .int .i64 0, .int .i64 0, .int .i64 0, .int .i64 0, .int .i64 0, .int .i64 0, .int .i64 0]) := hide rfl
  rw [hz9.out] at hw1
  have hol := hg.ol
  have ho9 := hg.o9
  have hn := hg.n100
  have hcap := h.cap
  have hcm := hcap.2.1
  unfold maxLen at hcm
  have hcn := hcap.1
  have hom := h.o.max
  unfold maxLen at hom
  have hoc := h.o.cap
  obtain ⟨hl1, hl2, hl3⟩ := h.lt
  have HG := hide hg
  have HH := hide (h.grow B1)
  have HB1 := hide B1
  have HD1 := hide D1
  have HR1 := hide R1
  have HL1 : Hid (Blk w1 (w.heap.size + 1 + 1) 115 (kyp g.O Z 0)) := hide (by rw [kyp_zero]; exact L1)
  have HOL := hide hol
  have HOO := hide h.o
  rw [← hw0] at hw1
  clear hg h B1 R1 L1 hol hcap D0 D1 B0 B01 hs0 hw0
  go_enter Tryd.func76, Tryd.ntmps76
  go_upto_region 2 with fail
  clear hw1
  go_wp2_with fail
  go_loopw [10] (fun v wr => ∃ i : Nat, v = .int .i64 i ∧ i ≤ g.ol ∧ Hid (Blk wr (w.heap.size + 1 + 1) 115 (kyp g.O Z i)) ∧ Hid (Keeps (fun q => q = w.heap.size + 1 + 1) w1 wr)) (fun v _ => g.ol - (intOf v).toNat)
  case atStart => exact ⟨0, rfl, by omega, HL1, hide (Keeps.refl _ _)⟩
  case round =>
    obtain ⟨i, rfl, hi, hL, hK⟩ := hrel
    clear HL1
    have hGw : GS g wr Z := HH.out.keeps hK.out (by omega) (by omega) (by omega) (by omega) (fun h0 b off e hb => by
      have hO := HOO.out
      rw [e] at hO
      have := hO.blt h0
      omega)
    have f2 := (HD1.out.keeps hK.out (by omega)).cells.2.2
    by_cases hlt : i < g.ol
    · have hlt' : (i : Int) < (g.ol : Int) := by omega
      obtain ⟨ob, oo, eo, hoc2⟩ := hGw.o.cells (by omega)
      have co := hoc2 i hlt
      have hOi : i < g.O.length := by rw [HOL.out]; exact hlt
      rw [show (toI g.O).getD i 0 = ((g.O.getD i 0 : Nat) : Int) by simp [toI, List.getD, hOi]] at co
      have hpn : g.O.getD i 0 < g.n := HG.out.lt _ (by simp [List.getD, hOi])
      have HKS := hide (kyp_set (Z := Z) hOi (by rw [HOL.out]; exact ho9))
      obtain ⟨p, hp⟩ : ∃ p, g.O.getD i 0 = p := ⟨_, rfl⟩
      rw [hp] at co hpn HKS
      obtain ⟨cz, -⟩ := hGw.cell hpn
      obtain ⟨z, hz⟩ : ∃ z, Z.getD p 0 = z := ⟨_, rfl⟩
      rw [hz] at cz HKS
      have cL := hL.out.cell (i := i) (by rw [kyp_len (by omega) (by rw [HOL.out]; exact ho9)]; omega)
      have fL := hL.out.frozen i
      have HLN : Hid (Blk (wr.setCell ⟨w.heap.size + 1 + 1, i, none⟩ (.int .i64 z)) (w.heap.size + 1 + 1) 115 (kyp g.O Z (i + 1))) := hide (by rw [← HKS.out]; exact hL.out.set i z)
      have HKN : Hid (Keeps (fun q => q = w.heap.size + 1 + 1) w1 (wr.setCell ⟨w.heap.size + 1 + 1, i, none⟩ (.int .i64 z))) := hide (hK.out.setCell (X := fun q => q = w.heap.size + 1 + 1) rfl _)
      have hi9 : (i : Int) < 9 := by omega
      rw [eo]
      clear hp hz hL hK hGw hoc2
      go_wp2_with fail
      exact ⟨⟨i + 1, by go_num, by omega, HLN, HKN⟩, by simp [intOf]; omega⟩
    · have hlt' : ¬ (i : Int) < (g.ol : Int) := by omega
      have hie : i = g.ol := by omega
      have hLk : Blk wr (w.heap.size + 1 + 1) 115 (ky g.O Z) := by rw [← kyp_all, HOL.out, ← hie]; exact hL.out
      have hRk : Blk wr (w.heap.size + 1) 115 z9 := HR1.out.keeps hK.out (by omega)
      have HKL := hide (ky_len (O := g.O) (by rw [HOL.out]; exact ho9) Z)
      have hr := hLk.range
      clear hie hGw
      go_wp2_with (first
        | refine wpList_load_mid rfl 115 _ rfl (w.heap.size + 1 + 1) 0 rfl (ivs (ky g.O Z)) _ hr Tryd.underlying115 rfl (by rw [ivs_length, HKL.out]; exact size115) ?_
        | (refine wpList_store_ky rfl _ _ rfl (w.heap.size + 1) (ky g.O Z) z9 HKL.out rfl rfl rfl hRk ?_; intro w6 k6 kk6))
      refine bodyPost_ret (results_ky rfl _ _ (w.heap.size + 1) rfl _ HKL.out k6) rfl ⟨rfl, ?_⟩
      exact HB1.out.trans (((hK.out.mono (Y := fun q => w.heap.size ≤ q) (fun q _ e => by omega)).trans (kk6.mono (fun q _ e => by omega))).below (by have := HB1.out.size; omega) (fun q hq e => by omega))

end Go.Proofs.YthdnbbjehcicbaaDoor
