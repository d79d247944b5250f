/-
  A board as its mover sees it, in memory; where the mover may put a sign, walked. No conditions beyond those that each theorem bears.
-/
import Derived.Test.YtkmghlmniahgbaaDoorOs
import Derived.Test.YtkmghlmniahgbaaDoorBw
import Derived.Test.YtkmghlmniahgbaaDoorRound
import Derived.Deep.LoopGhost
namespace Go.Proofs.YtkmghlmniahgbaaDoor
open Go.RowKit

/-- The table of directions. -/
def dirV : List Value := [.int .i64 (shi 0), .int .u64 (mks 0 : Nat), .int .i64 (shi 1), .int .u64 (mks 1 : Nat), .int .i64 (shi 2), .int .u64 (mks 2 : Nat), .int .i64 (shi 3), .int .u64 (mks 3 : Nat), .int .i64 (shi 4), .int .u64 (mks 4 : Nat), .int .i64 (shi 5), .int .u64 (mks 5 : Nat), .int .i64 (shi 6), .int .u64 (mks 6 : Nat), .int .i64 (shi 7), .int .u64 (mks 7 : Nat)]

/-- It lies so in memory. -/
def DTab (w : World) : Prop := w.rangeAt 0 0 dirV

theorem DTab.lt {w : World} (h : DTab w) : 0 < w.heap.size := World.block_lt_of_cell? w _ (h 0 _ rfl)
theorem DTab.below {w w' : World} {B : Nat} (h : DTab w) (hb : Below B w w') (hB : 0 < B) : DTab w' := fun j v hv => by
  have := h j v hv
  rw [Nat.zero_add] at this ⊢
  exact (hb.cell (p := ⟨0, j, none⟩) hB).trans this
theorem DTab.mono {w w' : World} (h : DTab w) (hb : Below w.heap.size w w') : DTab w' := h.below hb h.lt
theorem DTab.keeps {X : Nat → Prop} {w w' : World} (h : DTab w) (hk : Keeps X w w') (hX : ¬ X 0) : DTab w' := fun j v hv => hk.cell (h j v hv) hX

theorem size74 : (Tryd.prog.info? 74).map (·.size) = some 16 := by kernel_rfl
theorem size73 : (Tryd.prog.info? 73).map (·.size) = some 2 := by kernel_rfl
theorem size55 : (Tryd.prog.info? 55).map (·.size) = some 3 := by kernel_rfl

theorem run_dir (k : Nat) (hk : k < 8) (w : World) : (Instr.index 74 (.agg dirV.toArray) (.int .i64 k)).run Tryd.prog w = .ok (.agg (dirA k)) w := by
  match k, hk with
  | 0, _ => simp [Instr.index, Tryd.underlying74, run_underlying, asIntOf, part, go_sem, dirV]
  | 1, _ => simp [Instr.index, Tryd.underlying74, run_underlying, asIntOf, part, go_sem, dirV]
  | 2, _ => simp [Instr.index, Tryd.underlying74, run_underlying, asIntOf, part, go_sem, dirV]
  | 3, _ => simp [Instr.index, Tryd.underlying74, run_underlying, asIntOf, part, go_sem, dirV]
  | 4, _ => simp [Instr.index, Tryd.underlying74, run_underlying, asIntOf, part, go_sem, dirV]
  | 5, _ => simp [Instr.index, Tryd.underlying74, run_underlying, asIntOf, part, go_sem, dirV]
  | 6, _ => simp [Instr.index, Tryd.underlying74, run_underlying, asIntOf, part, go_sem, dirV]
  | 7, _ => simp [Instr.index, Tryd.underlying74, run_underlying, asIntOf, part, go_sem, dirV]

/-- A board as a value. -/
abbrev bdA (o t e : Nat) : Array Value := #[.int .u64 (o : Nat), .int .u64 (t : Nat), .int .u64 (e : Nat)]

/-- A board lies in a block. -/
def Bd (w : World) (b : Nat) (o t e : Nat) : Prop := w.heap[b]? = some (.cells (bdA o t e) 55 (0, 0))

theorem Bd.cells {w : World} {b o t e : Nat} (h : Bd w b o t e) : w.cell? ⟨b, 0, none⟩ = some (.int .u64 (o : Nat)) ∧ w.cell? ⟨b, 1, none⟩ = some (.int .u64 (t : Nat)) ∧ w.cell? ⟨b, 2, none⟩ = some (.int .u64 (e : Nat)) := by
  have h' : w.heap[b]? = _ := h
  simp [World.cell?, h']
theorem Bd.frozen {w : World} {b o t e : Nat} (h : Bd w b o t e) (i : Nat) : w.frozen? ⟨b, i, none⟩ = false := by
  have h' : w.heap[b]? = _ := h
  simp [World.frozen?, h']
theorem Bd.lt {w : World} {b o t e : Nat} (h : Bd w b o t e) : b < w.heap.size := (Array.getElem?_eq_some_iff.1 h).1
theorem Bd.keeps {X : Nat → Prop} {w w' : World} {b o t e : Nat} (h : Bd w b o t e) (hk : Keeps X w w') (hb : ¬ X b) : Bd w' b o t e := (hk.block b h.lt hb).trans h
theorem Bd.below {w w' : World} {b C o t e : Nat} (h : Bd w b o t e) (hk : Below C w w') (hb : b < C) : Bd w' b o t e := (hk.block b hb).trans h
theorem Bd.other {w : World} {b g o t e : Nat} (h : Bd w b o t e) (hb : b ≠ g) (i : Nat) (v : Value) : Bd (w.setCell ⟨g, i, none⟩ v) b o t e := h.keeps (Keeps.set1 w g i v) hb
theorem Bd.new (w : World) (o t e : Nat) : Bd (w.alloc (.cells (bdA o t e) 55)) w.heap.size o t e := heap_alloc_new w _
theorem Bd.old {w : World} {b o t e : Nat} (h : Bd w b o t e) (ob : Obj) : Bd (w.alloc ob) b o t e := (Below.heap_alloc w ob b h.lt).trans h
theorem Bd.range {w : World} {b o t e : Nat} (h : Bd w b o t e) : w.rangeAt b 0 [.int .u64 (o : Nat), .int .u64 (t : Nat), .int .u64 (e : Nat)] := by
  intro j v hv
  obtain ⟨h0, h1, h2⟩ := h.cells
  rw [Nat.zero_add]
  match j, hv with
  | 0, hv => rw [h0]; exact hv
  | 1, hv => rw [h1]; exact hv
  | 2, hv => rw [h2]; exact hv
  | j + 3, hv => simp at hv

theorem wpList_load_bd {ops : Array Oper} {rest : List Oper} {op : Oper} {a : Act} {w : World} {Q : Exit → Act → World → Prop} (hw : Region.wanted op (yielded ops a.tmps) = true) (x : Operand) (ho : op.op = .load 55 x)
    (b : Nat) (hx : a.eval x = .pointer (some ⟨b, 0, none⟩)) {o t e : Nat} (hc : Bd w b o t e)
    (h : wpList Tryd.prog ops Q rest (a.put op.dst (.agg (bdA o t e))) w) : wpList Tryd.prog ops Q (op :: rest) a w :=
  wpList_wanted hw fun _ hK => wp_load_row 55 x ho b hx 55 _ (0, 0) _ hc Tryd.underlying55 rfl size55 (hK _ _ h)

theorem wpList_store_bd {ops : Array Oper} {rest : List Oper} {op : Oper} {a : Act} {w : World} {Q : Exit → Act → World → Prop} (hgd : op.guard = none) (x y : Operand) (ho : op.op = .store 55 x y)
    (b : Nat) {o t e o' t' e' : Nat} (hx : a.eval x = .pointer (some ⟨b, 0, none⟩)) (hy : a.eval y = .agg (bdA o t e)) (hb : Bd w b o' t' e')
    (h : ∀ w', Bd w' b o t e → Keeps (fun k => k = b) w w' → wpList Tryd.prog ops Q rest (a.put op.dst undef) w') : wpList Tryd.prog ops Q (op :: rest) a w := by
  refine wpList_plain hgd fun _ hK => ?_
  have hb' : w.heap[b]? = _ := hb
  refine wp_store_row 55 x y ho b (bdA o t e) hx hy 55 _ hb' size55 rfl (by simp [Value.oneCell']) ?_
  refine hK _ _ (h _ ?_ ?_)
  · simp [Bd, World.setRow, Array.getElem?_modify, hb']
  · exact ⟨rfl, rfl, rfl, by simp [World.setRow], fun k _ hk => by simp [World.setRow, Array.getElem?_modify, show ¬ b = k from fun e => hk e.symm]⟩

theorem results_bd {fn : Func} {t : Tmp} (h : fn.results = #[.cell t 55]) (tmps : Array Value) (w : World) (b : Nat) (hb : tmps.getD t undef = .pointer (some ⟨b, 0, none⟩)) {o p e : Nat} (hr : Bd w b o p e) :
    (results fn tmps).run Tryd.prog w = .ok (.agg (bdA o p e)) w :=
  results_cell_row h tmps w b 55 _ (0, 0) _ hb hr Tryd.underlying55 rfl size55

/-- A direction lies in a block. -/
def Dr (w : World) (b d : Nat) : Prop := w.heap[b]? = some (.cells (dirA d) 73 (0, 0))

theorem Dr.lt {w : World} {b d : Nat} (h : Dr w b d) : b < w.heap.size := (Array.getElem?_eq_some_iff.1 h).1
theorem Dr.below {w w' : World} {b C d : Nat} (h : Dr w b d) (hk : Below C w w') (hb : b < C) : Dr w' b d := (hk.block b hb).trans h
theorem Dr.new (w : World) (d : Nat) : Dr (w.alloc (.cells (dirA d) 73)) w.heap.size d := heap_alloc_new w _
theorem Dr.range {w : World} {b d : Nat} (h : Dr w b d) : w.rangeAt b 0 [.int .i64 (shi d), .int .u64 (mks d : Nat)] := by
  intro j v hv
  have h' : w.heap[b]? = _ := h
  rw [Nat.zero_add]
  match j, hv with
  | 0, hv => simp [World.cell?, h'] at hv ⊢; exact hv
  | 1, hv => simp [World.cell?, h'] at hv ⊢; exact hv
  | j + 2, hv => simp at hv

theorem wpList_load_dr {ops : Array Oper} {rest : List Oper} {op : Oper} {a : Act} {w : World} {Q : Exit → Act → World → Prop} (hw : Region.wanted op (yielded ops a.tmps) = true) (x : Operand) (ho : op.op = .load 73 x)
    (b : Nat) (hx : a.eval x = .pointer (some ⟨b, 0, none⟩)) {d : Nat} (hc : Dr w b d)
    (h : wpList Tryd.prog ops Q rest (a.put op.dst (.agg (dirA d))) w) : wpList Tryd.prog ops Q (op :: rest) a w :=
  wpList_wanted hw fun _ hK => wp_load_row 73 x ho b hx 73 _ (0, 0) _ hc Tryd.underlying73 rfl size73 (hK _ _ h)

theorem u64_ne {r : Nat} (h : r ≠ 0) : ((r : Int) != 0) = true := by simp; omega

attribute [local irreducible] stp shi mks

set_option maxRecDepth 100000 in
set_option maxHeartbeats 4000000 in
theorem moves_raw (c : Int → Int → Int) (m o t e : Nat) (hc : OnC c) (hm : m = 1 ∨ m = 2) (ho : o < 2 ^ 64) (ht : t < 2 ^ 64) (he : e < 2 ^ 64) (hbo : ∀ x y, bt o x y = true ↔ c x y = (m : Int)) (hbt : ∀ x y, bt t x y = true ↔ c x y = 3 - (m : Int)) (hbe : ∀ x y, bt e x y = true ↔ c x y = 0) (w : World) (hT : DTab w) :
    Calls Tryd.prog 31 #[.agg (bdA o t e)] w fun r w' => ∃ f, r = .returned (.int .u64 (f : Nat)) ∧ FndI c m 8 1 f ∧ Below w.heap.size w w' := by
  have HT := hide hT
  have HSTEP := hide (fun d p (hd : d < 8) (hp : p < 2 ^ 64) W => step_any d p hd hp W)
  have HSTART := hide (fun d (hd : d < 8) => row_start (d := d) hc hm hd ho hbo hbt)
  have HNEXT := hide (fun d i r (hd : d < 8) h => row_next (c := c) (m := m) (d := d) (i := i) (r := r) hc hm hd hbt h)
  have HLEN := hide (fun d i r (hd : d < 8) hi h hr => row_len (c := c) (m := m) (d := d) (i := i) (r := r) hc hm hd hi h hr)
  have HFN := hide (fun d i r f (hd : d < 8) hi h hf => fnd_next (c := c) (m := m) (d := d) (i := i) (r := r) (f := f) hc hd hi hbe h hf)
  have HEND := hide (fun d i f h hf => fnd_end (c := c) (m := m) (d := d) (i := i) (f := f) h hf)
  have HO := hide ho
  have HTT := hide ht
  have HE := hide he
  have HSL := hide stp_lt
  clear hT hc hm ho ht he hbo hbt hbe
  go_enter Tryd.func31, Tryd.ntmps31
  go_upto_region 1 with fail
  obtain ⟨w1, hw1⟩ : ∃ w1, w.alloc (.cells (bdA o t e) 55) = w1 := ⟨_, rfl⟩
  have HB0 : Hid (Below w.heap.size w w1) := hide (by rw [← hw1]; exact (Below.refl _ _).alloc (Nat.le_refl _) _)
  have HBD : Hid (Bd w1 w.heap.size o t e) := hide (by rw [← hw1]; exact Bd.new w o t e)
  have HR0 := HT.out.mono HB0.out
  have hs1 : w.heap.size < w1.heap.size := HBD.out.lt
  rw [hw1]
  clear hw1
  go_wp2_with (refine wpList_load_mid rfl 74 _ rfl 0 0 rfl dirV _ HR0 Tryd.underlying74 rfl size74 ?_)
  clear HR0
  go_loopw [3, 8] (fun u v wr => ∃ j f : Nat, v = .int .i64 j ∧ u = .int .u64 f ∧ j ≤ 8 ∧ Hid (FndI c m j 1 f) ∧ Hid (Below w1.heap.size w1 wr)) (fun _ v _ => 8 - (intOf v).toNat)
  case atStart => exact ⟨0, 0, rfl, rfl, by omega, hide (fnd_start _ _), hide (Below.refl _ _)⟩
  case round =>
    obtain ⟨j, f, rfl, rfl, hj8, hF, hB⟩ := hrel
    by_cases hj : j < 8
    · have hj' : (j : Int) < 8 := by omega
      have hidx := run_dir j hj
      obtain ⟨W0, hW0⟩ : ∃ W0, wr.alloc (.cells (dirA j) 73) = W0 := ⟨_, rfl⟩
      obtain ⟨db, hdb⟩ : ∃ db, wr.heap.size = db := ⟨_, rfl⟩
      have HDB : Hid (Dr W0 db j) := hide (by rw [← hW0, ← hdb]; exact Dr.new wr j)
      have HBB : Hid (Bd W0 w.heap.size o t e) := hide (by rw [← hW0]; exact (HBD.out.below hB.out hs1).old _)
      have HBW : Hid (Below w1.heap.size w1 W0) := hide (by rw [← hW0]; exact hB.out.alloc hB.out.size _)
      have HC := hide (fun p hp W => HSTEP.out j p hj hp W)
      obtain ⟨s0, hs0⟩ : ∃ s0, stp j o = s0 := ⟨_, rfl⟩
      obtain ⟨r0, hr0⟩ : ∃ r0, s0 &&& t = r0 := ⟨_, rfl⟩
      have HRS : Hid (RowI c m (dxs j) (dys j) 1 r0) := hide (by rw [← hr0, ← hs0]; exact HSTART.out j hj)
      have HC0 := hide (fun W => HC.out o HO.out W)
      rw [hs0] at HC0
      have ea : bits BinOp.and IntKind.u64 (s0 : Int) (t : Int) = (r0 : Int) := by
        rw [u64_and_nat _ _ (by rw [← p64, ← hs0]; exact HSL.out j o hj) (by rw [← p64]; exact HTT.out), hr0]
      have HJ := hide hj
      clear hs0 hr0 hB
      go_upto_region 5 with fail
      clear hW0 hdb hidx
      have HFC : Hid (∀ W4, Below W0.heap.size W0 W4 → W4.cell? ⟨w.heap.size, 0, none⟩ = some (.int .u64 (o : Nat)) ∧ W4.cell? ⟨w.heap.size, 1, none⟩ = some (.int .u64 (t : Nat))) := hide (fun W4 hb => ⟨(HBB.out.below hb HBB.out.lt).cells.1, (HBB.out.below hb HBB.out.lt).cells.2.1⟩)
      have HDR : Hid (∀ W4, Below W0.heap.size W0 W4 → W4.rangeAt db 0 [.int .i64 (shi j), .int .u64 (mks j : Nat)]) := hide (fun W4 hb => (HDB.out.below hb HDB.out.lt).range)
      refine wp_region_held (S := fun W4 => Below W0.heap.size W0 W4) (by kernel_rfl) ?_
      change wpAnyH _ _ _ _ _ _ _ _ (World.drew _)
      have SW : Below W0.heap.size W0 W0.drew := (Below.refl _ W0).drew
      refine wpAnyH_take (i := 0) (v := .agg (dirA j)) rfl (by kernel_rfl) (by kernel_rfl) (by kernel_rfl) (fun _ _ _ h => h) (yieldsIf_load_mid (by rfl) 73 _ rfl db 0 (by rfl) [.int .i64 (shi j), .int .u64 (mks j : Nat)] _ (fun W hW => HDR.out W hW) Tryd.underlying73 rfl size73) SW ?_
      go_simp
      refine wpAnyH_take (i := 1) (v := .pointer (some ⟨w.heap.size, 0, none⟩)) rfl (by kernel_rfl) (by kernel_rfl) (by kernel_rfl) (fun _ _ _ h => h) (Or.inl ⟨by rfl, ?_⟩) SW ?_
      · intro W4 hW4
        go_simp <;> first | done | rfl | (rw [IntKind.wrap_i64]; omega) | omega
      go_simp
      refine wpAnyH_take (i := 2) (v := .int .u64 (o : Nat)) rfl (by kernel_rfl) (by kernel_rfl) (by kernel_rfl) (fun _ _ _ h => h) (Or.inl ⟨by rfl, ?_⟩) SW ?_
      · intro W4 hW4
        obtain ⟨x0, x1⟩ := HFC.out W4 hW4
        go_simp <;> first | done | rfl | (rw [IntKind.wrap_i64]; omega) | omega
      go_simp
      refine wpAnyH_take (i := 4) (v := .pointer (some ⟨w.heap.size, 1, none⟩)) rfl (by kernel_rfl) (by kernel_rfl) (by kernel_rfl) (fun _ _ _ h => h) (Or.inl ⟨by rfl, ?_⟩) SW ?_
      · intro W4 hW4
        go_simp <;> first | done | rfl | (rw [IntKind.wrap_i64]; omega) | omega
      go_simp
      refine wpAnyH_take (i := 5) (v := .int .u64 (t : Nat)) rfl (by kernel_rfl) (by kernel_rfl) (by kernel_rfl) (fun _ _ _ h => h) (Or.inl ⟨by rfl, ?_⟩) SW ?_
      · intro W4 hW4
        obtain ⟨x0, x1⟩ := HFC.out W4 hW4
        go_simp <;> first | done | rfl | (rw [IntKind.wrap_i64]; omega) | omega
      go_simp
      refine wpAnyH_ready (rs := [3]) (by kernel_rfl) (by simp) ?_
      refine AllReadyH.cons rfl (fun K1 hK1 => ?_) AllReadyH.nil
      go_simp
      refine (HC0.out _).mono ?_
      rintro e9 w5 ⟨rfl, hb5⟩
      have B5 := SW.trans (hb5.mono (by have := SW.size; omega))
      refine hK1.out _ _ B5 (fun SW => ?_)
      clear hK1 K1 hb5
      go_simp
      refine wpAnyH_take (i := 6) (v := .int .u64 (r0 : Nat)) rfl (by kernel_rfl) (by kernel_rfl) (by kernel_rfl) (fun _ _ _ h => h) (Or.inl ⟨by rfl, ?_⟩) SW ?_
      · intro W4 hW4
        have ea := ea
        go_simp <;> first | done | rfl | (rw [IntKind.wrap_i64]; omega) | omega
      go_simp
      refine wpAnyH_ready (rs := [7]) (by kernel_rfl) (by simp) ?_
      refine AllReadyH.cons rfl (fun K1 hK1 => ?_) AllReadyH.nil
      go_simp
      refine hK1.out _ _ SW (fun SW => ?_)
      clear hK1 K1
      go_simp
      refine wpAnyH_done (by kernel_rfl) ?_ _
      have HB5 := hide B5
      have HS5 : Hid (W0.heap.size ≤ w5.heap.size) := hide B5.size
      clear B5 SW ea HC0 HFC HDR
      go_wp2_with fail
      go_loopg [3, 6] 7 (fun k u v wr => ∃ i f r : Nat, u = .int .u64 f ∧ v = .int .u64 r ∧ 1 ≤ i ∧ i + k = 8 ∧ Hid (FndI c m j i f) ∧ Hid (RowI c m (dxs j) (dys j) i r) ∧ Hid (Below W0.heap.size W0 wr))
      case atStart => exact ⟨1, f, r0, rfl, rfl, by omega, by omega, hF, HRS, HB5⟩
      case round =>
        clear hF HRS HB5 HS5
        obtain ⟨i, f, r, rfl, rfl, hi1, hik, hF, hR, hB⟩ := hrel
        have HIK := hide hik
        clear hik
        by_cases hr : r = 0
        · subst hr
          have HF2 := hide (HEND.out j i f hR.out hF.out)
          have hz : (((0 : Nat) : Int) != 0) = false := by rfl
          go_wp2_with fail
          refine ⟨⟨j + 1, f, by go_num, rfl, by omega, HF2, hide (HBW.out.trans (hB.out.mono HBW.out.size))⟩, by simp [intOf]; omega⟩
        · have hi7 := HLEN.out j i r HJ.out hi1 hR.out hr
          have hz : ((r : Int) != 0) = true := u64_ne hr
          have HN := hide (HNEXT.out j i r HJ.out hR.out)
          have HG := hide (HFN.out j i r f HJ.out hi1 hR.out hF.out)
          have HCr := hide (fun W => HC.out r hR.out.1 W)
          obtain ⟨s1, hs1'⟩ : ∃ s1, stp j r = s1 := ⟨_, rfl⟩
          have hs1b : s1 < 18446744073709551616 := by rw [← p64, ← hs1']; exact HSL.out j r HJ.out
          rw [hs1'] at HN HG HCr
          obtain ⟨a1, ha1⟩ : ∃ a1, s1 &&& e = a1 := ⟨_, rfl⟩
          have ha1b : a1 < 18446744073709551616 := by rw [← ha1]; exact Nat.lt_of_le_of_lt Nat.and_le_left hs1b
          rw [ha1] at HG
          obtain ⟨g1, hg1⟩ : ∃ g1, f ||| a1 = g1 := ⟨_, rfl⟩
          rw [hg1] at HG
          obtain ⟨r1, hr1⟩ : ∃ r1, s1 &&& t = r1 := ⟨_, rfl⟩
          rw [hr1] at HN
          have ea1 : bits BinOp.and IntKind.u64 (s1 : Int) (e : Int) = (a1 : Int) := by rw [u64_and_nat _ _ hs1b (by rw [← p64]; exact HE.out), ha1]
          have eg1 : bits BinOp.or IntKind.u64 (f : Int) (a1 : Int) = (g1 : Int) := by rw [u64_or_nat _ _ (by rw [← p64]; exact hF.out.1) ha1b, hg1]
          have er1 : bits BinOp.and IntKind.u64 (s1 : Int) (t : Int) = (r1 : Int) := by rw [u64_and_nat _ _ hs1b (by rw [← p64]; exact HTT.out), hr1]
          have D0 := HDB.out.below hB.out HDB.out.lt
          clear hs1' ha1 hg1 hr1 hr hs1b ha1b
          go_wp2_with (refine wpList_load_dr rfl (.tmp 5) rfl db rfl D0 ?_)
          refine (HCr.out _).mono ?_
          rintro e9 w5 ⟨rfl, hb5⟩
          have HB5 : Hid (Below W0.heap.size W0 w5) := hide (hB.out.trans (hb5.mono hB.out.size))
          obtain ⟨-, c1, c2⟩ := (HBB.out.below HB5.out HBB.out.lt).cells
          clear hb5 D0 hB HCr
          go_wp2_with fail
          go_roundg (gk - 1)
          case measure => have := HIK.out; omega
          case rel => exact ⟨i + 1, g1, r1, rfl, rfl, by omega, by have := HIK.out; omega, HG, HN, HB5⟩
    · have hj' : ¬ (j : Int) < 8 := by omega
      obtain rfl : j = 8 := by omega
      go_wp2_with fail
      go_ret
      exact ⟨f, rfl, hF.out, HB0.out.trans (hB.out.mono (Nat.le_of_lt hs1))⟩

end Go.Proofs.YtkmghlmniahgbaaDoor
