/-
  The board that a side sees so: a side's told. No conditions beyond those that each theorem bears.
-/
import Derived.Test.YtmboikpcbkiepaaSeen
import Derived.Deep.RegionWith
namespace Go.Proofs.Ytmboikpcbkiepaa
open Go.RowKit

def sg (t : Nat) (z : Int) : Int := if t = 0 then z else -z

def toldF (S : List Int) (t k p : Nat) : Int := if 1 ≤ p ∧ p ≤ 24 ∧ aw t p < k then sg t (S.getD (aw t p) 0 - S.getD (26 + aw t p) 0) else 0

/-- The points that a side sees so. -/
def toldP (S : List Int) (t : Nat) : List Int := (List.range 26).map (toldF S t 25)

theorem toldP_length (S : List Int) (t : Nat) : (toldP S t).length = 26 := by simp [toldP]

theorem told_step (S : List Int) (t k : Nat) (hk : 1 ≤ k ∧ k ≤ 24) (T : List Int) (hT : T.length = 26) (h : ∀ i, i < 26 → T.getD i 0 = toldF S t k i) (x : Int) (hx : sg t (S.getD k 0 - S.getD (26 + k) 0) = x) :
    ∀ i, i < 26 → (T.set (aw t k) x).getD i 0 = toldF S t (k + 1) i := by
  intro i hi
  have ha := aw_lt t k hk
  rw [getD_set _ _ _ _ (by omega)]
  by_cases e2 : i = aw t k
  · rw [if_pos e2]
    subst e2
    rw [toldF, if_pos, aw_aw t k (by omega), hx]
    rw [aw_aw t k (by omega)]; omega
  · rw [if_neg e2, h i hi, toldF, toldF]
    by_cases c3 : 1 ≤ i ∧ i ≤ 24
    · have hne : aw t i ≠ k := fun e => e2 (by rw [← e, aw_aw t i (by omega)])
      by_cases c4 : aw t i < k
      · rw [if_pos ⟨c3.1, c3.2, c4⟩, if_pos ⟨c3.1, c3.2, by omega⟩]
      · rw [if_neg (by omega), if_neg (by omega)]
    · rw [if_neg (by omega), if_neg (by omega)]

theorem told_start (S : List Int) (t : Nat) : ∀ i, i < 26 → (List.replicate 26 (0 : Int)).getD i 0 = toldF S t 1 i := by
  intro i hi
  rw [rep0, toldF]
  by_cases c3 : 1 ≤ i ∧ i ≤ 24
  · have := aw_lt t i c3
    rw [if_neg (by omega)]
  · rw [if_neg (by omega)]

def z26 : List Int := List.replicate 26 0
theorem z26_length : z26.length = 26 := rfl

theorem make26 (W : World) : (Instr.makeSlice 22 (.int .i64 26) (.int .i64 26)).run Try.prog W = .ok (.slice (some ⟨W.heap.size, 0, none⟩) 26 26) (W.alloc (.cells (ivs z26).toArray 3)) := by
  obtain ⟨i0, hi, hz0, hz1, hz2⟩ := info_parts Try.info3
  have := run_makeSlice (P := Try.prog) W 22 3 i0 (.int .i64 0) Try.underlying22 hi hz0 .i64 .i64 26 26 (by omega) (by omega) (by rw [hz1]; decide) (by rw [hz2]; decide) (by omega)
  rw [hz1] at this
  have e : madeCells (Value.int .i64 0).cells (Int.toNat 26 * 1) = (ivs z26).toArray := by
    apply Array.toList_inj.1
    have := toList_madeCells_one (Value.int .i64 0) 26
    exact this
  rw [e] at this
  exact this

theorem three (w1 : World) (o1 o2 o3 : Obj) : (((w1.alloc o1).alloc o2).alloc o3).drew.heap[w1.heap.size]? = some o1 ∧ (((w1.alloc o1).alloc o2).alloc o3).drew.heap[w1.heap.size + 1]? = some o2
    ∧ (((w1.alloc o1).alloc o2).alloc o3).drew.heap[w1.heap.size + 1 + 1]? = some o3 ∧ ∀ k, k < w1.heap.size → (((w1.alloc o1).alloc o2).alloc o3).drew.heap[k]? = w1.heap[k]? := by
  refine ⟨?_, ?_, ?_, fun k hk => ?_⟩
  · show (((w1.alloc o1).alloc o2).alloc o3).heap[w1.heap.size]? = some o1
    rw [Below.heap_alloc _ _ _ (by simp; omega), Below.heap_alloc _ _ _ (by simp)]
    exact heap_alloc_new w1 _
  · show (((w1.alloc o1).alloc o2).alloc o3).heap[w1.heap.size + 1]? = some o2
    rw [Below.heap_alloc _ _ _ (by simp)]
    have := heap_alloc_new (w1.alloc o1) o2
    rwa [World.size_alloc] at this
  · show (((w1.alloc o1).alloc o2).alloc o3).heap[w1.heap.size + 1 + 1]? = some o3
    have := heap_alloc_new ((w1.alloc o1).alloc o2) o3
    rwa [World.size_alloc, World.size_alloc] at this
  · show (((w1.alloc o1).alloc o2).alloc o3).heap[k]? = w1.heap[k]?
    rw [Below.heap_alloc _ _ _ (by simp; omega), Below.heap_alloc _ _ _ (by simp; omega), Below.heap_alloc _ _ _ hk]

theorem size24 : (Try.prog.info? 24).map (·.size) = some 4 := by kernel_rfl

/-- A board lies in a block. -/
def Gm (w : World) (b : Nat) (a : Option Addr) (n c : Nat) (W B T : Int) : Prop := w.heap[b]? = some (.cells (gmA a n c W B T) 24 (0, 0))

theorem Gm.cells {w : World} {b : Nat} {a : Option Addr} {n c : Nat} {W B T : Int} (h : Gm w b a n c W B T) : w.cell? ⟨b, 0, none⟩ = some (.slice a n c) ∧ w.cell? ⟨b, 1, none⟩ = some (.int .i64 W) ∧ w.cell? ⟨b, 2, none⟩ = some (.int .i64 B) ∧ w.cell? ⟨b, 3, none⟩ = some (.int .i64 T) := by
  have h' : w.heap[b]? = _ := h
  simp [World.cell?, h']

theorem Gm.frozen {w : World} {b : Nat} {a : Option Addr} {n c : Nat} {W B T : Int} (h : Gm w b a n c W B T) (i : Nat) : w.frozen? ⟨b, i, none⟩ = false := by
  have h' : w.heap[b]? = _ := h
  simp [World.frozen?, h']

theorem Gm.lt {w : World} {b : Nat} {a : Option Addr} {n c : Nat} {W B T : Int} (h : Gm w b a n c W B T) : b < w.heap.size := (Array.getElem?_eq_some_iff.1 h).1

theorem Gm.keeps {X : Nat → Prop} {w w' : World} {b : Nat} {a : Option Addr} {n c : Nat} {W B T : Int} (h : Gm w b a n c W B T) (hk : Keeps X w w') (hb : ¬ X b) : Gm w' b a n c W B T :=
  (hk.block b h.lt hb).trans h

theorem Gm.below {w w' : World} {b C : Nat} {a : Option Addr} {n c : Nat} {W B T : Int} (h : Gm w b a n c W B T) (hk : Below C w w') (hb : b < C) : Gm w' b a n c W B T := (hk.block b hb).trans h

theorem Gm.other {w : World} {b g : Nat} {a : Option Addr} {n c : Nat} {W B T : Int} (h : Gm w b a n c W B T) (hb : b ≠ g) (i : Nat) (v : Value) : Gm (w.setCell ⟨g, i, none⟩ v) b a n c W B T := h.keeps (Keeps.set1 w g i v) hb

theorem Gm.setW {w : World} {b : Nat} {a : Option Addr} {n c : Nat} {W B T : Int} (h : Gm w b a n c W B T) (x : Int) : Gm (w.setCell ⟨b, 1, none⟩ (.int .i64 x)) b a n c x B T := by
  have h' : w.heap[b]? = _ := h
  simp [Gm, World.setCell, Array.getElem?_modify, h']

theorem Gm.setB {w : World} {b : Nat} {a : Option Addr} {n c : Nat} {W B T : Int} (h : Gm w b a n c W B T) (x : Int) : Gm (w.setCell ⟨b, 2, none⟩ (.int .i64 x)) b a n c W x T := by
  have h' : w.heap[b]? = _ := h
  simp [Gm, World.setCell, Array.getElem?_modify, h']

theorem Gm.setP {w : World} {b : Nat} {a : Option Addr} {n c : Nat} {W B T : Int} (h : Gm w b a n c W B T) (a' : Option Addr) (n' c' : Nat) : Gm (w.setCell ⟨b, 0, none⟩ (.slice a' n' c')) b a' n' c' W B T := by
  have h' : w.heap[b]? = _ := h
  simp [Gm, World.setCell, Array.getElem?_modify, h']

theorem Gm.new (w : World) (a : Option Addr) (n c : Nat) (W B T : Int) : Gm (w.alloc (.cells (gmA a n c W B T) 24)) w.heap.size a n c W B T := heap_alloc_new w _

theorem Gm.old {w : World} {b : Nat} {a : Option Addr} {n c : Nat} {W B T : Int} (h : Gm w b a n c W B T) (o : Obj) : Gm (w.alloc o) b a n c W B T := (Below.heap_alloc w o b h.lt).trans h

theorem drewN_heap (w : World) (n : Nat) : (w.drewN n).heap = w.heap := by cases n <;> rfl

theorem Blk.drewN {w : World} {b t : Nat} {L : List Int} (h : Blk w b t L) (n : Nat) : Blk (w.drewN n) b t L := by unfold Blk; rw [drewN_heap]; exact h

theorem Gm.drewN {w : World} {b : Nat} {a : Option Addr} {n c : Nat} {W B T : Int} (h : Gm w b a n c W B T) (m : Nat) : Gm (w.drewN m) b a n c W B T := by unfold Gm; rw [drewN_heap]; exact h

theorem wpList_load_gm {ops : Array Oper} {rest : List Oper} {op : Oper} {a : Act} {w : World} {Q : Exit → Act → World → Prop} (hw : Region.wanted op (yielded ops a.tmps) = true) (x : Operand) (ho : op.op = .load 24 x)
    (b : Nat) (hx : a.eval x = .pointer (some ⟨b, 0, none⟩)) {ad : Option Addr} {n c : Nat} {W B T : Int} (hc : Gm w b ad n c W B T)
    (h : wpList Try.prog ops Q rest (a.put op.dst (.agg (gmA ad n c W B T))) w) : wpList Try.prog ops Q (op :: rest) a w :=
  wpList_wanted hw fun _ hK => wp_load_row 24 x ho b hx 24 _ (0, 0) _ hc Try.underlying24 rfl size24 (hK _ _ h)

theorem wpList_store_gm {ops : Array Oper} {rest : List Oper} {o : Oper} {a : Act} {w : World} {Q : Exit → Act → World → Prop} (hgd : o.guard = none) (x y : Operand) (ho : o.op = .store 24 x y)
    (b : Nat) {ad : Option Addr} {n c : Nat} {W B T : Int} {ad' : Option Addr} {n' c' : Nat} {W' B' T' : Int} (hx : a.eval x = .pointer (some ⟨b, 0, none⟩)) (hy : a.eval y = .agg (gmA ad n c W B T)) (hb : Gm w b ad' n' c' W' B' T')
    (h : ∀ w', Gm w' b ad n c W B T → Keeps (fun k => k = b) w w' → wpList Try.prog ops Q rest (a.put o.dst undef) w') : wpList Try.prog ops Q (o :: rest) a w := by
  refine wpList_plain hgd fun _ hK => ?_
  have hb' : w.heap[b]? = _ := hb
  refine wp_store_row 24 x y ho b (gmA ad n c W B T) hx hy 24 _ hb' size24 rfl (by simp [Value.oneCell']) ?_
  refine hK _ _ (h _ ?_ ?_)
  · simp [Gm, World.setRow, Array.getElem?_modify, hb']
  · exact ⟨rfl, rfl, rfl, by simp [World.setRow], fun k _ hk => by simp [World.setRow, Array.getElem?_modify, show ¬ b = k from fun e => hk e.symm]⟩

theorem results_gm {fn : Func} {t : Tmp} (h : fn.results = #[.cell t 24]) (tmps : Array Value) (w : World) (b : Nat) (hb : tmps.getD t undef = .pointer (some ⟨b, 0, none⟩)) {ad : Option Addr} {n c : Nat} {W B T : Int} (hr : Gm w b ad n c W B T) :
    (results fn tmps).run Try.prog w = .ok (.agg (gmA ad n c W B T)) w :=
  results_cell_row h tmps w b 24 _ (0, 0) _ hb hr Try.underlying24 rfl size24

theorem results_gb {fn : Func} {t u : Tmp} (h : fn.results = #[.cell t 24, .tmp u]) (tmps : Array Value) (w : World) (b : Nat) (hb : tmps.getD t undef = .pointer (some ⟨b, 0, none⟩)) {ad : Option Addr} {n c : Nat} {W B T : Int} (hr : Gm w b ad n c W B T) :
    (results fn tmps).run Try.prog w = .ok (.tuple #[.agg (gmA ad n c W B T), tmps.getD u undef]) w := by
  have hl := run_loadVar_row (P := Try.prog) w b 24 24 _ (0, 0) _ hr Try.underlying24 rfl size24
  have hb' : tmps[t]?.getD undef = .pointer (some ⟨b, 0, none⟩) := by simpa using hb
  have ha : (asAddr (.pointer (some ⟨b, 0, none⟩))).run Try.prog w = .ok ⟨b, 0, none⟩ w := rfl
  simp [results, h, hb', ha, hl, Sem.run_bind, Result.andThen]

set_option maxRecDepth 100000 in
set_option maxHeartbeats 4000000 in
theorem told_0 (S : List Int) (hS : S.length = 52) (hr : ∀ i, i < 52 → -1000 ≤ S.getD i 0 ∧ S.getD i 0 ≤ 1000) (nx : Int) (w : World) :
    Calls Try.prog 32 #[.agg (ivs S).toArray, .int .i64 0, .int .i64 nx] w fun e w' => ∃ g, e = .returned (.agg (gmA (some ⟨g, 0, none⟩) 26 26 (ownB (S.getD 25 0) (S.getD 26 0) 0) (othB (S.getD 25 0) (S.getD 26 0) 0) nx)) ∧ Blk w' g 3 (toldP S 0) ∧ w.heap.size ≤ g ∧ Below w.heap.size w w' := by
  go_enter Try.func32, Try.ntmps32
  go_upto_region 1 with fail
  obtain ⟨w1, hw1⟩ : ∃ w1, (w.alloc (Obj.cells (ivs S).toArray 54)) = w1 := ⟨_, rfl⟩
  rw [hw1]
  have K0 : Blk w1 w.heap.size 54 S := by rw [← hw1]; exact Blk.new w 54 S _ rfl
  have hs1 : w1.heap.size = w.heap.size + 1 := by rw [← hw1]; simp
  have B1 : Below w.heap.size w w1 := by rw [← hw1]; exact (Below.refl _ w).alloc (Nat.le_refl _) _
  clear hw1
  have c25 := K0.cell (i := 25) (by omega)
  have c26 := K0.cell (i := 26) (by omega)
  have HR := hide hr
  clear hr
  obtain ⟨x, hx⟩ : ∃ x, S.getD 25 0 = x := ⟨_, rfl⟩
  obtain ⟨y, hy⟩ : ∃ y, S.getD 26 0 = y := ⟨_, rfl⟩
  rw [hx] at c25
  rw [hy] at c26
  have HX := hide hx
  have HY := hide hy
  clear hx hy
  have MK := make26
  go_region
  · have TH := three w1 (Obj.cells #[.slice none 0 0, .int .i64 0, .int .i64 0, .int .i64 0] 24) (Obj.cells (ivs z26).toArray 3) (Obj.cells (gmA (some ⟨w.heap.size + 1 + 1, 0, none⟩) 26 26 x y nx) 24)
    rw [hs1] at TH
    have PG : Blk ((((w1.alloc (Obj.cells #[.slice none 0 0, .int .i64 0, .int .i64 0, .int .i64 0] 24)).alloc (Obj.cells (ivs z26).toArray 3)).alloc (Obj.cells (gmA (some ⟨w.heap.size + 1 + 1, 0, none⟩) 26 26 x y nx) 24)).drew) (w.heap.size + 1 + 1) 3 z26 := TH.2.1
    have PH : Gm ((((w1.alloc (Obj.cells #[.slice none 0 0, .int .i64 0, .int .i64 0, .int .i64 0] 24)).alloc (Obj.cells (ivs z26).toArray 3)).alloc (Obj.cells (gmA (some ⟨w.heap.size + 1 + 1, 0, none⟩) 26 26 x y nx) 24)).drew) (w.heap.size + 1 + 1 + 1) (some ⟨w.heap.size + 1 + 1, 0, none⟩) 26 26 x y nx := TH.2.2.1
    have P6 : Gm ((((w1.alloc (Obj.cells #[.slice none 0 0, .int .i64 0, .int .i64 0, .int .i64 0] 24)).alloc (Obj.cells (ivs z26).toArray 3)).alloc (Obj.cells (gmA (some ⟨w.heap.size + 1 + 1, 0, none⟩) 26 26 x y nx) 24)).drew) (w.heap.size + 1) none 0 0 0 0 0 := TH.1
    have PS : Blk ((((w1.alloc (Obj.cells #[.slice none 0 0, .int .i64 0, .int .i64 0, .int .i64 0] 24)).alloc (Obj.cells (ivs z26).toArray 3)).alloc (Obj.cells (gmA (some ⟨w.heap.size + 1 + 1, 0, none⟩) 26 26 x y nx) 24)).drew) w.heap.size 54 S := (TH.2.2.2 w.heap.size (by omega)).trans K0
    have B2 : Below w.heap.size w ((((w1.alloc (Obj.cells #[.slice none 0 0, .int .i64 0, .int .i64 0, .int .i64 0] 24)).alloc (Obj.cells (ivs z26).toArray 3)).alloc (Obj.cells (gmA (some ⟨w.heap.size + 1 + 1, 0, none⟩) 26 26 x y nx) 24)).drew) := (((B1.alloc (by omega) _).alloc (by simp; omega) _).alloc (by simp; omega) _).drew
    change Exit.then _ _ _ _ ((((w1.alloc (Obj.cells #[.slice none 0 0, .int .i64 0, .int .i64 0, .int .i64 0] 24)).alloc (Obj.cells (ivs z26).toArray 3)).alloc (Obj.cells (gmA (some ⟨w.heap.size + 1 + 1, 0, none⟩) 26 26 x y nx) 24)).drew)
    clear TH K0 B1 c25 c26 MK
    generalize (((w1.alloc (Obj.cells #[.slice none 0 0, .int .i64 0, .int .i64 0, .int .i64 0] 24)).alloc (Obj.cells (ivs z26).toArray 3)).alloc (Obj.cells (gmA (some ⟨w.heap.size + 1 + 1, 0, none⟩) 26 26 x y nx) 24)).drew = w2 at *
    have ND : Hid (w.heap.size + 1 + 1 ≠ w.heap.size + 1 + 1 + 1 ∧ w.heap.size + 1 + 1 ≠ w.heap.size + 1 ∧ w.heap.size + 1 + 1 ≠ w.heap.size ∧ w.heap.size + 1 + 1 + 1 ≠ w.heap.size + 1 ∧ w.heap.size + 1 + 1 + 1 ≠ w.heap.size ∧ w.heap.size ≤ w.heap.size + 1 + 1 ∧ w.heap.size ≤ w.heap.size + 1 + 1 + 1) := hide (by omega)
    have PH := hide PH
    have PG := hide PG
    have P6 := hide P6
    have PS := hide PS
    have B2 := hide B2
    go_wp2_with fail
    go_loopw [8] (fun v wr => ∃ (k : Nat) (T : List Int), v = .int .i64 k ∧ 1 ≤ k ∧ k ≤ 25 ∧ Hid (T.length = 26) ∧ Hid (∀ i, i < 26 → T.getD i 0 = toldF S 0 k i) ∧ Hid (Blk wr (w.heap.size + 1 + 1) 3 T) ∧ Hid (Gm wr (w.heap.size + 1 + 1 + 1) (some ⟨w.heap.size + 1 + 1, 0, none⟩) 26 26 x y nx) ∧ Hid (Gm wr (w.heap.size + 1) none 0 0 0 0 0) ∧ Hid (Blk wr w.heap.size 54 S) ∧ Hid (Below w.heap.size w wr)) (fun v _ => 25 - (intOf v).toNat)
    case atStart => exact ⟨1, z26, rfl, by omega, by omega, rfl, told_start S 0, PG, PH, P6, PS, B2⟩
    case round =>
      clear PG PH P6 PS B2
      obtain ⟨k, T, rfl, hk1, hk, hTl, hTc, hT, hH, h6, hSS, hB⟩ := hrel
      by_cases hk25 : k < 25
      · have hlt : (k : Int) < 25 := by omega
        have c1 := hSS.out.cell (i := k) (by omega)
        have c2 := hSS.out.cell (i := 26 + k) (by omega)
        have r1 := HR.out k (by omega)
        have r2 := HR.out (26 + k) (by omega)
        have AW := hide (away_any k 0 (by omega) (by omega))
        have hal := aw_lt 0 k (by omega)
        have ST := hide (told_step S 0 k (by omega) T hTl.out hTc.out)
        generalize aw 0 k = q at *
        generalize S.getD k 0 = m at *
        generalize S.getD (26 + k) 0 = o at *
        obtain ⟨p0, -, -, -⟩ := hH.out.cells
        have f1 := hT.out.frozen q
        have e1 := hT.out.cell (i := q) (by rw [hTl.out]; omega)
        have SW := hide (fun n : Nat => (⟨(hT.out.drewN n).set q (m - o), (hH.out.drewN n).other (Ne.symm ND.out.1) q _, (h6.out.drewN n).other (Ne.symm ND.out.2.1) q _, (hSS.out.drewN n).other (Ne.symm ND.out.2.2.1) q _, (hB.out.trans (drewN_below _ _ n)).setCell (p := ⟨w.heap.size + 1 + 1, q, none⟩) ND.out.2.2.2.2.2.1 _⟩ :
          Blk ((wr.drewN n).setCell ⟨w.heap.size + 1 + 1, q, none⟩ (.int .i64 (m - o))) (w.heap.size + 1 + 1) 3 (T.set q (m - o)) ∧ Gm ((wr.drewN n).setCell ⟨w.heap.size + 1 + 1, q, none⟩ (.int .i64 (m - o))) (w.heap.size + 1 + 1 + 1) (some ⟨w.heap.size + 1 + 1, 0, none⟩) 26 26 x y nx ∧ Gm ((wr.drewN n).setCell ⟨w.heap.size + 1 + 1, q, none⟩ (.int .i64 (m - o))) (w.heap.size + 1) none 0 0 0 0 0 ∧ Blk ((wr.drewN n).setCell ⟨w.heap.size + 1 + 1, q, none⟩ (.int .i64 (m - o))) w.heap.size 54 S ∧ Below w.heap.size w ((wr.drewN n).setCell ⟨w.heap.size + 1 + 1, q, none⟩ (.int .i64 (m - o)))))
        have ST' := hide (ST.out (m - o) rfl)
        clear ST
        go_wp2_with fail
        go_quiet (fail)
        go_wp2_with fail
        go_region_with (go_at_call 29; refine (AW.out _).mono ?_; rintro e w9 ⟨rfl, hw⟩; subst w9)
        all_goals
          go_wp2
          exact ⟨⟨k + 1, _, by go_num, by omega, by omega, hide (by simp [hTl.out]), ST'.out, (SW.out _).1, (SW.out _).2.1, (SW.out _).2.2.1, (SW.out _).2.2.2.1, (SW.out _).2.2.2.2⟩, by simp [intOf]; omega⟩
      · obtain rfl : k = 25 := by omega
        have hTT : T = toldP S 0 := getD_ext T _ 26 hTl.out (toldP_length S 0) (fun i hi => by rw [hTc.out i hi, toldP, range_getD 26 _ i hi])
        subst hTT
        clear hTc
        go_wp2_with (first
          | refine wpList_load_gm rfl (.tmp 7) rfl (w.heap.size + 1 + 1 + 1) rfl hH.out ?_
          | (refine wpList_store_gm rfl (.tmp 6) (.tmp 51) rfl (w.heap.size + 1) rfl rfl h6.out ?_; intro w6 k6 kk6))
        refine bodyPost_ret (results_gm rfl _ _ (w.heap.size + 1) rfl k6) rfl ⟨w.heap.size + 1 + 1, ?_, ?_, ?_, ?_⟩
        · rw [HX.out, HY.out]; rfl
        · exact hT.out.keeps kk6 ND.out.2.1
        · omega
        · exact hB.out.trans ((kk6.mono (Y := fun k => w.heap.size ≤ k) (fun k _ e => by omega)).below (by have := hB.out.size; omega) (fun k hk e => by omega))
  · have TH := three w1 (Obj.cells #[.slice none 0 0, .int .i64 0, .int .i64 0, .int .i64 0] 24) (Obj.cells (gmA (some ⟨w.heap.size + 1 + 1 + 1, 0, none⟩) 26 26 x y nx) 24) (Obj.cells (ivs z26).toArray 3)
    rw [hs1] at TH
    have PG : Blk ((((w1.alloc (Obj.cells #[.slice none 0 0, .int .i64 0, .int .i64 0, .int .i64 0] 24)).alloc (Obj.cells (gmA (some ⟨w.heap.size + 1 + 1 + 1, 0, none⟩) 26 26 x y nx) 24)).alloc (Obj.cells (ivs z26).toArray 3)).drew) (w.heap.size + 1 + 1 + 1) 3 z26 := TH.2.2.1
    have PH : Gm ((((w1.alloc (Obj.cells #[.slice none 0 0, .int .i64 0, .int .i64 0, .int .i64 0] 24)).alloc (Obj.cells (gmA (some ⟨w.heap.size + 1 + 1 + 1, 0, none⟩) 26 26 x y nx) 24)).alloc (Obj.cells (ivs z26).toArray 3)).drew) (w.heap.size + 1 + 1) (some ⟨w.heap.size + 1 + 1 + 1, 0, none⟩) 26 26 x y nx := TH.2.1
    have P6 : Gm ((((w1.alloc (Obj.cells #[.slice none 0 0, .int .i64 0, .int .i64 0, .int .i64 0] 24)).alloc (Obj.cells (gmA (some ⟨w.heap.size + 1 + 1 + 1, 0, none⟩) 26 26 x y nx) 24)).alloc (Obj.cells (ivs z26).toArray 3)).drew) (w.heap.size + 1) none 0 0 0 0 0 := TH.1
    have PS : Blk ((((w1.alloc (Obj.cells #[.slice none 0 0, .int .i64 0, .int .i64 0, .int .i64 0] 24)).alloc (Obj.cells (gmA (some ⟨w.heap.size + 1 + 1 + 1, 0, none⟩) 26 26 x y nx) 24)).alloc (Obj.cells (ivs z26).toArray 3)).drew) w.heap.size 54 S := (TH.2.2.2 w.heap.size (by omega)).trans K0
    have B2 : Below w.heap.size w ((((w1.alloc (Obj.cells #[.slice none 0 0, .int .i64 0, .int .i64 0, .int .i64 0] 24)).alloc (Obj.cells (gmA (some ⟨w.heap.size + 1 + 1 + 1, 0, none⟩) 26 26 x y nx) 24)).alloc (Obj.cells (ivs z26).toArray 3)).drew) := (((B1.alloc (by omega) _).alloc (by simp; omega) _).alloc (by simp; omega) _).drew
    change Exit.then _ _ _ _ ((((w1.alloc (Obj.cells #[.slice none 0 0, .int .i64 0, .int .i64 0, .int .i64 0] 24)).alloc (Obj.cells (gmA (some ⟨w.heap.size + 1 + 1 + 1, 0, none⟩) 26 26 x y nx) 24)).alloc (Obj.cells (ivs z26).toArray 3)).drew)
    clear TH K0 B1 c25 c26 MK
    generalize (((w1.alloc (Obj.cells #[.slice none 0 0, .int .i64 0, .int .i64 0, .int .i64 0] 24)).alloc (Obj.cells (gmA (some ⟨w.heap.size + 1 + 1 + 1, 0, none⟩) 26 26 x y nx) 24)).alloc (Obj.cells (ivs z26).toArray 3)).drew = w2 at *
    have ND : Hid (w.heap.size + 1 + 1 + 1 ≠ w.heap.size + 1 + 1 ∧ w.heap.size + 1 + 1 + 1 ≠ w.heap.size + 1 ∧ w.heap.size + 1 + 1 + 1 ≠ w.heap.size ∧ w.heap.size + 1 + 1 ≠ w.heap.size + 1 ∧ w.heap.size + 1 + 1 ≠ w.heap.size ∧ w.heap.size ≤ w.heap.size + 1 + 1 + 1 ∧ w.heap.size ≤ w.heap.size + 1 + 1) := hide (by omega)
    have PH := hide PH
    have PG := hide PG
    have P6 := hide P6
    have PS := hide PS
    have B2 := hide B2
    go_wp2_with fail
    go_loopw [8] (fun v wr => ∃ (k : Nat) (T : List Int), v = .int .i64 k ∧ 1 ≤ k ∧ k ≤ 25 ∧ Hid (T.length = 26) ∧ Hid (∀ i, i < 26 → T.getD i 0 = toldF S 0 k i) ∧ Hid (Blk wr (w.heap.size + 1 + 1 + 1) 3 T) ∧ Hid (Gm wr (w.heap.size + 1 + 1) (some ⟨w.heap.size + 1 + 1 + 1, 0, none⟩) 26 26 x y nx) ∧ Hid (Gm wr (w.heap.size + 1) none 0 0 0 0 0) ∧ Hid (Blk wr w.heap.size 54 S) ∧ Hid (Below w.heap.size w wr)) (fun v _ => 25 - (intOf v).toNat)
    case atStart => exact ⟨1, z26, rfl, by omega, by omega, rfl, told_start S 0, PG, PH, P6, PS, B2⟩
    case round =>
      clear PG PH P6 PS B2
      obtain ⟨k, T, rfl, hk1, hk, hTl, hTc, hT, hH, h6, hSS, hB⟩ := hrel
      by_cases hk25 : k < 25
      · have hlt : (k : Int) < 25 := by omega
        have c1 := hSS.out.cell (i := k) (by omega)
        have c2 := hSS.out.cell (i := 26 + k) (by omega)
        have r1 := HR.out k (by omega)
        have r2 := HR.out (26 + k) (by omega)
        have AW := hide (away_any k 0 (by omega) (by omega))
        have hal := aw_lt 0 k (by omega)
        have ST := hide (told_step S 0 k (by omega) T hTl.out hTc.out)
        generalize aw 0 k = q at *
        generalize S.getD k 0 = m at *
        generalize S.getD (26 + k) 0 = o at *
        obtain ⟨p0, -, -, -⟩ := hH.out.cells
        have f1 := hT.out.frozen q
        have e1 := hT.out.cell (i := q) (by rw [hTl.out]; omega)
        have SW := hide (fun n : Nat => (⟨(hT.out.drewN n).set q (m - o), (hH.out.drewN n).other (Ne.symm ND.out.1) q _, (h6.out.drewN n).other (Ne.symm ND.out.2.1) q _, (hSS.out.drewN n).other (Ne.symm ND.out.2.2.1) q _, (hB.out.trans (drewN_below _ _ n)).setCell (p := ⟨w.heap.size + 1 + 1 + 1, q, none⟩) ND.out.2.2.2.2.2.1 _⟩ :
          Blk ((wr.drewN n).setCell ⟨w.heap.size + 1 + 1 + 1, q, none⟩ (.int .i64 (m - o))) (w.heap.size + 1 + 1 + 1) 3 (T.set q (m - o)) ∧ Gm ((wr.drewN n).setCell ⟨w.heap.size + 1 + 1 + 1, q, none⟩ (.int .i64 (m - o))) (w.heap.size + 1 + 1) (some ⟨w.heap.size + 1 + 1 + 1, 0, none⟩) 26 26 x y nx ∧ Gm ((wr.drewN n).setCell ⟨w.heap.size + 1 + 1 + 1, q, none⟩ (.int .i64 (m - o))) (w.heap.size + 1) none 0 0 0 0 0 ∧ Blk ((wr.drewN n).setCell ⟨w.heap.size + 1 + 1 + 1, q, none⟩ (.int .i64 (m - o))) w.heap.size 54 S ∧ Below w.heap.size w ((wr.drewN n).setCell ⟨w.heap.size + 1 + 1 + 1, q, none⟩ (.int .i64 (m - o)))))
        have ST' := hide (ST.out (m - o) rfl)
        clear ST
        go_wp2_with fail
        go_quiet (fail)
        go_wp2_with fail
        go_region_with (go_at_call 29; refine (AW.out _).mono ?_; rintro e w9 ⟨rfl, hw⟩; subst w9)
        all_goals
          go_wp2
          exact ⟨⟨k + 1, _, by go_num, by omega, by omega, hide (by simp [hTl.out]), ST'.out, (SW.out _).1, (SW.out _).2.1, (SW.out _).2.2.1, (SW.out _).2.2.2.1, (SW.out _).2.2.2.2⟩, by simp [intOf]; omega⟩
      · obtain rfl : k = 25 := by omega
        have hTT : T = toldP S 0 := getD_ext T _ 26 hTl.out (toldP_length S 0) (fun i hi => by rw [hTc.out i hi, toldP, range_getD 26 _ i hi])
        subst hTT
        clear hTc
        go_wp2_with (first
          | refine wpList_load_gm rfl (.tmp 7) rfl (w.heap.size + 1 + 1) rfl hH.out ?_
          | (refine wpList_store_gm rfl (.tmp 6) (.tmp 51) rfl (w.heap.size + 1) rfl rfl h6.out ?_; intro w6 k6 kk6))
        refine bodyPost_ret (results_gm rfl _ _ (w.heap.size + 1) rfl k6) rfl ⟨w.heap.size + 1 + 1 + 1, ?_, ?_, ?_, ?_⟩
        · rw [HX.out, HY.out]; rfl
        · exact hT.out.keeps kk6 ND.out.2.1
        · omega
        · exact hB.out.trans ((kk6.mono (Y := fun k => w.heap.size ≤ k) (fun k _ e => by omega)).below (by have := hB.out.size; omega) (fun k hk e => by omega))

set_option maxRecDepth 100000 in
set_option maxHeartbeats 4000000 in
theorem told_1 (S : List Int) (hS : S.length = 52) (hr : ∀ i, i < 52 → -1000 ≤ S.getD i 0 ∧ S.getD i 0 ≤ 1000) (nx : Int) (w : World) :
    Calls Try.prog 32 #[.agg (ivs S).toArray, .int .i64 1, .int .i64 nx] w fun e w' => ∃ g, e = .returned (.agg (gmA (some ⟨g, 0, none⟩) 26 26 (ownB (S.getD 25 0) (S.getD 26 0) 1) (othB (S.getD 25 0) (S.getD 26 0) 1) nx)) ∧ Blk w' g 3 (toldP S 1) ∧ w.heap.size ≤ g ∧ Below w.heap.size w w' := by
  go_enter Try.func32, Try.ntmps32
  go_upto_region 1 with fail
  obtain ⟨w1, hw1⟩ : ∃ w1, (w.alloc (Obj.cells (ivs S).toArray 54)) = w1 := ⟨_, rfl⟩
  rw [hw1]
  have K0 : Blk w1 w.heap.size 54 S := by rw [← hw1]; exact Blk.new w 54 S _ rfl
  have hs1 : w1.heap.size = w.heap.size + 1 := by rw [← hw1]; simp
  have B1 : Below w.heap.size w w1 := by rw [← hw1]; exact (Below.refl _ w).alloc (Nat.le_refl _) _
  clear hw1
  have c25 := K0.cell (i := 25) (by omega)
  have c26 := K0.cell (i := 26) (by omega)
  have HR := hide hr
  clear hr
  obtain ⟨x, hx⟩ : ∃ x, S.getD 25 0 = x := ⟨_, rfl⟩
  obtain ⟨y, hy⟩ : ∃ y, S.getD 26 0 = y := ⟨_, rfl⟩
  rw [hx] at c25
  rw [hy] at c26
  have HX := hide hx
  have HY := hide hy
  clear hx hy
  have MK := make26
  go_region
  · have TH := three w1 (Obj.cells #[.slice none 0 0, .int .i64 0, .int .i64 0, .int .i64 0] 24) (Obj.cells (ivs z26).toArray 3) (Obj.cells (gmA (some ⟨w.heap.size + 1 + 1, 0, none⟩) 26 26 x y nx) 24)
    rw [hs1] at TH
    have PG : Blk ((((w1.alloc (Obj.cells #[.slice none 0 0, .int .i64 0, .int .i64 0, .int .i64 0] 24)).alloc (Obj.cells (ivs z26).toArray 3)).alloc (Obj.cells (gmA (some ⟨w.heap.size + 1 + 1, 0, none⟩) 26 26 x y nx) 24)).drew) (w.heap.size + 1 + 1) 3 z26 := TH.2.1
    have PH : Gm ((((w1.alloc (Obj.cells #[.slice none 0 0, .int .i64 0, .int .i64 0, .int .i64 0] 24)).alloc (Obj.cells (ivs z26).toArray 3)).alloc (Obj.cells (gmA (some ⟨w.heap.size + 1 + 1, 0, none⟩) 26 26 x y nx) 24)).drew) (w.heap.size + 1 + 1 + 1) (some ⟨w.heap.size + 1 + 1, 0, none⟩) 26 26 x y nx := TH.2.2.1
    have P6 : Gm ((((w1.alloc (Obj.cells #[.slice none 0 0, .int .i64 0, .int .i64 0, .int .i64 0] 24)).alloc (Obj.cells (ivs z26).toArray 3)).alloc (Obj.cells (gmA (some ⟨w.heap.size + 1 + 1, 0, none⟩) 26 26 x y nx) 24)).drew) (w.heap.size + 1) none 0 0 0 0 0 := TH.1
    have PS : Blk ((((w1.alloc (Obj.cells #[.slice none 0 0, .int .i64 0, .int .i64 0, .int .i64 0] 24)).alloc (Obj.cells (ivs z26).toArray 3)).alloc (Obj.cells (gmA (some ⟨w.heap.size + 1 + 1, 0, none⟩) 26 26 x y nx) 24)).drew) w.heap.size 54 S := (TH.2.2.2 w.heap.size (by omega)).trans K0
    have B2 : Below w.heap.size w ((((w1.alloc (Obj.cells #[.slice none 0 0, .int .i64 0, .int .i64 0, .int .i64 0] 24)).alloc (Obj.cells (ivs z26).toArray 3)).alloc (Obj.cells (gmA (some ⟨w.heap.size + 1 + 1, 0, none⟩) 26 26 x y nx) 24)).drew) := (((B1.alloc (by omega) _).alloc (by simp; omega) _).alloc (by simp; omega) _).drew
    change Exit.then _ _ _ _ ((((w1.alloc (Obj.cells #[.slice none 0 0, .int .i64 0, .int .i64 0, .int .i64 0] 24)).alloc (Obj.cells (ivs z26).toArray 3)).alloc (Obj.cells (gmA (some ⟨w.heap.size + 1 + 1, 0, none⟩) 26 26 x y nx) 24)).drew)
    clear TH K0 B1 c25 c26 MK
    generalize (((w1.alloc (Obj.cells #[.slice none 0 0, .int .i64 0, .int .i64 0, .int .i64 0] 24)).alloc (Obj.cells (ivs z26).toArray 3)).alloc (Obj.cells (gmA (some ⟨w.heap.size + 1 + 1, 0, none⟩) 26 26 x y nx) 24)).drew = w2 at *
    have ND : Hid (w.heap.size + 1 + 1 ≠ w.heap.size + 1 + 1 + 1 ∧ w.heap.size + 1 + 1 ≠ w.heap.size + 1 ∧ w.heap.size + 1 + 1 ≠ w.heap.size ∧ w.heap.size + 1 + 1 + 1 ≠ w.heap.size + 1 ∧ w.heap.size + 1 + 1 + 1 ≠ w.heap.size ∧ w.heap.size ≤ w.heap.size + 1 + 1 ∧ w.heap.size ≤ w.heap.size + 1 + 1 + 1) := hide (by omega)
    obtain ⟨p0, p1, p2, p3⟩ := PH.cells
    have q1 := PH.frozen 1
    have q2 := PH.frozen 2
    go_upto_region 4 with fail
    have PH' := (PH.setW y).setB x
    have PG' := (PG.other ND.out.1 1 (.int .i64 y)).other ND.out.1 2 (.int .i64 x)
    have P6' := (P6.other (Ne.symm ND.out.2.2.2.1) 1 (.int .i64 y)).other (Ne.symm ND.out.2.2.2.1) 2 (.int .i64 x)
    have PS' := (PS.other (Ne.symm ND.out.2.2.2.2.1) 1 (.int .i64 y)).other (Ne.symm ND.out.2.2.2.2.1) 2 (.int .i64 x)
    have B2' := (B2.setCell (p := ⟨w.heap.size + 1 + 1 + 1, 1, none⟩) ND.out.2.2.2.2.2.2 (.int .i64 y)).setCell (p := ⟨w.heap.size + 1 + 1 + 1, 2, none⟩) ND.out.2.2.2.2.2.2 (.int .i64 x)
    clear PH PG P6 PS B2 p0 p1 p2 p3 q1 q2
    generalize (w2.setCell ⟨w.heap.size + 1 + 1 + 1, 1, none⟩ (.int .i64 y)).setCell ⟨w.heap.size + 1 + 1 + 1, 2, none⟩ (.int .i64 x) = w3 at *
    have PH := PH'
    have PG := PG'
    have P6 := P6'
    have PS := PS'
    have B2 := B2'
    clear PH' PG' P6' PS' B2'
    have PH := hide PH
    have PG := hide PG
    have P6 := hide P6
    have PS := hide PS
    have B2 := hide B2
    go_wp2_with fail
    go_loopw [8] (fun v wr => ∃ (k : Nat) (T : List Int), v = .int .i64 k ∧ 1 ≤ k ∧ k ≤ 25 ∧ Hid (T.length = 26) ∧ Hid (∀ i, i < 26 → T.getD i 0 = toldF S 1 k i) ∧ Hid (Blk wr (w.heap.size + 1 + 1) 3 T) ∧ Hid (Gm wr (w.heap.size + 1 + 1 + 1) (some ⟨w.heap.size + 1 + 1, 0, none⟩) 26 26 y x nx) ∧ Hid (Gm wr (w.heap.size + 1) none 0 0 0 0 0) ∧ Hid (Blk wr w.heap.size 54 S) ∧ Hid (Below w.heap.size w wr)) (fun v _ => 25 - (intOf v).toNat)
    case atStart => exact ⟨1, z26, rfl, by omega, by omega, rfl, told_start S 1, PG, PH, P6, PS, B2⟩
    case round =>
      clear PG PH P6 PS B2
      obtain ⟨k, T, rfl, hk1, hk, hTl, hTc, hT, hH, h6, hSS, hB⟩ := hrel
      by_cases hk25 : k < 25
      · have hlt : (k : Int) < 25 := by omega
        have c1 := hSS.out.cell (i := k) (by omega)
        have c2 := hSS.out.cell (i := 26 + k) (by omega)
        have r1 := HR.out k (by omega)
        have r2 := HR.out (26 + k) (by omega)
        have AW := hide (away_any k 1 (by omega) (by omega))
        have hal := aw_lt 1 k (by omega)
        have ST := hide (told_step S 1 k (by omega) T hTl.out hTc.out)
        generalize aw 1 k = q at *
        generalize S.getD k 0 = m at *
        generalize S.getD (26 + k) 0 = o at *
        obtain ⟨p0, -, -, -⟩ := hH.out.cells
        have f1 := hT.out.frozen q
        have e1 := hT.out.cell (i := q) (by rw [hTl.out]; omega)
        have SW := hide (fun n : Nat => (⟨(hT.out.drewN n).set q (-(m - o)), (hH.out.drewN n).other (Ne.symm ND.out.1) q _, (h6.out.drewN n).other (Ne.symm ND.out.2.1) q _, (hSS.out.drewN n).other (Ne.symm ND.out.2.2.1) q _, (hB.out.trans (drewN_below _ _ n)).setCell (p := ⟨w.heap.size + 1 + 1, q, none⟩) ND.out.2.2.2.2.2.1 _⟩ :
          Blk ((wr.drewN n).setCell ⟨w.heap.size + 1 + 1, q, none⟩ (.int .i64 (-(m - o)))) (w.heap.size + 1 + 1) 3 (T.set q (-(m - o))) ∧ Gm ((wr.drewN n).setCell ⟨w.heap.size + 1 + 1, q, none⟩ (.int .i64 (-(m - o)))) (w.heap.size + 1 + 1 + 1) (some ⟨w.heap.size + 1 + 1, 0, none⟩) 26 26 y x nx ∧ Gm ((wr.drewN n).setCell ⟨w.heap.size + 1 + 1, q, none⟩ (.int .i64 (-(m - o)))) (w.heap.size + 1) none 0 0 0 0 0 ∧ Blk ((wr.drewN n).setCell ⟨w.heap.size + 1 + 1, q, none⟩ (.int .i64 (-(m - o)))) w.heap.size 54 S ∧ Below w.heap.size w ((wr.drewN n).setCell ⟨w.heap.size + 1 + 1, q, none⟩ (.int .i64 (-(m - o))))))
        have ST' := hide (ST.out (-(m - o)) rfl)
        clear ST
        go_wp2_with fail
        go_quiet (fail)
        go_wp2_with fail
        go_region_with (go_at_call 29; refine (AW.out _).mono ?_; rintro e w9 ⟨rfl, hw⟩; subst w9)
        all_goals
          go_wp2
          exact ⟨⟨k + 1, _, by go_num, by omega, by omega, hide (by simp [hTl.out]), ST'.out, (SW.out _).1, (SW.out _).2.1, (SW.out _).2.2.1, (SW.out _).2.2.2.1, (SW.out _).2.2.2.2⟩, by simp [intOf]; omega⟩
      · obtain rfl : k = 25 := by omega
        have hTT : T = toldP S 1 := getD_ext T _ 26 hTl.out (toldP_length S 1) (fun i hi => by rw [hTc.out i hi, toldP, range_getD 26 _ i hi])
        subst hTT
        clear hTc
        go_wp2_with (first
          | refine wpList_load_gm rfl (.tmp 7) rfl (w.heap.size + 1 + 1 + 1) rfl hH.out ?_
          | (refine wpList_store_gm rfl (.tmp 6) (.tmp 51) rfl (w.heap.size + 1) rfl rfl h6.out ?_; intro w6 k6 kk6))
        refine bodyPost_ret (results_gm rfl _ _ (w.heap.size + 1) rfl k6) rfl ⟨w.heap.size + 1 + 1, ?_, ?_, ?_, ?_⟩
        · rw [HX.out, HY.out]; rfl
        · exact hT.out.keeps kk6 ND.out.2.1
        · omega
        · exact hB.out.trans ((kk6.mono (Y := fun k => w.heap.size ≤ k) (fun k _ e => by omega)).below (by have := hB.out.size; omega) (fun k hk e => by omega))
  · have TH := three w1 (Obj.cells #[.slice none 0 0, .int .i64 0, .int .i64 0, .int .i64 0] 24) (Obj.cells (gmA (some ⟨w.heap.size + 1 + 1 + 1, 0, none⟩) 26 26 x y nx) 24) (Obj.cells (ivs z26).toArray 3)
    rw [hs1] at TH
    have PG : Blk ((((w1.alloc (Obj.cells #[.slice none 0 0, .int .i64 0, .int .i64 0, .int .i64 0] 24)).alloc (Obj.cells (gmA (some ⟨w.heap.size + 1 + 1 + 1, 0, none⟩) 26 26 x y nx) 24)).alloc (Obj.cells (ivs z26).toArray 3)).drew) (w.heap.size + 1 + 1 + 1) 3 z26 := TH.2.2.1
    have PH : Gm ((((w1.alloc (Obj.cells #[.slice none 0 0, .int .i64 0, .int .i64 0, .int .i64 0] 24)).alloc (Obj.cells (gmA (some ⟨w.heap.size + 1 + 1 + 1, 0, none⟩) 26 26 x y nx) 24)).alloc (Obj.cells (ivs z26).toArray 3)).drew) (w.heap.size + 1 + 1) (some ⟨w.heap.size + 1 + 1 + 1, 0, none⟩) 26 26 x y nx := TH.2.1
    have P6 : Gm ((((w1.alloc (Obj.cells #[.slice none 0 0, .int .i64 0, .int .i64 0, .int .i64 0] 24)).alloc (Obj.cells (gmA (some ⟨w.heap.size + 1 + 1 + 1, 0, none⟩) 26 26 x y nx) 24)).alloc (Obj.cells (ivs z26).toArray 3)).drew) (w.heap.size + 1) none 0 0 0 0 0 := TH.1
    have PS : Blk ((((w1.alloc (Obj.cells #[.slice none 0 0, .int .i64 0, .int .i64 0, .int .i64 0] 24)).alloc (Obj.cells (gmA (some ⟨w.heap.size + 1 + 1 + 1, 0, none⟩) 26 26 x y nx) 24)).alloc (Obj.cells (ivs z26).toArray 3)).drew) w.heap.size 54 S := (TH.2.2.2 w.heap.size (by omega)).trans K0
    have B2 : Below w.heap.size w ((((w1.alloc (Obj.cells #[.slice none 0 0, .int .i64 0, .int .i64 0, .int .i64 0] 24)).alloc (Obj.cells (gmA (some ⟨w.heap.size + 1 + 1 + 1, 0, none⟩) 26 26 x y nx) 24)).alloc (Obj.cells (ivs z26).toArray 3)).drew) := (((B1.alloc (by omega) _).alloc (by simp; omega) _).alloc (by simp; omega) _).drew
    change Exit.then _ _ _ _ ((((w1.alloc (Obj.cells #[.slice none 0 0, .int .i64 0, .int .i64 0, .int .i64 0] 24)).alloc (Obj.cells (gmA (some ⟨w.heap.size + 1 + 1 + 1, 0, none⟩) 26 26 x y nx) 24)).alloc (Obj.cells (ivs z26).toArray 3)).drew)
    clear TH K0 B1 c25 c26 MK
    generalize (((w1.alloc (Obj.cells #[.slice none 0 0, .int .i64 0, .int .i64 0, .int .i64 0] 24)).alloc (Obj.cells (gmA (some ⟨w.heap.size + 1 + 1 + 1, 0, none⟩) 26 26 x y nx) 24)).alloc (Obj.cells (ivs z26).toArray 3)).drew = w2 at *
    have ND : Hid (w.heap.size + 1 + 1 + 1 ≠ w.heap.size + 1 + 1 ∧ w.heap.size + 1 + 1 + 1 ≠ w.heap.size + 1 ∧ w.heap.size + 1 + 1 + 1 ≠ w.heap.size ∧ w.heap.size + 1 + 1 ≠ w.heap.size + 1 ∧ w.heap.size + 1 + 1 ≠ w.heap.size ∧ w.heap.size ≤ w.heap.size + 1 + 1 + 1 ∧ w.heap.size ≤ w.heap.size + 1 + 1) := hide (by omega)
    obtain ⟨p0, p1, p2, p3⟩ := PH.cells
    have q1 := PH.frozen 1
    have q2 := PH.frozen 2
    go_upto_region 4 with fail
    have PH' := (PH.setW y).setB x
    have PG' := (PG.other ND.out.1 1 (.int .i64 y)).other ND.out.1 2 (.int .i64 x)
    have P6' := (P6.other (Ne.symm ND.out.2.2.2.1) 1 (.int .i64 y)).other (Ne.symm ND.out.2.2.2.1) 2 (.int .i64 x)
    have PS' := (PS.other (Ne.symm ND.out.2.2.2.2.1) 1 (.int .i64 y)).other (Ne.symm ND.out.2.2.2.2.1) 2 (.int .i64 x)
    have B2' := (B2.setCell (p := ⟨w.heap.size + 1 + 1, 1, none⟩) ND.out.2.2.2.2.2.2 (.int .i64 y)).setCell (p := ⟨w.heap.size + 1 + 1, 2, none⟩) ND.out.2.2.2.2.2.2 (.int .i64 x)
    clear PH PG P6 PS B2 p0 p1 p2 p3 q1 q2
    generalize (w2.setCell ⟨w.heap.size + 1 + 1, 1, none⟩ (.int .i64 y)).setCell ⟨w.heap.size + 1 + 1, 2, none⟩ (.int .i64 x) = w3 at *
    have PH := PH'
    have PG := PG'
    have P6 := P6'
    have PS := PS'
    have B2 := B2'
    clear PH' PG' P6' PS' B2'
    have PH := hide PH
    have PG := hide PG
    have P6 := hide P6
    have PS := hide PS
    have B2 := hide B2
    go_wp2_with fail
    go_loopw [8] (fun v wr => ∃ (k : Nat) (T : List Int), v = .int .i64 k ∧ 1 ≤ k ∧ k ≤ 25 ∧ Hid (T.length = 26) ∧ Hid (∀ i, i < 26 → T.getD i 0 = toldF S 1 k i) ∧ Hid (Blk wr (w.heap.size + 1 + 1 + 1) 3 T) ∧ Hid (Gm wr (w.heap.size + 1 + 1) (some ⟨w.heap.size + 1 + 1 + 1, 0, none⟩) 26 26 y x nx) ∧ Hid (Gm wr (w.heap.size + 1) none 0 0 0 0 0) ∧ Hid (Blk wr w.heap.size 54 S) ∧ Hid (Below w.heap.size w wr)) (fun v _ => 25 - (intOf v).toNat)
    case atStart => exact ⟨1, z26, rfl, by omega, by omega, rfl, told_start S 1, PG, PH, P6, PS, B2⟩
    case round =>
      clear PG PH P6 PS B2
      obtain ⟨k, T, rfl, hk1, hk, hTl, hTc, hT, hH, h6, hSS, hB⟩ := hrel
      by_cases hk25 : k < 25
      · have hlt : (k : Int) < 25 := by omega
        have c1 := hSS.out.cell (i := k) (by omega)
        have c2 := hSS.out.cell (i := 26 + k) (by omega)
        have r1 := HR.out k (by omega)
        have r2 := HR.out (26 + k) (by omega)
        have AW := hide (away_any k 1 (by omega) (by omega))
        have hal := aw_lt 1 k (by omega)
        have ST := hide (told_step S 1 k (by omega) T hTl.out hTc.out)
        generalize aw 1 k = q at *
        generalize S.getD k 0 = m at *
        generalize S.getD (26 + k) 0 = o at *
        obtain ⟨p0, -, -, -⟩ := hH.out.cells
        have f1 := hT.out.frozen q
        have e1 := hT.out.cell (i := q) (by rw [hTl.out]; omega)
        have SW := hide (fun n : Nat => (⟨(hT.out.drewN n).set q (-(m - o)), (hH.out.drewN n).other (Ne.symm ND.out.1) q _, (h6.out.drewN n).other (Ne.symm ND.out.2.1) q _, (hSS.out.drewN n).other (Ne.symm ND.out.2.2.1) q _, (hB.out.trans (drewN_below _ _ n)).setCell (p := ⟨w.heap.size + 1 + 1 + 1, q, none⟩) ND.out.2.2.2.2.2.1 _⟩ :
          Blk ((wr.drewN n).setCell ⟨w.heap.size + 1 + 1 + 1, q, none⟩ (.int .i64 (-(m - o)))) (w.heap.size + 1 + 1 + 1) 3 (T.set q (-(m - o))) ∧ Gm ((wr.drewN n).setCell ⟨w.heap.size + 1 + 1 + 1, q, none⟩ (.int .i64 (-(m - o)))) (w.heap.size + 1 + 1) (some ⟨w.heap.size + 1 + 1 + 1, 0, none⟩) 26 26 y x nx ∧ Gm ((wr.drewN n).setCell ⟨w.heap.size + 1 + 1 + 1, q, none⟩ (.int .i64 (-(m - o)))) (w.heap.size + 1) none 0 0 0 0 0 ∧ Blk ((wr.drewN n).setCell ⟨w.heap.size + 1 + 1 + 1, q, none⟩ (.int .i64 (-(m - o)))) w.heap.size 54 S ∧ Below w.heap.size w ((wr.drewN n).setCell ⟨w.heap.size + 1 + 1 + 1, q, none⟩ (.int .i64 (-(m - o))))))
        have ST' := hide (ST.out (-(m - o)) rfl)
        clear ST
        go_wp2_with fail
        go_quiet (fail)
        go_wp2_with fail
        go_region_with (go_at_call 29; refine (AW.out _).mono ?_; rintro e w9 ⟨rfl, hw⟩; subst w9)
        all_goals
          go_wp2
          exact ⟨⟨k + 1, _, by go_num, by omega, by omega, hide (by simp [hTl.out]), ST'.out, (SW.out _).1, (SW.out _).2.1, (SW.out _).2.2.1, (SW.out _).2.2.2.1, (SW.out _).2.2.2.2⟩, by simp [intOf]; omega⟩
      · obtain rfl : k = 25 := by omega
        have hTT : T = toldP S 1 := getD_ext T _ 26 hTl.out (toldP_length S 1) (fun i hi => by rw [hTc.out i hi, toldP, range_getD 26 _ i hi])
        subst hTT
        clear hTc
        go_wp2_with (first
          | refine wpList_load_gm rfl (.tmp 7) rfl (w.heap.size + 1 + 1) rfl hH.out ?_
          | (refine wpList_store_gm rfl (.tmp 6) (.tmp 51) rfl (w.heap.size + 1) rfl rfl h6.out ?_; intro w6 k6 kk6))
        refine bodyPost_ret (results_gm rfl _ _ (w.heap.size + 1) rfl k6) rfl ⟨w.heap.size + 1 + 1 + 1, ?_, ?_, ?_, ?_⟩
        · rw [HX.out, HY.out]; rfl
        · exact hT.out.keeps kk6 ND.out.2.1
        · omega
        · exact hB.out.trans ((kk6.mono (Y := fun k => w.heap.size ≤ k) (fun k _ e => by omega)).below (by have := hB.out.size; omega) (fun k hk e => by omega))

theorem told_any (S : List Int) (hS : S.length = 52) (hr : ∀ i, i < 52 → -1000 ≤ S.getD i 0 ∧ S.getD i 0 ≤ 1000) (t : Nat) (ht : t ≤ 1) (nx : Int) (w : World) :
    Calls Try.prog 32 #[.agg (ivs S).toArray, .int .i64 t, .int .i64 nx] w fun e w' => ∃ g, e = .returned (.agg (gmA (some ⟨g, 0, none⟩) 26 26 (ownB (S.getD 25 0) (S.getD 26 0) t) (othB (S.getD 25 0) (S.getD 26 0) t) nx)) ∧ Blk w' g 3 (toldP S t) ∧ w.heap.size ≤ g ∧ Below w.heap.size w w' := by
  rcases (show t = 0 ∨ t = 1 by omega) with rfl | rfl
  · exact told_0 S hS hr nx w
  · exact told_1 S hS hr nx w

end Go.Proofs.Ytmboikpcbkiepaa
