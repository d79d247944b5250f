/-
  What comes in: boards; the table of sources, as the program's text lays it. No conditions beyond those that each theorem bears.
-/
import Derived.Test.YticalbpohhpjaaaDoorSn
import Derived.Test.YticalbpohhpjaaaDoorTie
import Derived.Test.YticalbpohhpjaaaDoorCards
import Derived.ProofKit
import Derived.LaidMore
import Derived.OpenShut
import Derived.Stop.Joined
import Derived.ChangeOld
import Derived.Below
import Derived.SevenTiedAt
import Derived.SizedLaws
import Derived.Lib.SmallJoins
namespace Go.Proofs.YticalbpohhpjaaaDoor
open Go.ChangeShapes Go.WideShapes Go.ChangeAt Go.WideMaps Go.WideElems Go.RowKit Go.Joins

/-- The table of directions, as it lies in memory. -/
def dtab : List Int := [0, 1, -1, 0, 0, -1, 1, 0]

def Tab (w : World) : Prop := ∀ i, i < 8 → w.cell? ⟨0, i, none⟩ = some (.int .i64 (dtab.getD i 0))

theorem Tab.lt {w : World} (h : Tab w) : 0 < w.heap.size := World.block_lt_of_cell? w _ (h 0 (by omega))

theorem Tab.below {w w' : World} {B : Nat} (h : Tab w) (hb : Below B w w') (hB : 0 < B) : Tab w' := fun i hi => (hb.cell (p := ⟨0, i, none⟩) hB).trans (h i hi)

theorem Tab.mono {w w' : World} (h : Tab w) (hb : Below w.heap.size w w') : Tab w' := h.below hb h.lt

theorem Tab.keeps {X : Nat → Prop} {w w' : World} (h : Tab w) (hk : Keeps X w w') (hX : ¬ X 0) : Tab w' := fun i hi => hk.cell (h i hi) hX

theorem Tab.range {w : World} (h : Tab w) : w.rangeAt 0 0 (ivs dtab) := by
  intro j v hv
  have hj : j < 8 := by have := (List.getElem?_eq_some_iff.1 hv).1; rwa [ivs_length] at this
  rw [Nat.zero_add, h j hj, ← hv]
  have hj' : j < dtab.length := hj
  simp [ivs, List.getD, hj']

theorem args_bytes3 : Tryd.prog.bytesOf 3 = 8 := by kernel_rfl

set_option maxRecDepth 100000 in
theorem open_gd {H : Type} {enc : TypeId × Value → H} {W : World} {b0 : Nat} {r : Reach} {v : Value} {d : DataW H} {p : List MemPlace} {ts : List TypeId} {ds : List (DataW H)}
    (hv : Value.okWide Tryd.prog W r b0 24 v) (h : DataW.Trod enc Tryd.prog W 0 (fun _ => true) true 24 v d p) (ht : ts[0]? = some 24) (hd : ds[0]? = some d)
    (hsz : (DataW.weightsEach Tryd.prog ts ds).all (· ≤ reachBytes) = true) :
    ∃ (a : Option Addr) (n c : Nat) (P : List Int) (x y : Int), v = .agg (gdA x y a n c) ∧ Rd W a n c P ∧ n * 8 ≤ 140737488351232 ∧ ∀ u ∈ P, -9223372036854775808 ≤ u ∧ u ≤ 9223372036854775807 := by
  obtain ⟨v0, v1, v2, y0, y1, y2, m0, rfl, hdd, _, hy0, hy1, hy2⟩ := open_agg3 Tryd.underlying24 (by kernel_rfl) (by kernel_rfl) hv h
  obtain ⟨x1, e1, e1', _⟩ := DataW.trod_int Tryd.underlying3 hy0
  obtain ⟨x2, e2, e2', _⟩ := DataW.trod_int Tryd.underlying3 hy1
  simp at e1 e2
  subst e1 e2
  rcases open_ints Tryd.underlying22 Tryd.underlying3 (by kernel_rfl) hy2 with ⟨hcs, _⟩ | ⟨x, l, c, zs, hcs, _, hl, hm, hz, hx, hcell, hwf⟩
  · simp at hcs
    subst hcs
    exact ⟨none, 0, 0, [], x1, x2, rfl, Rd.of_nil _, by omega, fun u hu => by simp at hu⟩
  · simp at hcs
    subst hcs
    simp only [if_true] at hz
    have hR := Rd.of_open hl hm hz hcell
    refine ⟨some x, l, c, _, x1, x2, rfl, hR, ?_, ?_⟩
    · have hw : (zs.length * 8) ∈ d.weights Tryd.prog 24 := by
        rw [hdd, hx]
        simp only [DataW.weights, Tryd.underlying24, List.map_cons, List.map_nil, DataW.weightsEach, Tryd.underlying22, args_bytes3, lits, List.length_map, List.length_take, List.length_drop]
        refine List.mem_append_right _ (List.mem_append_right _ (List.mem_append_left _ (List.mem_cons.2 (Or.inl ?_))))
        rw [show min l zs.length + (zs.length - l) = zs.length by omega]
      have := List.all_eq_true.1 hsz _ (DataW.weights_mem_each (j := 0) ht hd _ hw)
      have := of_decide_eq_true this
      unfold reachBytes at this
      omega
    · intro u hu
      have := hwf u (List.mem_of_mem_take hu)
      exact bounds_i64 this

theorem door_own : ownKnob Tryd.prog.godebug = none := by kernel_rfl
theorem door_laidOut : laidOutB Tryd.prog = true := by kernel_rfl
theorem gTab : Tryd.prog.globalNamed "gameroom/slide.sources" = some 0 := by kernel_rfl
theorem tTab : (Tryd.prog.globals[0]?).map (·.type) = some 81 := by kernel_rfl

abbrev laid1 : List (String × DataW Unit) := [("gameroom/slide.sources", Rows.laid_gameroom_slide_sources)]

theorem door_met (os : Os) (args : Array Value) : laidMetH Tryd.prog laid1 ((World.doorLaid Tryd.prog 400 os).forCall (fun _ _ => 0) ⟨#[], args, []⟩).memory :=
  laidMetH_of_parts3 (fuel := 8) (laidMet_of_run' 8 (by kernel_rfl) (by kernel_rfl)) (by kernel_rfl) (by kernel_rfl)

theorem tab_datum : (Rows.laid_gameroom_slide_sources : DataW Unit) = .agg ((List.range 4).map fun j => .agg ((List.range 2).map fun i => .lit (.int .i64 (dtab.getD (2 * j + i) 0)))) := rfl

theorem of_laid {W : World} (h : laidMetH Tryd.prog laid1 W) : Tab W := by
  rw [MakeChecks.laidMetH_plain _ _ _ (by kernel_rfl)] at h
  obtain ⟨ps, ⟨g0, t0, cs0, f0, p0, q0, hg0, ht0, hv0, hd0, _, _⟩, _, _⟩ := h
  obtain rfl := Option.some.inj (gTab.symm.trans hg0)
  obtain rfl := Option.some.inj (tTab.symm.trans ht0)
  obtain ⟨xs, m1, rfl, hx1, hlen, hn, hel⟩ := DataW.trod_array Tryd.underlying81 hd0
  have c80 : Tryd.prog.cellsOf 80 = 2 := by kernel_rfl
  have c3 : Tryd.prog.cellsOf 3 = 1 := by kernel_rfl
  simp only [Prod.mk.injEq] at hx1
  have hx := hx1.1
  rw [tab_datum, DataW.agg.injEq] at hx
  intro i hi
  obtain ⟨j, r, rfl, hj, hr⟩ : ∃ j r, i = 2 * j + r ∧ j < 4 ∧ r < 2 := ⟨i / 2, i % 2, by omega, by omega, by omega⟩
  have h0 := hel j hj
  have hjx : j < xs.length := by omega
  rw [c80, List.getElem?_eq_getElem hjx] at h0
  obtain ⟨ys, m2, rfl, hy1, hlen2, hn2, hel2⟩ := DataW.trod_array Tryd.underlying80 h0
  have hk := congrArg (fun l : List (DataW Unit) => l[j]?) hx
  simp only [List.getElem?_map, List.getElem?_eq_getElem hjx, List.getElem?_range hj, Option.map_some, Option.some.injEq] at hk
  rw [hy1] at hk
  simp only [DataW.agg.injEq] at hk
  have h1 := hel2 r hr
  have hrx : r < ys.length := by omega
  rw [c3, List.getElem?_eq_getElem hrx] at h1
  obtain ⟨k, e1, e2, _⟩ := DataW.trod_int Tryd.underlying3 h1
  have hk2 := congrArg (fun l : List (DataW Unit) => l[r]?) hk
  simp only [List.getElem?_map, List.getElem?_eq_getElem hrx, List.getElem?_range hr, Option.map_some, Option.some.injEq] at hk2
  rw [e2] at hk2
  simp only [DataW.lit.injEq, Lit.int.injEq, true_and] at hk2
  have hc := World.var?_cell hg0 hv0 (2 * j + r)
  have e3 : cs0[2 * j + r]? = some (.int .i64 k) := by
    have : (((cs0.toList.drop (j * 2)).take 2).drop (r * 1)).take 1 = [.int .i64 k] := e1
    rw [Nat.mul_one] at this
    have h4 := congrArg (fun l : List Value => l[0]?) this
    simp only [List.getElem?_take, List.getElem?_drop, List.getElem?_cons_zero] at h4
    rw [if_pos (by omega), if_pos (by omega)] at h4
    simp only [Array.getElem?_toList] at h4
    rw [show j * 2 + (r + 0) = 2 * j + r by omega] at h4
    exact h4
  rw [e3] at hc
  rw [hc, ← hk2]

end Go.Proofs.YticalbpohhpjaaaDoor
