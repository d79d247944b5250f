/-
  What comes in: boards; the table of directions, as the program's text lays it. No conditions beyond those that each theorem bears.
-/
import Derived.Test.YtnbaangnpoblfaaDoorWa
import Derived.Test.YtnbaangnpoblfaaDoorTie
import Derived.Test.YtnbaangnpoblfaaDoorCards
import Derived.ProofKit
import Derived.LaidMore
import Derived.OpenShut
import Derived.Stop.Joined
import Derived.ChangeOld
import Derived.Below
import Derived.SevenTiedAt
import Derived.SizedLaws
import Derived.Lib.SmallJoins
namespace Go.Proofs.YtnbaangnpoblfaaDoor
open Go.ChangeShapes Go.WideShapes Go.ChangeAt Go.WideMaps Go.WideElems Go.RowKit Go.Joins

theorem args_bytes3 : Tryd.prog.bytesOf 3 = 8 := by kernel_rfl

set_option maxRecDepth 100000 in
theorem open_dg {H : Type} {enc : TypeId × Value → H} {W : World} {b0 : Nat} {r : Reach} {v : Value} {d : DataW H} {p : List MemPlace} {ts : List TypeId} {ds : List (DataW H)}
    (hv : Value.okWide Tryd.prog W r b0 24 v) (h : DataW.Trod enc Tryd.prog W 0 (fun _ => true) true 24 v d p) (ht : ts[0]? = some 24) (hd : ds[0]? = some d)
    (hsz : (DataW.weightsEach Tryd.prog ts ds).all (· ≤ reachBytes) = true) :
    ∃ (a : Option Addr) (n c : Nat) (P : List Int) (x : Int), v = .agg (dgA a n c x) ∧ Rd W a n c P ∧ n * 8 ≤ 140737488351232 ∧ ∀ u ∈ P, -9223372036854775808 ≤ u ∧ u ≤ 9223372036854775807 := by
  obtain ⟨v0, v1, y0, y1, m0, rfl, hdd, _, hy0, hy1⟩ := open_agg2 Tryd.underlying24 (by kernel_rfl) (by kernel_rfl) hv h
  obtain ⟨x1, e1, e1', _⟩ := DataW.trod_int Tryd.underlying3 hy1
  simp at e1
  subst e1
  rcases open_ints Tryd.underlying22 Tryd.underlying3 (by kernel_rfl) hy0 with ⟨hcs, _⟩ | ⟨x, l, c, zs, hcs, _, hl, hm, hz, hx, hcell, hwf⟩
  · simp at hcs
    subst hcs
    exact ⟨none, 0, 0, [], x1, rfl, Rd.of_nil _, by omega, fun u hu => by simp at hu⟩
  · simp at hcs
    subst hcs
    simp only [if_true] at hz
    have hR := Rd.of_open hl hm hz hcell
    refine ⟨some x, l, c, _, x1, rfl, hR, ?_, ?_⟩
    · have hw : (zs.length * 8) ∈ d.weights Tryd.prog 24 := by
        rw [hdd, hx]
        simp only [DataW.weights, Tryd.underlying24, List.map_cons, List.map_nil, DataW.weightsEach, Tryd.underlying22, args_bytes3, lits, List.length_map, List.length_take, List.length_drop]
        refine List.mem_append_left _ (List.mem_cons.2 (Or.inl ?_))
        rw [show min l zs.length + (zs.length - l) = zs.length by omega]
      have := List.all_eq_true.1 hsz _ (DataW.weights_mem_each (j := 0) ht hd _ hw)
      have := of_decide_eq_true this
      unfold reachBytes at this
      omega
    · intro u hu
      have := hwf u (List.mem_of_mem_take hu)
      exact bounds_i64 this

theorem door_own : ownKnob Tryd.prog.godebug = none := by kernel_rfl
theorem door_laidOut : laidOutB Tryd.prog = true := by kernel_rfl
theorem gDir : Tryd.prog.globalNamed "gameroom/draughts.directions" = some 0 := by kernel_rfl
theorem tDir : (Tryd.prog.globals[0]?).map (·.type) = some 105 := by kernel_rfl
theorem gTab : Tryd.prog.globalNamed "math/bits.deBruijn64tab" = some 1 := by kernel_rfl
theorem tTab : (Tryd.prog.globals[1]?).map (·.type) = some 113 := by kernel_rfl

abbrev laid1 : List (String × DataW Unit) := [("gameroom/draughts.directions", Rows.laid_gameroom_draughts_directions)]
abbrev laid2 : List (String × DataW Unit) := [("math/bits.deBruijn64tab", Rows.laid_math_bits_deBruijn64tab), ("gameroom/draughts.directions", Rows.laid_gameroom_draughts_directions)]

theorem door_met1 (os : Os) (args : Array Value) : laidMetH Tryd.prog laid1 ((World.doorLaid Tryd.prog 400 os).forCall (fun _ _ => 0) ⟨#[], args, []⟩).memory :=
  laidMetH_of_parts3 (fuel := 8) (laidMet_of_run' 8 (by kernel_rfl) (by kernel_rfl)) (by kernel_rfl) (by kernel_rfl)
theorem door_met2 (os : Os) (args : Array Value) : laidMetH Tryd.prog laid2 ((World.doorLaid Tryd.prog 400 os).forCall (fun _ _ => 0) ⟨#[], args, []⟩).memory :=
  laidMetH_of_parts3 (fuel := 8) (laidMet_of_run' 8 (by kernel_rfl) (by kernel_rfl)) (by kernel_rfl) (by kernel_rfl)

theorem dir_datum : (Rows.laid_gameroom_draughts_directions : DataW Unit) = .agg ([-5, -4, 4, 5].map fun z => .lit (.int .i64 z)) := rfl

theorem tab_datum : (Rows.laid_math_bits_deBruijn64tab : DataW Unit) = .agg (tabL.map fun k => .lit (.int .u8 (k : Nat))) := rfl

theorem dir_of {W : World} {ps : List MemPlace} (h : DataW.LaidVars Tryd.prog W laid1 ps) : DTab W := by
  obtain ⟨g0, t0, cs0, f0, p0, q0, hg0, ht0, hv0, hd0, _, _⟩ := h
  obtain rfl := Option.some.inj (gDir.symm.trans hg0)
  obtain rfl := Option.some.inj (tDir.symm.trans ht0)
  obtain ⟨xs, m1, rfl, hx1, hlen, hn, hel⟩ := DataW.trod_array Tryd.underlying105 hd0
  have c3 : Tryd.prog.cellsOf 3 = 1 := by kernel_rfl
  simp only [Prod.mk.injEq] at hx1
  have hx := hx1.1
  rw [dir_datum, DataW.agg.injEq] at hx
  intro i v hv
  have hi : i < 4 := (List.getElem?_eq_some_iff.1 hv).1
  rw [Nat.zero_add]
  have h0 := hel i hi
  have hix : i < xs.length := by omega
  rw [c3, List.getElem?_eq_getElem hix] at h0
  obtain ⟨k, e1, e2, _⟩ := DataW.trod_int Tryd.underlying3 h0
  have hk := congrArg (fun l : List (DataW Unit) => l[i]?) hx
  have htl : i < [(-5 : Int), -4, 4, 5].length := by simpa using hi
  simp only [List.getElem?_map, List.getElem?_eq_getElem hix, List.getElem?_eq_getElem htl, Option.map_some, Option.some.injEq] at hk
  rw [e2] at hk
  simp only [DataW.lit.injEq, Lit.int.injEq, true_and] at hk
  have hc := World.var?_cell hg0 hv0 i
  have e3 : cs0[i]? = some (.int .i64 k) := by
    have : (cs0.toList.drop (i * 1)).take 1 = [.int .i64 k] := e1
    rw [Nat.mul_one] at this
    have h4 := congrArg (fun l : List Value => l[0]?) this
    simpa using h4
  rw [e3] at hc
  rw [hc, ← hv, ← hk]
  have h4 : i = 0 ∨ i = 1 ∨ i = 2 ∨ i = 3 := by omega
  rcases h4 with rfl | rfl | rfl | rfl <;> rfl

theorem of_laid1 {W : World} (h : laidMetH Tryd.prog laid1 W) : DTab W := by
  rw [MakeChecks.laidMetH_plain _ _ _ (by kernel_rfl)] at h
  obtain ⟨ps, h, _, _⟩ := h
  exact dir_of h

theorem of_laid2 {W : World} (h : laidMetH Tryd.prog laid2 W) : DTab W ∧ TzT W := by
  rw [MakeChecks.laidMetH_plain _ _ _ (by kernel_rfl)] at h
  obtain ⟨ps, ⟨g0, t0, cs0, f0, p0, q0, hg0, ht0, hv0, hd0, hrest, _⟩, _, _⟩ := h
  refine ⟨dir_of hrest, ?_⟩
  obtain rfl := Option.some.inj (gTab.symm.trans hg0)
  obtain rfl := Option.some.inj (tTab.symm.trans ht0)
  obtain ⟨xs, m1, rfl, hx1, hlen, hn, hel⟩ := DataW.trod_array Tryd.underlying113 hd0
  have c5 : Tryd.prog.cellsOf 5 = 1 := by kernel_rfl
  simp only [Prod.mk.injEq] at hx1
  have hx := hx1.1
  rw [tab_datum, DataW.agg.injEq] at hx
  intro i hi
  have h0 := hel i hi
  have hix : i < xs.length := by omega
  rw [c5, List.getElem?_eq_getElem hix] at h0
  obtain ⟨k, e1, e2, _⟩ := DataW.trod_int Tryd.underlying5 h0
  have hk := congrArg (fun l : List (DataW Unit) => l[i]?) hx
  have htl : i < tabL.length := by simpa [tabL] using hi
  simp only [List.getElem?_map, List.getElem?_eq_getElem hix, List.getElem?_eq_getElem htl, Option.map_some, Option.some.injEq] at hk
  rw [e2] at hk
  simp only [DataW.lit.injEq, Lit.int.injEq, true_and] at hk
  have hc := World.var?_cell hg0 hv0 i
  have e3 : cs0[i]? = some (.int .u8 k) := by
    have : (cs0.toList.drop (i * 1)).take 1 = [.int .u8 k] := e1
    rw [Nat.mul_one] at this
    have h4 := congrArg (fun l : List Value => l[0]?) this
    simpa using h4
  rw [e3] at hc
  rw [hc, ← hk]
  simp [List.getD, htl]

end Go.Proofs.YtnbaangnpoblfaaDoor
