/-
  What comes in: positions and moves; the tables of bits, steps and worths, as the program's text lays them. No conditions beyond those that each theorem bears.
-/
import Derived.Test.YtdmlamnonbmboaaGreatDoorV18
import Derived.Test.YtdmlamnonbmboaaGreatDoorV17
import Derived.Test.YtdmlamnonbmboaaGreatDoorV37
import Derived.Test.YtdmlamnonbmboaaGreatDoorTie
import Derived.Test.YtdmlamnonbmboaaGreatDoorCards
import Derived.ProofKit
import Derived.LaidMore
import Derived.OpenShut
import Derived.Stop.Joined
import Derived.ChangeOld
import Derived.Below
import Derived.SevenTiedAt
import Derived.SizedLaws
import Derived.Lib.SmallJoins
import Derived.Shelf.Vars
namespace Go.Proofs.YtdmlamnonbmboaaGreatDoor
open Go.ChangeShapes Go.WideShapes Go.ChangeAt Go.WideMaps Go.WideElems Go.RowKit Go.Joins

theorem args_bytes3 : Tryz.prog.bytesOf 3 = 8 := by kernel_rfl
theorem cells3 : Tryz.prog.cellsOf 3 = 1 := by kernel_rfl
theorem cells22 : Tryz.prog.cellsOf 22 = 1 := by kernel_rfl
theorem cells24 : Tryz.prog.cellsOf 24 = 6 := by kernel_rfl

theorem six {α : Type} {cs : Array α} (h : cs.size = 6) : ∃ c0 c1 c2 c3 c4 c5, cs = #[c0, c1, c2, c3, c4, c5] := by
  obtain ⟨l⟩ := cs
  match l, h with
  | [c0, c1, c2, c3, c4, c5], _ => exact ⟨c0, c1, c2, c3, c4, c5, rfl⟩

set_option maxRecDepth 100000 in
theorem open_ch {H : Type} {enc : TypeId × Value → H} {W : World} {b0 : Nat} {r : Reach} {v : Value} {d : DataW H} {p : List MemPlace} {ts : List TypeId} {ds : List (DataW H)}
    (hv : Value.okWide Tryz.prog W r b0 24 v) (h : DataW.Trod enc Tryz.prog W 0 (fun _ => true) true 24 v d p) (ht : ts[0]? = some 24) (hd : ds[0]? = some d)
    (hsz : (DataW.weightsEach Tryz.prog ts ds).all (· ≤ reachBytes) = true) :
    ∃ (a : Option Addr) (n c : Nat) (P : List Int) (t k e h f : Int), v = .agg (chA a n c t k e h f) ∧ Rd W a n c P ∧ n * 8 ≤ 140737488351232 ∧ -9223372036854775808 ≤ e ∧ e ≤ 9223372036854775807 := by
  obtain ⟨cs, rfl, hs6⟩ := okWide_struct Tryz.underlying24 hv
  obtain ⟨c0, c1, c2, c3, c4, c5, rfl⟩ := six (hs6.trans cells24)
  obtain ⟨fuel, hf⟩ := h
  obtain ⟨xs, m0, _, hx, hl, hlen, hfl⟩ := DataW.trod_struct Tryz.underlying24 hf
  match xs, hlen with
  | [y0, y1, y2, y3, y4, y5], _ =>
    have h0 : DataW.trod enc Tryz.prog W 0 (fun _ => true) true m0 22 (([c0, c1, c2, c3, c4, c5].drop 0).take (Tryz.prog.cellsOf 22)) = some y0 := hfl 0 _ rfl
    have h1 : DataW.trod enc Tryz.prog W 0 (fun _ => true) true m0 3 (([c0, c1, c2, c3, c4, c5].drop 1).take (Tryz.prog.cellsOf 3)) = some y1 := hfl 1 _ rfl
    have h2 : DataW.trod enc Tryz.prog W 0 (fun _ => true) true m0 3 (([c0, c1, c2, c3, c4, c5].drop 2).take (Tryz.prog.cellsOf 3)) = some y2 := hfl 2 _ rfl
    have h3 : DataW.trod enc Tryz.prog W 0 (fun _ => true) true m0 3 (([c0, c1, c2, c3, c4, c5].drop 3).take (Tryz.prog.cellsOf 3)) = some y3 := hfl 3 _ rfl
    have h4 : DataW.trod enc Tryz.prog W 0 (fun _ => true) true m0 3 (([c0, c1, c2, c3, c4, c5].drop 4).take (Tryz.prog.cellsOf 3)) = some y4 := hfl 4 _ rfl
    have h5 : DataW.trod enc Tryz.prog W 0 (fun _ => true) true m0 3 (([c0, c1, c2, c3, c4, c5].drop 5).take (Tryz.prog.cellsOf 3)) = some y5 := hfl 5 _ rfl
    rw [cells22] at h0
    rw [cells3] at h1 h2 h3 h4 h5
    obtain ⟨x1, e1, e1', b1⟩ := DataW.trod_int Tryz.underlying3 h1
    obtain ⟨x2, e2, e2', b2⟩ := DataW.trod_int Tryz.underlying3 h2
    obtain ⟨x3, e3, e3', b3⟩ := DataW.trod_int Tryz.underlying3 h3
    obtain ⟨x4, e4, e4', b4⟩ := DataW.trod_int Tryz.underlying3 h4
    obtain ⟨x5, e5, e5', b5⟩ := DataW.trod_int Tryz.underlying3 h5
    simp at e1 e2 e3 e4 e5
    subst e1 e2 e3 e4 e5
    have hb := bounds_i64 b3
    rcases open_ints Tryz.underlying22 Tryz.underlying3 (by kernel_rfl) h0 with ⟨hcs, _⟩ | ⟨x, l, c, zs, hcs, _, hl2, hm, hz, hx0, hcell, hwf⟩
    · simp at hcs
      subst hcs
      exact ⟨none, 0, 0, [], x1, x2, x3, x4, x5, rfl, Rd.of_nil _, by omega, hb.1, hb.2⟩
    · simp at hcs
      subst hcs
      simp only [if_true] at hz
      have hR := Rd.of_open hl2 hm hz hcell
      refine ⟨some x, l, c, _, x1, x2, x3, x4, x5, rfl, hR, ?_, hb.1, hb.2⟩
      have hdd : d = .agg [y0.1, y1.1, y2.1, y3.1, y4.1, y5.1] := by
        simp only [Prod.mk.injEq] at hx
        simpa using hx.1
      have hw : (zs.length * 8) ∈ d.weights Tryz.prog 24 := by
        rw [hdd, hx0]
        simp only [DataW.weights, Tryz.underlying24, List.map_cons, List.map_nil, DataW.weightsEach, Tryz.underlying22, args_bytes3, lits, List.length_map, List.length_take, List.length_drop]
        refine List.mem_append_left _ (List.mem_cons.2 (Or.inl ?_))
        rw [show min l zs.length + (zs.length - l) = zs.length by omega]
      have := List.all_eq_true.1 hsz _ (DataW.weights_mem_each (j := 0) ht hd _ hw)
      have := of_decide_eq_true this
      unfold reachBytes at this
      omega

theorem cells26 : Tryz.prog.cellsOf 32 = 3 := by kernel_rfl
theorem three {α : Type} {cs : Array α} (h : cs.size = 3) : ∃ c0 c1 c2, cs = #[c0, c1, c2] := by
  obtain ⟨l⟩ := cs
  match l, h with
  | [c0, c1, c2], _ => exact ⟨c0, c1, c2, rfl⟩
set_option maxRecDepth 100000 in
theorem open_mv {H : Type} {enc : TypeId × Value → H} {W : World} {b0 : Nat} {r : Reach} {v : Value} {d : DataW H} {p : List MemPlace}
    (hv : Value.okWide Tryz.prog W r b0 32 v) (h : DataW.Trod enc Tryz.prog W 0 (fun _ => true) true 32 v d p) : ∃ x y z : Int, v = m3 x y z := by
  obtain ⟨cs, rfl, hs3⟩ := okWide_struct Tryz.underlying32 hv
  obtain ⟨c0, c1, c2, rfl⟩ := three (hs3.trans cells26)
  obtain ⟨fuel, hf⟩ := h
  obtain ⟨xs, m0, _, hx, hl, hlen, hfl⟩ := DataW.trod_struct Tryz.underlying32 hf
  match xs, hlen with
  | [y0, y1, y2], _ =>
    have h0 : DataW.trod enc Tryz.prog W 0 (fun _ => true) true m0 3 (([c0, c1, c2].drop 0).take (Tryz.prog.cellsOf 3)) = some y0 := hfl 0 _ rfl
    have h1 : DataW.trod enc Tryz.prog W 0 (fun _ => true) true m0 3 (([c0, c1, c2].drop 1).take (Tryz.prog.cellsOf 3)) = some y1 := hfl 1 _ rfl
    have h2 : DataW.trod enc Tryz.prog W 0 (fun _ => true) true m0 3 (([c0, c1, c2].drop 2).take (Tryz.prog.cellsOf 3)) = some y2 := hfl 2 _ rfl
    rw [cells3] at h0 h1 h2
    obtain ⟨x0, e0, e0', b0⟩ := DataW.trod_int Tryz.underlying3 h0
    obtain ⟨x1, e1, e1', b1⟩ := DataW.trod_int Tryz.underlying3 h1
    obtain ⟨x2, e2, e2', b2⟩ := DataW.trod_int Tryz.underlying3 h2
    simp at e0 e1 e2
    subst e0 e1 e2
    exact ⟨x0, x1, x2, rfl⟩

theorem door_own : ownKnob Tryz.prog.godebug = none := by kernel_rfl
theorem door_laidOut : laidOutB Tryz.prog = true := by kernel_rfl
theorem gTab : Tryz.prog.globalNamed "math/bits.deBruijn64tab" = some 2 := by kernel_rfl
theorem tTab : (Tryz.prog.globals[2]?).map (·.type) = some 137 := by kernel_rfl
theorem gWor : Tryz.prog.globalNamed "gameroom/pieces.worth" = some 0 := by kernel_rfl
theorem tWor : (Tryz.prog.globals[0]?).map (·.type) = some 111 := by kernel_rfl
theorem gSte : Tryz.prog.globalNamed "gameroom/pieces.steps" = some 1 := by kernel_rfl
theorem tSte : (Tryz.prog.globals[1]?).map (·.type) = some 136 := by kernel_rfl

abbrev laid9 : List (String × DataW Unit) := [("math/bits.deBruijn32tab", Rows.laid_math_bits_deBruijn32tab), ("math/bits.deBruijn64tab", Rows.laid_math_bits_deBruijn64tab), ("internal/strconv.uint64pow10", Rows.laid_internal_strconv_uint64pow10), ("unicode/utf8.acceptRanges", Rows.laid_unicode_utf8_acceptRanges), ("strconv.ErrRange", Rows.laid_strconv_ErrRange), ("strconv.ErrSyntax", Rows.laid_strconv_ErrSyntax), ("gameroom/pieces.steps", Rows.laid_gameroom_pieces_steps), ("gameroom/pieces.worth", Rows.laid_gameroom_pieces_worth), ("unicode/utf8.first", Rows.laid_unicode_utf8_first)]

theorem max_of {W : World} (h : W.ShapedOpen Tryz.prog) : ∃ m, W.cell? ⟨3, 0, none⟩ = some (.int .i64 m) :=
  cell_of_shapedOpen_int (zero := #[.int .i64 0]) (g := 3) (t := 3) (k := .i64) h (of_decide_eq_true (by kernel_rfl)) (by kernel_rfl) rfl (by kernel_rfl) (by kernel_rfl) Tryz.underlying3

theorem wor_datum : (Rows.laid_gameroom_pieces_worth : DataW Unit) = .agg ((List.range 7).map fun j => .lit (.int .i64 (wo j))) := rfl
theorem ste_datum : (Rows.laid_gameroom_pieces_steps : DataW Unit) = .agg ((List.range 16).map fun j => .agg ((List.range 2).map fun i => .lit (.int .i64 (dS.getD (2 * j + i) 0)))) := rfl
theorem tab_datum : (Rows.laid_math_bits_deBruijn64tab : DataW Unit) = .agg (tabL.map fun k => .lit (.int .u8 (k : Nat))) := rfl

theorem ste_of {W : World} {ps : List MemPlace} {L : List (String × DataW Unit)} (h : DataW.LaidVars Tryz.prog W (("gameroom/pieces.steps", Rows.laid_gameroom_pieces_steps) :: L) ps) : TabS W ∧ ∃ q, DataW.LaidVars Tryz.prog W L q := by
  obtain ⟨g0, t0, cs0, f0, p0, q0, hg0, ht0, hv0, hd0, hrest, _⟩ := h
  refine ⟨?_, _, hrest⟩
  obtain rfl := Option.some.inj (gSte.symm.trans hg0)
  obtain rfl := Option.some.inj (tSte.symm.trans ht0)
  obtain ⟨xs, m1, rfl, hx1, hlen, hn, hel⟩ := DataW.trod_array Tryz.underlying136 hd0
  have c116 : Tryz.prog.cellsOf 115 = 2 := by kernel_rfl
  simp only [Prod.mk.injEq] at hx1
  have hx := hx1.1
  rw [ste_datum, DataW.agg.injEq] at hx
  intro i hi
  obtain ⟨j, r, rfl, hj, hr⟩ : ∃ j r, i = 2 * j + r ∧ j < 16 ∧ r < 2 := ⟨i / 2, i % 2, by omega, by omega, by omega⟩
  have h0 := hel j hj
  have hjx : j < xs.length := by omega
  rw [c116, List.getElem?_eq_getElem hjx] at h0
  obtain ⟨ys, m2, rfl, hy1, hlen2, hn2, hel2⟩ := DataW.trod_array Tryz.underlying115 h0
  have hk := congrArg (fun l : List (DataW Unit) => l[j]?) hx
  simp only [List.getElem?_map, List.getElem?_eq_getElem hjx, List.getElem?_range hj, Option.map_some, Option.some.injEq] at hk
  rw [hy1] at hk
  simp only [DataW.agg.injEq] at hk
  have h1 := hel2 r hr
  have hrx : r < ys.length := by omega
  rw [cells3, List.getElem?_eq_getElem hrx] at h1
  obtain ⟨k, e1, e2, _⟩ := DataW.trod_int Tryz.underlying3 h1
  have hk2 := congrArg (fun l : List (DataW Unit) => l[r]?) hk
  simp only [List.getElem?_map, List.getElem?_eq_getElem hrx, List.getElem?_range hr, Option.map_some, Option.some.injEq] at hk2
  rw [e2] at hk2
  simp only [DataW.lit.injEq, Lit.int.injEq, true_and] at hk2
  have hc := World.var?_cell hg0 hv0 (2 * j + r)
  have e3 : cs0[2 * j + r]? = some (.int .i64 k) := by
    have : (((cs0.toList.drop (j * 2)).take 2).drop (r * 1)).take 1 = [.int .i64 k] := e1
    rw [Nat.mul_one] at this
    have h4 := congrArg (fun l : List Value => l[0]?) this
    simp only [List.getElem?_take, List.getElem?_drop, List.getElem?_cons_zero] at h4
    rw [if_pos (by omega), if_pos (by omega)] at h4
    simp only [Array.getElem?_toList] at h4
    rw [show j * 2 + (r + 0) = 2 * j + r by omega] at h4
    exact h4
  rw [e3] at hc
  rw [hc, ← hk2]

theorem wor_of {W : World} {ps : List MemPlace} {L : List (String × DataW Unit)} (h : DataW.LaidVars Tryz.prog W (("gameroom/pieces.worth", Rows.laid_gameroom_pieces_worth) :: L) ps) : TabW W := by
  obtain ⟨g0, t0, cs0, f0, p0, q0, hg0, ht0, hv0, hd0, _, _⟩ := h
  obtain rfl := Option.some.inj (gWor.symm.trans hg0)
  obtain rfl := Option.some.inj (tWor.symm.trans ht0)
  obtain ⟨xs, m1, rfl, hx1, hlen, hn, hel⟩ := DataW.trod_array Tryz.underlying111 hd0
  simp only [Prod.mk.injEq] at hx1
  have hx := hx1.1
  rw [wor_datum, DataW.agg.injEq] at hx
  intro i hi
  have h0 := hel i hi
  have hix : i < xs.length := by omega
  rw [cells3, List.getElem?_eq_getElem hix] at h0
  obtain ⟨k, e1, e2, _⟩ := DataW.trod_int Tryz.underlying3 h0
  have hk := congrArg (fun l : List (DataW Unit) => l[i]?) hx
  simp only [List.getElem?_map, List.getElem?_eq_getElem hix, List.getElem?_range hi, Option.map_some, Option.some.injEq] at hk
  rw [e2] at hk
  simp only [DataW.lit.injEq, Lit.int.injEq, true_and] at hk
  have hc := World.var?_cell hg0 hv0 i
  have e3 : cs0[i]? = some (.int .i64 k) := by
    have : (cs0.toList.drop (i * 1)).take 1 = [.int .i64 k] := e1
    rw [Nat.mul_one] at this
    have h4 := congrArg (fun l : List Value => l[0]?) this
    simpa using h4
  rw [e3] at hc
  rw [hc, ← hk]

theorem tab_of {W : World} {ps : List MemPlace} {L : List (String × DataW Unit)} (h : DataW.LaidVars Tryz.prog W (("math/bits.deBruijn64tab", Rows.laid_math_bits_deBruijn64tab) :: L) ps) : TzT W ∧ ∃ q, DataW.LaidVars Tryz.prog W L q := by
  obtain ⟨g0, t0, cs0, f0, p0, q0, hg0, ht0, hv0, hd0, hrest, _⟩ := h
  refine ⟨?_, _, hrest⟩
  obtain rfl := Option.some.inj (gTab.symm.trans hg0)
  obtain rfl := Option.some.inj (tTab.symm.trans ht0)
  obtain ⟨xs, m1, rfl, hx1, hlen, hn, hel⟩ := DataW.trod_array Tryz.underlying137 hd0
  have c5 : Tryz.prog.cellsOf 5 = 1 := by kernel_rfl
  simp only [Prod.mk.injEq] at hx1
  have hx := hx1.1
  rw [tab_datum, DataW.agg.injEq] at hx
  intro i hi
  have h0 := hel i hi
  have hix : i < xs.length := by omega
  rw [c5, List.getElem?_eq_getElem hix] at h0
  obtain ⟨k, e1, e2, _⟩ := DataW.trod_int Tryz.underlying5 h0
  have hk := congrArg (fun l : List (DataW Unit) => l[i]?) hx
  have htl : i < tabL.length := by simpa [tabL] using hi
  simp only [List.getElem?_map, List.getElem?_eq_getElem hix, List.getElem?_eq_getElem htl, Option.map_some, Option.some.injEq] at hk
  rw [e2] at hk
  simp only [DataW.lit.injEq, Lit.int.injEq, true_and] at hk
  have hc := World.var?_cell hg0 hv0 i
  have e3 : cs0[i]? = some (.int .u8 k) := by
    have : (cs0.toList.drop (i * 1)).take 1 = [.int .u8 k] := e1
    rw [Nat.mul_one] at this
    have h4 := congrArg (fun l : List Value => l[0]?) this
    simpa using h4
  rw [e3] at hc
  rw [hc, ← hk]
  simp [List.getD, htl]

theorem skip_var {W : World} {ps : List MemPlace} {x : String} {d : DataW Unit} {L : List (String × DataW Unit)} (h : DataW.LaidVars Tryz.prog W ((x, d) :: L) ps) : ∃ q, DataW.LaidVars Tryz.prog W L q := by
  obtain ⟨g0, t0, cs0, f0, p0, q0, hg0, ht0, hv0, hd0, hrest, _⟩ := h
  exact ⟨_, hrest⟩
theorem of_laid9 {W : World} (h : ∃ ps, DataW.LaidVars Tryz.prog W laid9 ps) : Tabs W ∧ TabW W := by
  obtain ⟨ps, h⟩ := h
  obtain ⟨q, h⟩ := skip_var h
  obtain ⟨hT, q, h⟩ := tab_of h
  obtain ⟨q, h⟩ := skip_var h
  obtain ⟨q, h⟩ := skip_var h
  obtain ⟨q, h⟩ := skip_var h
  obtain ⟨q, h⟩ := skip_var h
  obtain ⟨hS, q, h⟩ := ste_of h
  exact ⟨⟨hS, hT⟩, wor_of h⟩

end Go.Proofs.YtdmlamnonbmboaaGreatDoor
