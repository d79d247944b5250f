/-
  What a range over a function keeps of memory; what stays of rows and slices. No conditions beyond those that each theorem bears.
  Small functions on lists, of the laws, of the document and of the library, walked. No conditions beyond those that each theorem bears.
  Chess: the small functions on pieces, sides and steps, walked. No conditions beyond those that each theorem bears.
  A region that draws its order, inside a round of a range over a function: by the held walk. No conditions beyond those that each theorem bears.
  A range over a function that changes blocks of its caller's between the rounds and puts them back; its rounds may return. No conditions beyond those that each theorem bears.
-/
import Derived.Test.YtdmlamnonbmboaaDoorQ02
import Derived.RangeFuncNested
import Derived.RangeFuncBound
import Derived.RangeFuncCalls
import Derived.RangeFuncLeaves
import Derived.Shelf.Abstract
import Derived.Shelf.RegionOpen
import Derived.WalkKit
import Derived.OwnWalkIn
import Derived.TacticsInMore
import Derived.LoopNIn
import Derived.LoopIn
import Derived.OrdersHeld
import Derived.OrdersIn
import Derived.Deep.RegionHeld3
namespace Go.Proofs.YtdmlamnonbmboaaDoor
open Go.RowKit Go.Shelf

theorem Keeps.put {X : Nat → Prop} {a b : World} (h : Keeps X a b) {l : Nat} (hp : X l) (o : Obj) : Keeps X a (b.putObj l o) := by
  refine h.trans ⟨rfl, rfl, rfl, ?_, fun k _ hx => ?_⟩
  · exact (grownBy_putObj' b l o).size
  · exact World.putObj_heap_other (fun e => hx (e ▸ hp))

theorem YieldAt.anyD {m m' : Nat} {P : Program} {l : Nat} {args : Array Value} {W : World} {R : Ending → World → Prop} (h : YieldAt Fence.wide m P l args W R) : YieldAt Fence.wide m' P l args W R := by
  obtain ⟨fn, tmps, assign, body, hy, hF, hR⟩ := h
  exact ⟨fn, tmps, assign, body, hy, hF, fun c cs _ => hR c cs (fun d hd => by cases hd)⟩

theorem drewN_grown (w : World) (q : Nat) : w.grownBy (w.drewN q) none := by
  cases q with
  | zero => exact World.grownBy.refl _ _
  | succ q => exact ⟨rfl, rfl, rfl, Nat.le_refl _, fun _ _ _ => rfl⟩

theorem own_blk {w w' : World} {base e s n : Nat} {v : Value} {xs : List Value} (h : w.ownsRow base e s v n xs) (hb : ∀ g, v.ownBlock = some g → w'.heap[g]? = w.heap[g]?) : w'.ownsRow base e s v n xs := by
  refine ⟨h.1, ?_⟩
  rcases h.2 with h2 | ⟨g, cap, cur, rfl, h1, h2, h3⟩
  · exact Or.inl h2
  · exact Or.inr ⟨g, cap, cur, rfl, h1, (hb g rfl).trans h2, h3⟩

theorem Rd.keepsN {X : Nat → Prop} {w w' : World} {a n c zs} (h : Rd w a n c zs) (hb : Keeps X w w') (hX : 0 < n → ∀ b off, a = some ⟨b, off, none⟩ → ¬ X b) : Rd w' a n c zs := by
  refine ⟨h.len, h.cap, h.max, h.nil, fun hn => ?_⟩
  obtain ⟨b, off, rfl, hc⟩ := h.cells hn
  exact ⟨b, off, rfl, fun i hi => hb.cell (hc i hi) (hX hn b off rfl)⟩

theorem Rd.blt {w : World} {b off n c : Nat} {zs : List Int} (h : Rd w (some ⟨b, off, none⟩) n c zs) (hn : 0 < n) : b < w.heap.size := World.block_lt_of_cell? w _ (h.cell hn).2

theorem keeps_grown {w w' : World} {row : Option Nat} (h : w.grownBy w' row) : Keeps (fun k => row = some k) w w' :=
  ⟨h.os, h.tape, h.output, h.size, fun i hi hx => h.block i hi (fun e => hx e.symm)⟩

theorem set_back {Z : List Int} {p : Nat} {x : Int} (hp : p < Z.length) (h : Z.getD p 0 = 0) : (Z.set p x).set p 0 = Z := by
  rw [List.set_set]
  have : Z[p] = 0 := by simpa [List.getD, hp] using h
  rw [← this]
  exact List.set_getElem_self hp

theorem wide_fn (l f : Nat) : (Fence.wide.inRound l).fn f = True := rfl
theorem wide_fn0 (f : Nat) : Fence.wide.fn f = True := rfl
theorem wide_depth (l : Nat) : (Fence.wide.inRound l).depth = none := rfl

theorem u64_ne {r : Nat} (h : r ≠ 0) : ((r : Int) != 0) = true := by simp; omega
theorem u64_ez {r : Nat} (h : r ≠ 0) : ((r : Int) == 0) = false := by simp; omega
def toI (l : List Nat) : List Int := l.map (fun x : Nat => (x : Int))
theorem toI_len (l : List Nat) : (toI l).length = l.length := by simp [toI]
theorem toI_snoc (l : List Nat) (x : Nat) : toI (l ++ [x]) = toI l ++ [(x : Int)] := by simp [toI]
theorem toI_getD {L : List Nat} {j : Nat} (hj : j < L.length) : (toI L).getD j 0 = ((L.getD j 0 : Nat) : Int) := by
  simp [toI, List.getD, hj]
theorem new_cell (W : World) (v : Value) (t : TypeId) : (W.alloc (.cells #[v] t)).cell? ⟨W.heap.size, 0, none⟩ = some v := by
  have h := heap_alloc_new W (.cells #[v] t)
  unfold World.cell?
  simp only [h]
  rfl
theorem old_cell {W : World} {a : Addr} {v : Value} (o : Obj) (h : W.cell? a = some v) : (W.alloc o).cell? a = some v := cell_kept h (World.grownBy_alloc W o none) (fun r e => by cases e)
theorem slice_form {w : World} {base e : Nat} {v : Value} {n s : Nat} {xs : List Value} (h : w.ownsRow base e s v n xs) : ∃ a c, v = .slice a n c := by
  rcases h.2 with ⟨hv, h0⟩ | ⟨g, cap, cur, hv, _⟩
  · exact ⟨none, 0, by rw [hv, h0]⟩
  · exact ⟨_, _, hv⟩

end Go.Proofs.YtdmlamnonbmboaaDoor

namespace Go.Proofs.YtdmlamnonbmboaaDoor
open Go.RowKit Go.Shelf

set_option maxHeartbeats 400000 in
theorem sameIntsL_any (a b : Option Addr) (n c m d : Nat) (xs ys : List Int) (w : World) (hx : Rd w a n c xs) (hy : Rd w b m d ys) :
    Calls Tryd.prog 9 #[.slice a n c, .slice b m d] w fun e w' => e = .returned (.bool (decide (xs = ys))) ∧ ∃ k, w' = w.drewN k := by
  have hmx := hx.max
  have hcx := hx.cap
  have hmy := hy.max
  have hcy := hy.cap
  unfold maxLen at hmx hmy
  by_cases hnm : n = m
  · subst hnm
    have hne : ((n : Int) != (n : Int)) = false := by simp
    by_cases h0 : n = 0
    · subst h0
      have ex : xs = [] := List.eq_nil_of_length_eq_zero hx.len
      have ey : ys = [] := List.eq_nil_of_length_eq_zero hy.len
      subst ex ey
      go_enter Tryd.func9, Tryd.ntmps9
      go_wp2
      refine wp_loop_rounds 1 ?_
      rw [rounds_succ]
      go_wp2
      go_ret
      exact ⟨rfl, 0, rfl⟩
    · obtain ⟨b1, o1, rfl, hc1⟩ := hx.cells (by omega)
      obtain ⟨b2, o2, rfl, hc2⟩ := hy.cells (by omega)
      have lx : Hid (xs.length = n) := hx.len
      have ly : Hid (ys.length = n) := hy.len
      clear hx hy
      go_enter Tryd.func9, Tryd.ntmps9
      go_wp2
      go_loopw [5] (fun i wr => ∃ k q : Nat, k ≤ n ∧ i = .int .i64 k ∧ wr = w.drewN q ∧ Hid (xs.take k = ys.take k)) (fun i _ => n - (intOf i).toNat)
      case atStart => exact ⟨0, 0, by omega, rfl, rfl, by simp [Hid]⟩
      case round =>
        obtain ⟨k, q, hk, rfl, rfl, hq⟩ := hrel
        by_cases hlt : k < n
        · have e1 := hc1 k hlt
          have e2 := hc2 k hlt
          clear hc1 hc2
          have hlt' : (k : Int) < (n : Int) := by omega
          have hs := take_succ_eq xs ys k (by rw [lx.out]; exact hlt) (by rw [ly.out]; exact hlt)
          have HS := hide hs
          clear hs
          by_cases hv : xs.getD k 0 = ys.getD k 0
          · have hb : (xs[k]?.getD 0 != ys[k]?.getD 0) = false := by simpa using hv
            have HV := hide hv
            clear hv
            go_wp2
            go_quiet (fail)
            go_wp2
            go_roundw
            case rel => exact ⟨k + 1, _, by omega, by go_num, rfl, HS.out.2 ⟨hq.out, HV.out⟩⟩
            case measure => simp [intOf]; omega
          · have hb : (xs[k]?.getD 0 != ys[k]?.getD 0) = true := by simpa using hv
            go_wp2
            go_quiet (fail)
            go_wp2
            go_ret
            exact ⟨ret_bool (by symm; rw [decide_eq_false_iff_not]; rintro rfl; exact hv rfl), _, World.drewN_drewN _ _ _⟩
        · have hlt' : ¬ (k : Int) < (n : Int) := by omega
          obtain rfl : k = n := by omega
          go_wp2
          go_ret
          refine ⟨ret_bool ?_, _, rfl⟩
          symm
          rw [decide_eq_true_iff]
          have h1 := hq.out
          rw [List.take_of_length_le (by rw [lx.out]; exact Nat.le_refl _), List.take_of_length_le (by rw [ly.out]; exact Nat.le_refl _)] at h1
          exact h1
  · have hne : ((n : Int) != (m : Int)) = true := by rw [bne_iff_ne]; omega
    go_enter Tryd.func9, Tryd.ntmps9
    go_wp2
    go_ret
    exact ⟨ret_bool (by symm; rw [decide_eq_false_iff_not]; rintro rfl; exact hnm (hx.len.symm.trans hy.len)), 0, rfl⟩

set_option maxRecDepth 100000 in
set_option maxHeartbeats 2000000 in
theorem at_any (a : Option Addr) (n c : Nat) (zs : List Int) (x : Int) (hn : n ≤ 1000) (w : World) (h : Rd w a n c zs) :
    Calls Tryd.prog 53 #[.slice a n c, .int .i64 x] w fun e w' => (∃ r : Int, e = .returned (.int .i64 r) ∧ -1 ≤ r ∧ r ≤ 1000 ∧ (0 ≤ r ↔ x ∈ zs)) ∧ w' = w := by
  have hcm := h.max
  unfold maxLen at hcm
  have hcc := h.cap
  have HL := hide h.len
  have HC : Hid (∀ i, i < n → ∃ b off, a = some ⟨b, off, none⟩ ∧ w.cell? ⟨b, off + i, none⟩ = some (.int .i64 (zs.getD i 0))) := hide (fun i hi => by
    obtain ⟨b, off, e, hc⟩ := h.cells (by omega)
    exact ⟨b, off, e, hc i hi⟩)
  clear h
  go_enter Tryd.func53, Tryd.ntmps53
  go_wp2_with fail
  go_loopw [5] (fun v wr => ∃ i : Nat, v = .int .i64 i ∧ i ≤ n ∧ Hid (∀ j, j < i → zs.getD j 0 ≠ x) ∧ w = wr) (fun v _ => n - (intOf v).toNat)
  case atStart => exact ⟨0, rfl, by omega, hide (fun j hj => absurd hj (by omega)), rfl⟩
  case round =>
    obtain ⟨i, rfl, hi, hall, rfl⟩ := hrel
    by_cases hlt : i < n
    · have hlt' : (i : Int) < (n : Int) := by omega
      obtain ⟨b, off, rfl, cx⟩ := HC.out i hlt
      have HMEM : Hid (zs.getD i 0 = x → x ∈ zs) := hide (fun e => by rw [← e]; exact getD_mem (by rw [HL.out]; exact hlt))
      have HN : Hid (zs.getD i 0 ≠ x → ∀ j, j < i + 1 → zs.getD j 0 ≠ x) := hide (fun e j hj => by
        by_cases e2 : j = i
        · subst e2; exact e
        · exact hall.out j (by omega))
      obtain ⟨z, hz⟩ : ∃ z, zs.getD i 0 = z := ⟨_, rfl⟩
      rw [hz] at cx HMEM HN
      clear hz
      by_cases e : z = x
      · have hb : (z == x) = true := by simpa using e
        have HM := hide (HMEM.out e)
        clear e HMEM HN
        go_wp2_with fail
        go_ret
        exact ⟨⟨_, rfl, by omega, by omega, fun _ => HM.out, fun _ => by omega⟩, rfl⟩
      · have hb : (z == x) = false := by simpa using e
        have HM := hide (HN.out e)
        clear e HMEM HN
        go_wp2_with fail
        exact ⟨⟨i + 1, by go_num, by omega, HM, trivial⟩, by simp [intOf]; omega⟩
    · have hlt' : ¬ (i : Int) < (n : Int) := by omega
      have HM : Hid (¬ x ∈ zs) := hide (fun hx => by
        obtain ⟨j, hj, e⟩ := List.getElem_of_mem hx
        refine hall.out j (by have := HL.out; omega) ?_
        simp [List.getD, hj, e])
      go_wp2_with fail
      go_ret
      exact ⟨⟨_, rfl, by omega, by omega, fun h => by omega, fun h => absurd h HM.out⟩, rfl⟩

theorem within_any (x lo hi : Int) (w : World) : Calls Tryd.prog 24 #[.int .i64 x, .int .i64 lo, .int .i64 hi] w fun e w' => e = .returned (.bool (decide (lo ≤ x ∧ x ≤ hi))) ∧ w' = w := by
  by_cases h1 : lo ≤ x
  · by_cases h2 : x ≤ hi
    · go_enter Tryd.func24, Tryd.ntmps24
      go_wp2
      go_ret
      exact ⟨ret_bool (by simp [h1, h2]), rfl⟩
    · go_enter Tryd.func24, Tryd.ntmps24
      go_wp2
      go_ret
      exact ⟨ret_bool (by simp [h2]), rfl⟩
  · go_enter Tryd.func24, Tryd.ntmps24
    go_wp2
    go_ret
    exact ⟨ret_bool (by simp; omega), rfl⟩

end Go.Proofs.YtdmlamnonbmboaaDoor

namespace Go.Proofs.YtdmlamnonbmboaaDoor
open Go.RowKit Go.Shelf

theorem pieceOf_any (b : Nat) (k : Nat) (hk : k ≤ 6) (w : World) : Calls Tryd.prog 51 #[.int .i64 b, .int .i64 k] w fun e w' => e = .returned (.int .i64 (pc b k)) ∧ w' = w := by
  unfold pc
  by_cases hb : b = 0
  · subst hb
    go_enter Tryd.func51, Tryd.ntmps51
    go_wp2
    go_ret
    exact ⟨rfl, rfl⟩
  · have hb' : ((b : Int) == 0) = false := by simp; omega
    rw [if_neg hb]
    have hw : wrap64 (-(k : Int)) = -(k : Int) := by unfold wrap64; omega
    go_enter Tryd.func51, Tryd.ntmps51
    go_wp2
    go_ret
    exact ⟨by rfl, rfl⟩

theorem other_any (b : Nat) (hb : b ≤ 1) (w : World) : Calls Tryd.prog 44 #[.int .i64 b] w fun e w' => e = .returned (.int .i64 ((1 - b : Nat) : Int)) ∧ w' = w := by
  have h : (1 : Int) - (b : Int) = ((1 - b : Nat) : Int) := by omega
  obtain ⟨q, hq⟩ : ∃ q, 1 - b = q := ⟨_, rfl⟩
  rw [hq] at h ⊢
  have hqb : q ≤ 1 := by omega
  clear hq
  go_enter Tryd.func44, Tryd.ntmps44
  go_wp2
  go_ret
  exact ⟨by rfl, rfl⟩

theorem isSide_any (t : Int) (w : World) : Calls Tryd.prog 22 #[.int .i64 t] w fun e w' => e = .returned (.bool (decide (t = 0 ∨ t = 1))) ∧ w' = w := by
  by_cases h0 : t = 0
  · subst h0
    go_enter Tryd.func22, Tryd.ntmps22
    go_wp2
    go_ret
    exact ⟨by simp, rfl⟩
  · have e0 : (t == 0) = false := by simp [h0]
    by_cases h1 : t = 1
    · subst h1
      go_enter Tryd.func22, Tryd.ntmps22
      go_wp2
      go_ret
      exact ⟨by simp, rfl⟩
    · have e1 : (t == 1) = false := by simp [h1]
      rw [show decide (t = 0 ∨ t = 1) = false by simp [h0, h1]]
      go_enter Tryd.func22, Tryd.ntmps22
      go_wp2
      go_ret
      exact ⟨by simp, rfl⟩

theorem kindOf_any (x : Int) (h1 : -6 ≤ x) (h2 : x ≤ 6) (w : World) : Calls Tryd.prog 64 #[.int .i64 x] w fun e w' => e = .returned (.int .i64 (x.natAbs : Nat)) ∧ w' = w := by
  by_cases h : x < -x
  · have hm : -x = ((x.natAbs : Nat) : Int) := by omega
    rw [← hm]
    clear hm
    go_enter Tryd.func64, Tryd.ntmps64
    go_wp2 <;> first | omega | (go_ret; exact ⟨rfl, rfl⟩)
  · have hm : x = ((x.natAbs : Nat) : Int) := by omega
    rw [show Calls Tryd.prog 64 #[.int .i64 x] w (fun e w' => e = .returned (.int .i64 (x.natAbs : Nat)) ∧ w' = w) ↔ Calls Tryd.prog 64 #[.int .i64 x] w (fun e w' => e = .returned (.int .i64 x) ∧ w' = w) by rw [← hm]]
    clear hm
    go_enter Tryd.func64, Tryd.ntmps64
    go_wp2 <;> first | omega | (go_ret; exact ⟨rfl, rfl⟩)

theorem goesFar_any (x : Int) (h1 : -6 ≤ x) (h2 : x ≤ 6) (w : World) : Calls Tryd.prog 85 #[.int .i64 x] w fun e w' => e = .returned (.bool (far x)) ∧ w' = w := by
  have hk := hide (kindOf_any x h1 h2 w)
  unfold far
  have hb : x.natAbs ≤ 6 := by omega
  generalize x.natAbs = k at *
  have hc : k = 0 ∨ k = 1 ∨ k = 2 ∨ k = 3 ∨ k = 4 ∨ k = 5 ∨ k = 6 := by omega
  clear hb
  rcases hc with rfl | rfl | rfl | rfl | rfl | rfl | rfl <;>
    (go_enter Tryd.func85, Tryd.ntmps85
     go_wp2_with (refine hk.out.mono ?_; rintro e w1 ⟨rfl, hw⟩; subst w1)
     go_ret
     exact ⟨rfl, rfl⟩)

theorem inside_any (x y : Int) (w : World) : Calls Tryd.prog 84 #[.int .i64 x, .int .i64 y] w fun e w' => e = .returned (.bool (ins x y)) ∧ w' = w := by
  by_cases h1 : 0 ≤ x
  · by_cases h2 : x < 8
    · by_cases h3 : 0 ≤ y
      · by_cases h4 : y < 8
        · rw [show ins x y = true by simp [ins, h1, h2, h3, h4]]
          go_enter Tryd.func84, Tryd.ntmps84
          go_wp2
          go_ret
          exact ⟨rfl, rfl⟩
        · rw [show ins x y = false by simp [ins, h1, h2, h3, h4]]
          go_enter Tryd.func84, Tryd.ntmps84
          go_wp2
          go_ret
          exact ⟨rfl, rfl⟩
      · rw [show ins x y = false by simp [ins, h1, h2, h3]]
        go_enter Tryd.func84, Tryd.ntmps84
        go_wp2
        go_ret
        exact ⟨rfl, rfl⟩
    · rw [show ins x y = false by simp [ins, h1, h2]]
      go_enter Tryd.func84, Tryd.ntmps84
      go_wp2
      go_ret
      exact ⟨rfl, rfl⟩
  · rw [show ins x y = false by simp [ins, h1]]
    go_enter Tryd.func84, Tryd.ntmps84
    go_wp2
    go_ret
    exact ⟨rfl, rfl⟩

theorem stretch_any (x : Int) (hx : KX x) (w : World) : Calls Tryd.prog 83 #[.int .i64 x] w fun e w' => e = .returned (.tuple #[.int .i64 (sB x : Nat), .int .i64 (sE x : Nat)]) ∧ w' = w := by
  have hk := hide (kindOf_any x (by unfold KX at hx; omega) (by unfold KX at hx; omega) w)
  rcases hx with rfl | rfl | rfl | rfl | rfl | rfl | rfl | rfl | rfl | rfl | rfl | rfl <;>
    (go_enter Tryd.func83, Tryd.ntmps83
     go_wp2_with (refine hk.out.mono ?_; rintro e w1 ⟨rfl, hw⟩; subst w1)
     go_ret2
     exact ⟨rfl, rfl⟩)

end Go.Proofs.YtdmlamnonbmboaaDoor

namespace Go.Proofs.YtdmlamnonbmboaaDoor
open Go.RowKit

theorem rowsIn_round {l n : Nat} {P : Program} {row : String} {args : Array Value} {w : World} {R : Value → World → Prop} (h : Rows P row args w R) : RowsIn (Fence.wide.inRound l) n P row args w R := fun c cs _ => by
  obtain ⟨v, w', r, s⟩ := h c cs
  exact ⟨v, w', r, stepsIn_wide.2 s⟩

theorem oper_round {l n : Nat} {P : Program} {o : Oper} {a : Act} {w : World} {K : Act → World → Prop} {Q : Exit → Act → World → Prop} (hd : ∀ c, o.op ≠ .defer c) (h : o.wp P a w K Q) : o.wpIn (Fence.wide.inRound l) n P a w K Q := by
  refine ⟨fun _ _ => trivial, ?_⟩
  rw [Oper.semAt_eq _ _ _ hd]
  unfold Oper.wp at h
  generalize (execOp a.eval o).run P w = r at *
  cases r with
  | ok x w' =>
    cases x <;> simp only [Oper.upon, Oper.uponIn] at h ⊢
    case value u => exact h
    case skip => exact h
    case defer d => exact h
    case enter f args => exact ⟨(fun e => by cases e), callsIn_wide.2 h⟩
    case row row args => exact ⟨(fun e => by cases e), rowsIn_round h⟩
  | halt x w' =>
    cases x <;> simp only [Oper.upon, Oper.uponIn] at h ⊢
    case panic u => exact h

theorem any_round {l n : Nat} {P : Program} {md : Region.Mode} {ops : Array Oper} {Q : Exit → Act → World → Prop} {S : World → Prop} (hd : ∀ (i : Nat) (o : Oper) c, ops[i]? = some o → o.op ≠ .defer c) (hlo : ¬ LetsOut Q) :
    ∀ (fuel : Nat) (listed : Array Bool) (a : Act) (w : World), wpAnyH P md ops Q S fuel listed a w → wpAnyIn (Fence.wide.inRound l) n P md ops Q fuel listed a w
  | 0, _, _, _, h => h
  | fuel + 1, listed, a, w, h => by
    refine ⟨h.1, fun i hi => ?_⟩
    have h2 := h.2 i hi
    unfold wpOp at h2
    unfold wpOpIn
    cases ho : ops[i]? with
    | none =>
      simp only [ho] at h2 ⊢
      exact any_round hd hlo fuel _ _ _ h2.2
    | some o =>
      simp only [ho] at h2 ⊢
      by_cases hw : Region.wanted o (yielded ops a.tmps) = true
      · rw [if_pos hw] at h2 ⊢
        rcases h2 with h2 | h2
        · exact oper_round (hd i o · ho) (Oper.wp_mono (fun a' w' h3 => any_round hd hlo fuel _ a' w' h3.2) h2)
        · exact absurd h2.2 hlo
      · rw [if_neg hw] at h2 ⊢
        exact ⟨fun _ _ => trivial, any_round hd hlo fuel _ _ _ h2.2⟩

/-- No deferred call among them. -/
def noDefer (ops : Array Oper) : Bool := ops.all (fun o => match o.op with | .defer _ => false | _ => true)

theorem noDefer_spec {ops : Array Oper} (h : noDefer ops = true) : ∀ (i : Nat) (o : Oper) c, ops[i]? = some o → o.op ≠ .defer c := by
  intro i o c hi e
  unfold noDefer at h
  rw [Array.all_eq_true_iff_forall_mem] at h
  have := h o (Array.mem_of_getElem? hi)
  rw [e] at this
  cases this

theorem wp_region_round {l n id : Nat} {P : Program} {ops : Array Oper} {Q : Exit → Act → World → Prop} {a : Act} {w : World} {S : World → Prop} (hm : P.follows .mixedOrders = true) (hd : noDefer ops = true) (hlo : ¬ LetsOut Q)
    (h : wpAnyH P .any ops Q S ops.size (Array.replicate ops.size false) a w.drew) : (Code.region id ops true).wpIn (Fence.wide.inRound l) n P Q a w :=
  wpIn_region_any hm (any_round (noDefer_spec hd) hlo _ _ _ _ h)

end Go.Proofs.YtdmlamnonbmboaaDoor

namespace Go.Proofs.YtdmlamnonbmboaaDoor
open Go.RowKit Go.Shelf

/-- The iterator g, with what it has captured, hands out xs, one by one; a round may stop it. 'G x args W': these arguments, in that world, stand for x. 'R': what it reads and leaves, in the blocks T; between the rounds it changes the blocks Y. -/
def SeqSt {α : Type} (P : Program) (g : Nat) (lb : Array Value) (G : α → Array Value → World → Prop) (xs : List α) (R : World → Prop) (T Y : Nat → Prop) : Prop :=
  ∀ (l : Nat) (X : Nat → Prop) (J : List α → World → Prop) (Jx : World → Prop) (W : World), R W → (∀ k, X k → ¬ T k) →
    (∀ s A B, J s A → Keeps (fun k => Y k ∨ W.heap.size ≤ k) A B → J s B) → (∀ A B, Jx A → Keeps (fun k => Y k ∨ W.heap.size ≤ k) A B → Jx B) →
    (∀ pre x args W1, J pre W1 → (pre ++ [x]) <+: xs → G x args W1 → YieldAt Fence.wide 0 P l args W1 fun e W' => ((e = .returned (.bool true) ∧ J (pre ++ [x]) W') ∨ (e = .returned (.bool false) ∧ Jx W')) ∧ Keeps X W1 W') →
    J [] W →
    CallsIn Fence.wide 0 P g (#[.func (.yield l) #[] #[]] ++ lb) W fun e W' => (∃ v, e = .returned v) ∧ R W' ∧ (J xs W' ∨ Jx W')

/-- How the body of such a round is left: off its end, or by a return. -/
def stPost {α : Type} (X : Nat → Prop) (I : List α → World → Prop) (Ix : World → Prop) (xs : List α) (W : World) : Exit → Act → World → Prop
  | .normal, _, W' => Keeps X W W' ∧ I xs W'
  | .ret, _, W' => Keeps X W W' ∧ Ix W'
  | _, _, _ => False

theorem CallsIn.anyD {m m' : Nat} {P : Program} {f : FuncId} {args : Array Value} {W : World} {R : Ending → World → Prop} (h : CallsIn Fence.wide m P f args W R) : CallsIn Fence.wide m' P f args W R :=
  callsIn_wide.2 (callsIn_wide.1 h)

theorem wp_range_st {α : Type} {P : Program} {n : Nat} {g : Operand} {ps : Array Tmp} {assign body : Code} {Q : Exit → Act → World → Prop} {a : Act} {w : World}
    {gf : Nat} {lb : Array Value} (hg : a.eval g = .func (.func gf) #[] lb) (eg : ∀ args w, (callFunc gf args).run P w = .ok (.enter gf args) w)
    {G : α → Array Value → World → Prop} {xs : List α} {R : World → Prop} {T Y : Nat → Prop} (hseq : SeqSt P gf lb G xs R T Y)
    (hT : ∀ k, T k → k < w.heap.size) (hY : ∀ k, Y k → k < w.heap.size) (hRk : ∀ A B, R A → Keeps (fun k => ¬ T k) A B → R B) (hR : R w)
    (X : Nat → Prop) (hX : ∀ k, X k → k < w.heap.size ∧ ¬ T k) (hps : ∀ x args W, G x args W → args.size = ps.size)
    (I : List α → World → Prop) (Ix : World → Prop) (hI : ∀ s A B, I s A → Keeps (fun k => Y k ∨ w.heap.size ≤ k) A B → I s B) (hIx : ∀ A B, Ix A → Keeps (fun k => Y k ∨ w.heap.size ≤ k) A B → Ix B) (h0 : I [] w)
    (hround : ∀ (l : Nat) (pre : List α) (x : α) (args : Array Value) (W : World), w.heap.size ≤ l → (∃ r, W.heap[l]? = some (.loop r)) → I pre W → (pre ++ [x]) <+: xs → G x args W →
      assign.wpIn (Fence.wide.inRound l) n P (Exit.then (fun a' W' => Keeps X W W' ∧ ∀ W'', Keeps (fun k => k = l) W' W'' → body.wpIn (Fence.wide.inRound l) n P (stPost X I Ix (pre ++ [x]) W'') a' W'') (fun _ _ _ => False))
        { tmps := (ps.zip args).foldl (fun t (p, v) => t.setIfInBounds p v) a.tmps, defers := [] } W)
    (hdone : ∀ (D : Nat) (W : World), w.heap.size ≤ D → I xs W → R W → W.heap[D]? = some (.deferred (some [])) → Q .normal { a with defers := { target := .collected D, args := #[] } :: a.defers } W)
    (hstop : ∀ (D : Nat) (W : World), w.heap.size ≤ D → Ix W → R W → W.heap[D]? = some (.deferred (some [])) → Code.ret.wpIn Fence.wide n P Q { a with defers := { target := .collected D, args := #[] } :: a.defers } W) :
    (Code.rangeFunc g ps assign body).wpIn Fence.wide n P Q a w := by
  refine wpIn_rangeFunc ?_
  intro fn hfn
  obtain ⟨rec, hrec⟩ : ∃ rec : LoopState → Option Code → Loop, rec = fun st pe => { state := st, pending := pe, fn, tmps := a.tmps, params := ps, assign, body, defers := w.heap.size } := ⟨_, rfl⟩
  obtain ⟨W1, hW1⟩ : ∃ W1, (w.alloc (.deferred (some []))).alloc (.loop (rec .ready none)) = W1 := ⟨_, rfl⟩
  have hL1 : W1.heap[w.heap.size + 1]? = some (.loop (rec .ready none)) := by
    rw [← hW1]; have := World.alloc_heap_new (w.alloc (.deferred (some []))) (.loop (rec .ready none)); rwa [World.size_alloc] at this
  have hK1 : W1.heap[w.heap.size]? = some (.deferred (some [])) := by
    rw [← hW1]; exact (Below.heap_alloc _ _ _ (by simp)).trans (World.alloc_heap_new w _)
  have hb1 : Below w.heap.size w W1 := by
    rw [← hW1]; exact ((Below.refl _ w).alloc (Nat.le_refl _) _).alloc (by simp) _
  have hs1 : W1.heap.size = w.heap.size + 2 := by rw [← hW1]; simp
  refine ⟨w.heap.size + 1, [{ target := .collected w.heap.size, args := #[] }], W1, { target := .fn (.func gf) lb, args := #[.func (.yield (w.heap.size + 1)) #[] #[]] }, W1, gf,
    #[.func (.yield (w.heap.size + 1)) #[] #[]] ++ lb, W1, ?_, ?_, ?_, ?_, (fun h => by cases h), ?_⟩
  · rw [← hW1, hrec]; exact run_enterLoop_outer _ _ _ _ _
  · simp only [resolve, hg]
    simp [go_sem]
  · intro f' _; trivial
  · simp [invoke, go_sem, eg]
  · refine (CallsIn.anyD (m := 0) (hseq (w.heap.size + 1) (fun k => X k ∨ k = w.heap.size + 1)
      (fun pre W => I pre W ∧ W.heap[w.heap.size + 1]? = some (.loop (rec .ready none)) ∧ W.heap[w.heap.size]? = some (.deferred (some [])))
      (fun W => Ix W ∧ W.heap[w.heap.size + 1]? = some (.loop (rec .done (some .ret))) ∧ W.heap[w.heap.size]? = some (.deferred (some [])))
      W1 (hRk w W1 hR (Keeps.of_all hb1))
      (fun k hk => by
        rcases hk with hk | hk
        · exact (hX k hk).2
        · intro ht; have := hT k ht; omega)
      (fun s A B hs hb => ⟨hI s A B hs.1 (hb.mono (fun k _ e => Or.imp id (fun h => by omega) e)),
        (hb.block _ (Array.getElem?_eq_some_iff.1 hs.2.1).1 (fun e => Or.elim e (fun e => absurd (hY _ e) (by omega)) (fun e => by omega))).trans hs.2.1,
        (hb.block _ (Array.getElem?_eq_some_iff.1 hs.2.2).1 (fun e => Or.elim e (fun e => absurd (hY _ e) (by omega)) (fun e => by omega))).trans hs.2.2⟩)
      (fun A B hs hb => ⟨hIx A B hs.1 (hb.mono (fun k _ e => Or.imp id (fun h => by omega) e)),
        (hb.block _ (Array.getElem?_eq_some_iff.1 hs.2.1).1 (fun e => Or.elim e (fun e => absurd (hY _ e) (by omega)) (fun e => by omega))).trans hs.2.1,
        (hb.block _ (Array.getElem?_eq_some_iff.1 hs.2.2).1 (fun e => Or.elim e (fun e => absurd (hY _ e) (by omega)) (fun e => by omega))).trans hs.2.2⟩)
      ?_ ⟨hI _ _ _ h0 (Keeps.of_all hb1), hL1, hK1⟩)).mono ?_
    · rintro pre x args W ⟨hi, hl, hk⟩ hpre hG
      have hlt : w.heap.size + 1 < W.heap.size := (Array.getElem?_eq_some_iff.1 hl).1
      have hy := run_yield (P := P) (args := args) hl (by rw [hrec]; exact hps x args W hG)
      rw [hrec] at hy
      refine YieldAt.anyD (m := n) ⟨fn, _, assign, body, hy, roundIn_of_wpIn hfn (wpIn_mono (hround (w.heap.size + 1) pre x args W (by omega) ⟨_, hl⟩ hi hpre hG) ?_)⟩
      rintro e a' Wa hp
      cases e with
      | normal =>
        obtain ⟨hka, hb⟩ := hp
        have hla := (hka.block _ hlt (fun hx => by have := hX _ hx; omega)).trans hl
        have hda := (hka.block _ (by omega) (fun hx => by have := hX _ hx; omega)).trans hk
        have hlta : w.heap.size + 1 < Wa.heap.size := (Array.getElem?_eq_some_iff.1 hla).1
        refine ⟨_, run_beginRound hla (by rw [hrec]), ?_⟩
        obtain ⟨Wb, hWb⟩ : ∃ Wb, Wa.putObj (w.heap.size + 1) (.loop { rec .ready none with state := .busy }) = Wb := ⟨_, rfl⟩
        have hl2 : Wb.heap[w.heap.size + 1]? = some (.loop { rec .ready none with state := .busy }) := by rw [← hWb]; exact World.putObj_heap_same hlta
        have hk2 : Wb.heap[w.heap.size]? = some (.deferred (some [])) := by rw [← hWb]; exact (World.putObj_heap_other (by omega)).trans hda
        have hkb : Keeps (fun k => k = w.heap.size + 1) Wa Wb := by rw [← hWb]; exact Keeps.put (X := fun k => k = w.heap.size + 1) (Keeps.refl _ Wa) (l := w.heap.size + 1) rfl _
        have hsz := hkb.size
        rw [hWb]
        refine wpIn_mono (hb _ hkb) ?_
        rintro e a3 W3 hp
        cases e with
        | normal =>
          obtain ⟨hk3, hi3⟩ := hp
          have hl3 := (hk3.block _ (by omega) (fun hx => by have := hX _ hx; omega)).trans hl2
          have hd3 := (hk3.block _ (by omega) (fun hx => by have := hX _ hx; omega)).trans hk2
          have hr := run_endRound (P := P) none hl3
          have hlt3 : w.heap.size + 1 < W3.heap.size := (Array.getElem?_eq_some_iff.1 hl3).1
          rw [hrec] at hr
          refine ⟨_, _, hr, .inl ⟨rfl, hI _ W3 _ hi3 ?_, ?_, ?_⟩, ?_⟩
          · exact Keeps.put (Keeps.refl _ W3) (l := w.heap.size + 1) (.inr (by omega)) _
          · rw [hrec]; exact World.putObj_heap_same hlt3
          · exact (World.putObj_heap_other (by omega)).trans hd3
          · have k1 : Keeps (fun k => X k ∨ k = w.heap.size + 1) W Wa := hka.mono (fun _ _ h => .inl h)
            have k2 : Keeps (fun k => X k ∨ k = w.heap.size + 1) W Wb := k1.trans (hkb.mono (fun _ _ h => .inr h))
            have k3 : Keeps (fun k => X k ∨ k = w.heap.size + 1) Wb W3 := hk3.mono (fun _ _ h => .inl h)
            exact (k2.trans k3).put (.inr rfl) _
        | ret =>
          obtain ⟨hk3, hi3⟩ := hp
          have hl3 := (hk3.block _ (by omega) (fun hx => by have := hX _ hx; omega)).trans hl2
          have hd3 := (hk3.block _ (by omega) (fun hx => by have := hX _ hx; omega)).trans hk2
          have hr := run_endRound (P := P) (some .ret) hl3
          have hlt3 : w.heap.size + 1 < W3.heap.size := (Array.getElem?_eq_some_iff.1 hl3).1
          rw [hrec] at hr
          refine ⟨_, _, hr, .inr ⟨rfl, hIx W3 _ hi3 ?_, ?_, ?_⟩, ?_⟩
          · exact Keeps.put (Keeps.refl _ W3) (l := w.heap.size + 1) (.inr (by omega)) _
          · rw [hrec]; exact World.putObj_heap_same hlt3
          · exact (World.putObj_heap_other (by omega)).trans hd3
          · have k1 : Keeps (fun k => X k ∨ k = w.heap.size + 1) W Wa := hka.mono (fun _ _ h => .inl h)
            have k2 : Keeps (fun k => X k ∨ k = w.heap.size + 1) W Wb := k1.trans (hkb.mono (fun _ _ h => .inr h))
            have k3 : Keeps (fun k => X k ∨ k = w.heap.size + 1) Wb W3 := hk3.mono (fun _ _ h => .inl h)
            exact (k2.trans k3).put (.inr rfl) _
        | exit id => exact hp.elim
        | goto t => exact hp.elim
        | panic ch => exact hp.elim
        | outgrown => exact hp.elim
      | ret => exact hp.elim
      | exit id => exact hp.elim
      | goto t => exact hp.elim
      | panic ch => exact hp.elim
      | outgrown => exact hp.elim
    · rintro e W2 ⟨⟨v, rfl⟩, hr2, h2⟩
      rcases h2 with ⟨hi, hl, hk⟩ | ⟨hi, hl, hk⟩
      · have hlt2 : w.heap.size + 1 < W2.heap.size := (Array.getElem?_eq_some_iff.1 hl).1
        refine ⟨none, _, by have := run_endLoop (P := P) hl (by rw [hrec]; simp); rw [hrec] at this; exact this, hdone _ _ (Nat.le_refl _) (hI _ W2 _ hi ?_) (hRk _ _ hr2 ?_) ((World.putObj_heap_other (by omega)).trans hk)⟩
        · exact Keeps.put (Keeps.refl _ W2) (l := w.heap.size + 1) (.inr (by omega)) _
        · exact Keeps.put (Keeps.refl _ W2) (l := w.heap.size + 1) (fun ht => by have := hT _ ht; omega) _
      · have hlt2 : w.heap.size + 1 < W2.heap.size := (Array.getElem?_eq_some_iff.1 hl).1
        refine ⟨some .ret, _, by have := run_endLoop (P := P) hl (by rw [hrec]; simp); rw [hrec] at this; exact this, hstop _ _ (Nat.le_refl _) (hIx W2 _ hi ?_) (hRk _ _ hr2 ?_) ((World.putObj_heap_other (by omega)).trans hk)⟩
        · exact Keeps.put (Keeps.refl _ W2) (l := w.heap.size + 1) (.inr (by omega)) _
        · exact Keeps.put (Keeps.refl _ W2) (l := w.heap.size + 1) (fun ht => by have := hT _ ht; omega) _

end Go.Proofs.YtdmlamnonbmboaaDoor
