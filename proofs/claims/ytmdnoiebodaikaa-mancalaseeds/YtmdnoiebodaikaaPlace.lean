/-
  Places of a board. No conditions beyond those that each theorem bears.
-/
import Derived.Test.YtmdnoiebodaikaaSd
namespace Go.Proofs.Ytmdnoiebodaikaa
open Go.RowKit

/-- A board: 14 numbers of seeds, how many pits, whose turn. -/
def bdL (S : List Int) (p t : Nat) : List Int := S ++ [(p : Int), (t : Int)]

theorem bdL_length (S : List Int) (p t : Nat) (h : S.length = 14) : (bdL S p t).length = 16 := by simp [bdL, h]
theorem bdL_seed (S : List Int) (p t i : Nat) (h : S.length = 14) (hi : i < 14) : (bdL S p t).getD i 0 = S.getD i 0 := by
  simp [bdL, List.getD, List.getElem?_append, h, hi]
theorem bdL_pits (S : List Int) (p t : Nat) (h : S.length = 14) : (bdL S p t).getD 14 0 = p := by
  simp [bdL, List.getD, h]
theorem bdL_turn (S : List Int) (p t : Nat) (h : S.length = 14) : (bdL S p t).getD 15 0 = t := by
  simp [bdL, List.getD, h]
theorem bdL_set (S : List Int) (p t i : Nat) (x : Int) (h : S.length = 14) (hi : i < 14) : (bdL S p t).set i x = bdL (S.set i x) p t := by
  simp [bdL, h, hi]
theorem bdL_set15 (S : List Int) (p t t' : Nat) (h : S.length = 14) : (bdL S p t).set 15 (t' : Int) = bdL S p t' := by
  simp [bdL, h]

theorem Blk.seed {w : World} {b : Nat} {S : List Int} {p t : Nat} (h : Blk w b 46 (bdL S p t)) (hS : S.length = 14) {i : Nat} (hi : i < 14) : w.cell? ⟨b, i, none⟩ = some (.int .i64 (S.getD i 0)) := by
  rw [h.cell (i := i) (by rw [bdL_length _ _ _ hS]; omega), bdL_seed _ _ _ _ hS hi]
theorem Blk.pits {w : World} {b : Nat} {S : List Int} {p t : Nat} (h : Blk w b 46 (bdL S p t)) (hS : S.length = 14) : w.cell? ⟨b, 14, none⟩ = some (.int .i64 p) := by
  rw [h.cell (i := 14) (by rw [bdL_length _ _ _ hS]; omega), bdL_pits _ _ _ hS]
theorem Blk.turn {w : World} {b : Nat} {S : List Int} {p t : Nat} (h : Blk w b 46 (bdL S p t)) (hS : S.length = 14) : w.cell? ⟨b, 15, none⟩ = some (.int .i64 t) := by
  rw [h.cell (i := 15) (by rw [bdL_length _ _ _ hS]; omega), bdL_turn _ _ _ hS]

/-- The value of a board. -/
abbrev bv (S : List Int) (p t : Nat) : Value := .agg (ivs (bdL S p t)).toArray

/-- A player's place. -/
def pl (p x i : Nat) : Nat := x * (p + 1) + i

set_option maxHeartbeats 400000 in
theorem place_any (S : List Int) (hS : S.length = 14) (p t x i : Nat) (hp : p ≤ 6) (hx : x ≤ 1) (hi : i ≤ 14) (w : World) :
    Calls Try.prog 21 #[bv S p t, .int .i64 x, .int .i64 i] w fun e w' => e = .returned (.int .i64 (pl p x i : Nat)) ∧ Below w.heap.size w w' := by
  have K0 : Blk (w.alloc (Obj.cells (ivs (bdL S p t)).toArray 46)) w.heap.size 46 (bdL S p t) := Blk.new w 46 _ _ rfl
  have c14 := K0.pits hS
  have B1 : Below w.heap.size w (w.alloc (Obj.cells (ivs (bdL S p t)).toArray 46)) := (Below.refl _ w).alloc (Nat.le_refl _) _
  have HK := hide K0
  have HB := hide B1
  clear K0 B1
  obtain ⟨q, hq⟩ : ∃ q : Nat, pl p x i = q := ⟨_, rfl⟩
  have hmul : (x : Int) * ((p : Int) + 1) = ((x * (p + 1) : Nat) : Int) := by simp
  have hle : x * (p + 1) ≤ 7 := by
    have := Nat.mul_le_mul hx (show p + 1 ≤ 7 by omega)
    omega
  have HQ : Hid (q = x * (p + 1) + i) := hide (by rw [← hq]; rfl)
  rw [hq]
  clear hq
  generalize x * (p + 1) = X at *
  go_enter Try.func21, Try.ntmps21
  go_wp2
  go_ret
  refine ⟨ret_int ?_, HB.out⟩
  rw [HQ.out]
  omega

set_option maxHeartbeats 400000 in
theorem places_any (S : List Int) (hS : S.length = 14) (p t : Nat) (hp : p ≤ 6) (w : World) :
    Calls Try.prog 33 #[bv S p t] w fun e w' => e = .returned (.int .i64 ((2 * (p + 1) : Nat) : Int)) ∧ Below w.heap.size w w' := by
  have K0 : Blk (w.alloc (Obj.cells (ivs (bdL S p t)).toArray 46)) w.heap.size 46 (bdL S p t) := Blk.new w 46 _ _ rfl
  have c14 := K0.pits hS
  have HB := hide (show Below w.heap.size w (w.alloc (Obj.cells (ivs (bdL S p t)).toArray 46)) from (Below.refl _ w).alloc (Nat.le_refl _) _)
  clear K0
  go_enter Try.func33, Try.ntmps33
  go_wp2
  go_ret
  exact ⟨ret_int (by omega), HB.out⟩

set_option maxHeartbeats 400000 in
theorem across_any (S : List Int) (hS : S.length = 14) (p t i : Nat) (hp : p ≤ 6) (hi : i ≤ 2 * p) (w : World) :
    Calls Try.prog 38 #[bv S p t, .int .i64 i] w fun e w' => e = .returned (.int .i64 ((2 * p - i : Nat) : Int)) ∧ Below w.heap.size w w' := by
  have K0 : Blk (w.alloc (Obj.cells (ivs (bdL S p t)).toArray 46)) w.heap.size 46 (bdL S p t) := Blk.new w 46 _ _ rfl
  have c14 := K0.pits hS
  have HB := hide (show Below w.heap.size w (w.alloc (Obj.cells (ivs (bdL S p t)).toArray 46)) from (Below.refl _ w).alloc (Nat.le_refl _) _)
  clear K0
  go_enter Try.func38, Try.ntmps38
  go_wp2
  go_ret
  exact ⟨ret_int (by omega), HB.out⟩

set_option maxHeartbeats 400000 in
theorem theOther_any (t : Nat) (ht : t ≤ 1) (w : World) :
    Calls Try.prog 36 #[.int .i64 t] w fun e w' => e = .returned (.int .i64 ((1 - t : Nat) : Int)) ∧ w' = w := by
  go_enter Try.func36, Try.ntmps36
  go_wp2
  go_ret
  exact ⟨ret_int (by omega), rfl⟩

set_option maxHeartbeats 400000 in
theorem store_any (S : List Int) (hS : S.length = 14) (p t x : Nat) (hp : p ≤ 6) (hx : x ≤ 1) (w : World) :
    Calls Try.prog 35 #[bv S p t, .int .i64 x] w fun e w' => e = .returned (.int .i64 (pl p x p : Nat)) ∧ Below w.heap.size w w' := by
  have K0 : Blk (w.alloc (Obj.cells (ivs (bdL S p t)).toArray 46)) w.heap.size 46 (bdL S p t) := Blk.new w 46 _ _ rfl
  have c14 := K0.pits hS
  have HK := hide K0
  have HB := hide (show Below w.heap.size w (w.alloc (Obj.cells (ivs (bdL S p t)).toArray 46)) from (Below.refl _ w).alloc (Nat.le_refl _) _)
  clear K0
  have hl : Hid ((bdL S p t).length = 16) := hide (bdL_length S p t hS)
  obtain ⟨q, hq⟩ : ∃ q : Nat, pl p x p = q := ⟨_, rfl⟩
  rw [hq]
  have HQ := hide hq
  clear hq
  go_enter Try.func35, Try.ntmps35
  go_wp2_with (refine wpList_load_bd rfl (.tmp 2) rfl w.heap.size rfl (bdL S p t) hl.out HK.out ?_)
  refine (place_any S hS p t x p hp hx (by omega) _).mono ?_
  rintro e w1 ⟨rfl, hw⟩
  go_wp2
  go_ret
  exact ⟨ret_int (by rw [HQ.out]), HB.out.trans (hw.mono (by simp))⟩

end Go.Proofs.Ytmdnoiebodaikaa
