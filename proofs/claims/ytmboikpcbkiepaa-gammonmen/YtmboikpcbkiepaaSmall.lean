/-
  Small functions of the program and of the document. No conditions beyond those that each theorem bears.
-/
import Derived.Test.YtmboikpcbkiepaaBase
import Derived.BigRegion
import Derived.Laws.Rows
namespace Go.Proofs.Ytmboikpcbkiepaa
open Go.RowKit

def inB (x lo hi : Int) : Bool := decide (lo ≤ x ∧ x ≤ hi)

set_option maxHeartbeats 400000 in
theorem within_any (x lo hi : Int) (w : World) : Calls Try.prog 33 #[.int .i64 x, .int .i64 lo, .int .i64 hi] w fun e w' => e = .returned (.bool (inB x lo hi)) ∧ w' = w := by
  by_cases h1 : lo ≤ x
  · by_cases h2 : x ≤ hi
    · have HV : Hid (inB x lo hi = true) := hide (by simp [inB, h1, h2])
      go_enter Try.func33, Try.ntmps33
      go_wp2
      go_ret
      exact ⟨ret_bool HV.out.symm, rfl⟩
    · have HV : Hid (inB x lo hi = false) := hide (by simp [inB]; omega)
      have h2d : decide (x ≤ hi) = false := by simpa using h2
      go_enter Try.func33, Try.ntmps33
      go_wp2
      go_ret
      exact ⟨ret_bool HV.out.symm, rfl⟩
  · have HV : Hid (inB x lo hi = false) := hide (by simp [inB]; omega)
    have h1d : decide (lo ≤ x) = false := by simpa using h1
    go_enter Try.func33, Try.ntmps33
    go_wp2
    go_ret
    exact ⟨ret_bool HV.out.symm, rfl⟩

def wpB (d : Int) : Bool := decide (d < 1 ∨ 6 < d)

set_option maxHeartbeats 400000 in
theorem wrongPips_any (d : Int) (w : World) : Calls Try.prog 28 #[.int .i64 d] w fun e w' => e = .returned (.bool (wpB d)) ∧ w' = w := by
  by_cases h1 : d < 1
  · have HV : Hid (wpB d = true) := hide (by simp [wpB, h1])
    go_enter Try.func28, Try.ntmps28
    go_wp2
    go_ret
    exact ⟨ret_bool HV.out.symm, rfl⟩
  · have h1d : decide (d < 1) = false := by simpa using h1
    by_cases h2 : 6 < d
    · have HV : Hid (wpB d = true) := hide (by simp [wpB, h2])
      go_enter Try.func28, Try.ntmps28
      go_wp2
      go_ret
      exact ⟨ret_bool HV.out.symm, rfl⟩
    · have HV : Hid (wpB d = false) := hide (by simp [wpB]; omega)
      go_enter Try.func28, Try.ntmps28
      go_wp2
      go_ret
      exact ⟨ret_bool HV.out.symm, rfl⟩

def wtB (d : Int) : Bool := decide (¬ (d = 0 ∨ d = 1))

set_option maxHeartbeats 400000 in
theorem wrongTurn_any (d : Int) (w : World) : Calls Try.prog 25 #[.int .i64 d] w fun e w' => e = .returned (.bool (wtB d)) ∧ w' = w := by
  by_cases h1 : d = 0
  · subst h1
    go_enter Try.func25, Try.ntmps25
    go_wp2
    go_ret
    exact ⟨rfl, rfl⟩
  · have h1d : (d == 0) = false := by simpa using h1
    by_cases h2 : d = 1
    · subst h2
      go_enter Try.func25, Try.ntmps25
      go_wp2
      go_ret
      exact ⟨rfl, rfl⟩
    · have HV : Hid (wtB d = true) := hide (by simp [wtB]; omega)
      have h2d : (d == 1) = false := by simpa using h2
      go_enter Try.func25, Try.ntmps25
      go_wp2
      go_ret
      exact ⟨ret_bool (by rw [HV.out]; simp [bne, h1d, h2d]), rfl⟩

/-- How far from home a point is. -/
def aw (t p : Nat) : Nat := if t = 0 then p else 25 - p

set_option maxHeartbeats 400000 in
theorem away_any (p t : Nat) (hp : p ≤ 25) (ht : t ≤ 1) (w : World) : Calls Try.prog 29 #[.int .i64 p, .int .i64 t] w fun e w' => e = .returned (.int .i64 (aw t p : Nat)) ∧ w' = w := by
  rcases (show t = 0 ∨ t = 1 by omega) with rfl | rfl
  · go_enter Try.func29, Try.ntmps29
    go_wp2
    go_ret
    exact ⟨rfl, rfl⟩
  · go_enter Try.func29, Try.ntmps29
    go_wp2
    go_ret
    refine ⟨?_, rfl⟩
    simp [aw]
    omega

set_option maxHeartbeats 400000 in
theorem homeward_any (p t : Nat) (hp : p ≤ 25) (ht : t ≤ 1) (w : World) : Calls Try.prog 35 #[.int .i64 t, .int .i64 p] w fun e w' => e = .returned (.int .i64 (aw t p : Nat)) ∧ w' = w := by
  rcases (show t = 0 ∨ t = 1 by omega) with rfl | rfl
  · go_enter Try.func35, Try.ntmps35
    go_wp2
    go_ret
    exact ⟨rfl, rfl⟩
  · go_enter Try.func35, Try.ntmps35
    go_wp2
    go_ret
    refine ⟨?_, rfl⟩
    simp [aw]
    omega

/-- A board's value. -/
abbrev gmA (a : Option Addr) (n c : Nat) (W B T : Int) : Array Value := #[.slice a n c, .int .i64 W, .int .i64 B, .int .i64 T]

/-- Men of the one to move at a point. -/
def ma (P : List Int) (t p : Nat) : Int := if t = 0 then P.getD p 0 else - P.getD p 0

set_option maxHeartbeats 1000000 in
theorem menAt_any (a : Option Addr) (c : Nat) (P : List Int) (W B : Int) (t p : Nat) (hp : p ≤ 25) (ht : t ≤ 1) (w : World) (h : Rd w a 26 c P) (hz : -15 ≤ P.getD p 0 ∧ P.getD p 0 ≤ 15) :
    Calls Try.prog 34 #[.agg (gmA a 26 c W B t), .int .i64 p] w fun e w' => e = .returned (.int .i64 (ma P t p)) ∧ Below w.heap.size w w' := by
  obtain ⟨b, off, rfl, hc⟩ := h.cells (by omega)
  have c1 := hc p (by omega)
  have hbs : b < w.heap.size := World.block_lt_of_cell? w _ c1
  have hV : Hid (ma P t p = if t = 0 then P.getD p 0 else - P.getD p 0) := hide rfl
  generalize P.getD p 0 = z at *
  clear hc h
  rcases (show t = 0 ∨ t = 1 by omega) with rfl | rfl
  · go_enter Try.func34, Try.ntmps34
    go_wp2
    go_ret
    exact ⟨by rw [hV.out]; rfl, (Below.refl _ _).alloc (Nat.le_refl _) _⟩
  · go_enter Try.func34, Try.ntmps34
    go_wp2
    go_ret
    refine ⟨?_, (Below.refl _ _).alloc (Nat.le_refl _) _⟩
    rw [hV.out]
    go_num

end Go.Proofs.Ytmboikpcbkiepaa
