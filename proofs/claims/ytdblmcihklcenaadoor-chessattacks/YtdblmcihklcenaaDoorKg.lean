/-
  Chess: where a king stands; small functions of the document. No conditions beyond those that each theorem bears.
-/
import Derived.Test.YtdblmcihklcenaaDoorCs
namespace Go.Proofs.YtdblmcihklcenaaDoor
open Go.RowKit Go.Shelf

/-- The first place of a number. -/
def Fst (Z : List Int) (x : Int) (k : Nat) : Prop := k < 64 ∧ zg Z k = x ∧ ∀ j, j < k → zg Z j ≠ x

theorem at_king (a : Option Addr) (c : Nat) (Z : List Int) (x : Int) (k : Nat) (hk : Fst Z x k) (w : World) (h : Rd w a 64 c Z) :
    Calls Tryd.prog 24 #[.slice a 64 c, .int .i64 x] w fun e w' => e = .returned (.int .i64 (k : Nat)) ∧ w' = w := by
  have hcm := h.max
  unfold maxLen at hcm
  have hcc := h.cap
  obtain ⟨b, off, rfl, hc⟩ := h.cells (by omega)
  obtain ⟨hk64, hkx, hkn⟩ := hk
  have HC : Hid (∀ i, i < 64 → w.cell? ⟨b, off + i, none⟩ = some (.int .i64 (zg Z i))) := hide hc
  have HKX := hide hkx
  have HKN := hide hkn
  clear h hc hkx hkn
  go_enter Tryd.func24, Tryd.ntmps24
  go_wp2_with fail
  go_loopw [5] (fun v wr => ∃ i : Nat, v = .int .i64 i ∧ i ≤ k ∧ w = wr) (fun v _ => 64 - (intOf v).toNat)
  case atStart => exact ⟨0, rfl, by omega, rfl⟩
  case round =>
    obtain ⟨i, rfl, hi, rfl⟩ := hrel
    have hlt' : (i : Int) < 64 := by omega
    have cx := HC.out i (by omega)
    by_cases e : i = k
    · subst e
      rw [HKX.out] at cx
      go_wp2_with fail
      go_ret
      exact ⟨rfl, rfl⟩
    · have hb : (zg Z i == x) = false := by simpa using HKN.out i (by omega)
      generalize zg Z i = z at *
      go_wp2_with fail
      exact ⟨⟨i + 1, by go_num, by omega, trivial⟩, by simp [intOf]; omega⟩

theorem index_king (a : Option Addr) (c : Nat) (Z : List Int) (x : Int) (k : Nat) (hk : Fst Z x k) (w : World) (h : Rd w a 64 c Z) :
    Calls Tryd.prog 37 #[.slice a 64 c, .int .i64 x] w fun e w' => e = .returned (.int .i64 (k : Nat)) ∧ w' = w := by
  have hcm := h.max
  unfold maxLen at hcm
  have hcc := h.cap
  obtain ⟨b, off, rfl, hc⟩ := h.cells (by omega)
  obtain ⟨hk64, hkx, hkn⟩ := hk
  have HC : Hid (∀ i, i < 64 → w.cell? ⟨b, off + i, none⟩ = some (.int .i64 (zg Z i))) := hide hc
  have HKX := hide hkx
  have HKN := hide hkn
  clear h hc hkx hkn
  go_enter Tryd.func37, Tryd.ntmps37
  go_wp2_with fail
  go_loopw [8] (fun v wr => ∃ i : Nat, v = .int .i64 i ∧ i ≤ k ∧ w = wr) (fun v _ => 64 - (intOf v).toNat)
  case atStart => exact ⟨0, rfl, by omega, rfl⟩
  case round =>
    obtain ⟨i, rfl, hi, rfl⟩ := hrel
    have hlt' : (i : Int) < 64 := by omega
    have cx := HC.out i (by omega)
    by_cases e : i = k
    · subst e
      rw [HKX.out] at cx
      go_wp2_with fail
      go_ret
      exact ⟨rfl, rfl⟩
    · have hb : (x == zg Z i) = false := by simpa using fun h => HKN.out i (by omega) h.symm
      generalize zg Z i = z at *
      go_wp2_with fail
      exact ⟨⟨i + 1, by go_num, by omega, trivial⟩, by simp [intOf]; omega⟩

theorem size_any (x : Int) (h1 : -1000 ≤ x) (h2 : x ≤ 1000) (w : World) : Calls Tryd.prog 22 #[.int .i64 x] w fun e w' => e = .returned (.int .i64 (x.natAbs : Nat)) ∧ w' = w := by
  by_cases h : x < 0
  · have hm : -x = ((x.natAbs : Nat) : Int) := by omega
    rw [← hm]
    clear hm
    go_enter Tryd.func22, Tryd.ntmps22
    go_wp2
    go_ret
    exact ⟨rfl, rfl⟩
  · have hm : x = ((x.natAbs : Nat) : Int) := by omega
    rw [show Calls Tryd.prog 22 #[.int .i64 x] w (fun e w' => e = .returned (.int .i64 (x.natAbs : Nat)) ∧ w' = w) ↔ Calls Tryd.prog 22 #[.int .i64 x] w (fun e w' => e = .returned (.int .i64 x) ∧ w' = w) by rw [← hm]]
    clear hm
    go_enter Tryd.func22, Tryd.ntmps22
    go_wp2
    go_ret
    exact ⟨rfl, rfl⟩

theorem signOf_any (x : Int) (w : World) : Calls Tryd.prog 23 #[.int .i64 x] w fun e w' => e = .returned (.int .i64 (sg x)) ∧ w' = w := by
  unfold sg
  by_cases h : 0 < x
  · rw [if_pos h]
    go_enter Tryd.func23, Tryd.ntmps23
    go_wp2
    go_ret
    exact ⟨rfl, rfl⟩
  · rw [if_neg h]
    by_cases h2 : x < 0
    · rw [if_pos h2]
      go_enter Tryd.func23, Tryd.ntmps23
      go_wp2
      go_ret
      exact ⟨rfl, rfl⟩
    · rw [if_neg h2]
      go_enter Tryd.func23, Tryd.ntmps23
      go_wp2
      go_ret
      exact ⟨rfl, rfl⟩

theorem pieceSide_any (x : Int) (w : World) : Calls Tryd.prog 25 #[.int .i64 x] w fun e w' => e = .returned (.int .i64 (sd x)) ∧ w' = w := by
  unfold sd
  by_cases h : 0 < x
  · rw [if_pos h]
    go_enter Tryd.func25, Tryd.ntmps25
    go_wp2
    go_ret
    exact ⟨rfl, rfl⟩
  · rw [if_neg h]
    by_cases h2 : x < 0
    · rw [if_pos h2]
      go_enter Tryd.func25, Tryd.ntmps25
      go_wp2
      go_ret
      exact ⟨rfl, rfl⟩
    · rw [if_neg h2]
      go_enter Tryd.func25, Tryd.ntmps25
      go_wp2
      go_ret
      exact ⟨rfl, rfl⟩

end Go.Proofs.YtdblmcihklcenaaDoor
