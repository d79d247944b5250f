/-
  Is a tray in a ring? Looked through. No conditions beyond those that each theorem bears.
-/
import Derived.Test.YticalbpohhpjaaaDoorHc
namespace Go.Proofs.YticalbpohhpjaaaDoor
open Go.RowKit

def inB (R : List (List Int × Nat)) (T : List Int) : Bool := R.any (fun t => decide (t.1 = T))

theorem inB_not {R : List (List Int × Nat)} {T : List Int} (h : ∀ j, j < R.length → (R.getD j ([], 0)).1 ≠ T) : inB R T = false := by
  rw [← Bool.not_eq_true]
  intro e
  obtain ⟨t, ht, e⟩ := List.any_eq_true.1 e
  obtain ⟨j, hj, rfl⟩ := List.getElem_of_mem ht
  have := h j hj
  rw [List.getD_eq_getElem?_getD, List.getElem?_eq_getElem hj] at this
  exact this (of_decide_eq_true e)

theorem inB_yes {R : List (List Int × Nat)} {T : List Int} {j : Nat} (hj : j < R.length) (h : (R.getD j ([], 0)).1 = T) : inB R T = true := by
  refine List.any_eq_true.2 ⟨R[j], List.getElem_mem hj, decide_eq_true ?_⟩
  rw [List.getD_eq_getElem?_getD, List.getElem?_eq_getElem hj] at h
  exact h

set_option maxRecDepth 100000 in
set_option maxHeartbeats 8000000 in
theorem index_any (W H N tp tcb tc g : Nat) (v : Value) (R : List (List Int × Nat)) (T : List Int) (w : World) (h : HmI W H N tp tcb tc T g w) (hv : Tvs 0 w W H N v R) (hN : 0 < N ∧ N ≤ 6) (hl : R.length ≤ 1000) :
    Calls Tryd.prog 55 #[v, .func (.func 44) #[] #[.pointer (some ⟨tp, 0, none⟩)]] w fun e w' => (∃ r : Int, e = .returned (.int .i64 r) ∧ (decide (0 ≤ r) = inB R T)) ∧ Below w.heap.size w w' := by
  obtain ⟨ra, rc, rfl, hrc, hrm, hra⟩ := hv.form
  unfold maxLen at hrm
  have HV := hide hv
  have HH := hide h
  clear h hv
  go_enter Tryd.func55, Tryd.ntmps55
  go_wp2_with fail
  go_loopw [8] (fun iv wr => ∃ (k : Nat), iv = .int .i64 k ∧ k ≤ R.length ∧ Hid (Below w.heap.size w wr) ∧ Hid (∀ j, j < k → (R.getD j ([], 0)).1 ≠ T)) (fun iv _ => R.length - (intOf iv).toNat)
  case atStart => exact ⟨0, rfl, by omega, hide (Below.refl _ _), hide (fun j hj => by omega)⟩
  case round =>
    obtain ⟨k, rfl, hk, HB, HNO⟩ := hrel
    by_cases hkl : k < R.length
    rotate_left
    · obtain rfl : k = R.length := by omega
      have hlt' : ¬ ((R.length : Nat) : Int) < ((R.length : Nat) : Int) := by omega
      have HI := hide (inB_not HNO.out)
      clear HNO
      go_wp2_with fail
      go_ret
      exact ⟨⟨-1, rfl, by rw [HI.out]; rfl⟩, HB.out⟩
    have hlt' : (k : Int) < ((R.length : Nat) : Int) := by omega
    obtain ⟨rg, rfl⟩ := hra (fun e => by rw [e] at hkl; simp at hkl)
    have HVr := hide (HV.out.below HB.out)
    obtain ⟨cb, cc, hrange, hBw⟩ := HVr.out.at hkl
    have HIY : Hid ((R.getD k ([], 0)).1 = T → inB R T = true) := hide (fun e => inB_yes hkl e)
    have HIN : Hid ((R.getD k ([], 0)).1 ≠ T → ∀ j, j < k + 1 → (R.getD j ([], 0)).1 ≠ T) := hide (fun hne j hj => by
      rcases Nat.lt_or_ge j k with h | h
      · exact HNO.out j h
      · obtain rfl : j = k := by omega
        exact hne)
    generalize R.getD k ([], 0) = t at *
    obtain ⟨U, q⟩ := t
    have HHr := hide (HH.out.below HB.out)
    have HC := hide (same1_any W H N tp tcb tc cb cc q g T U wr HHr.out hBw hN)
    rw [Nat.mul_comm 4 k] at hrange
    dsimp only at hrange HIY HIN
    clear hBw HVr HHr HNO
    go_wp2_with (refine wpList_load_mid rfl 55 _ rfl rg (k * 4) rfl (tvc W H N cb cc q) _ hrange Tryd.underlying55 rfl size55 ?_)
    refine HC.out.mono ?_
    rintro e w2 ⟨rfl, b2⟩
    have HB2 := hide (HB.out.trans (b2.mono HB.out.size))
    clear hrange b2 HC
    by_cases hU : U = T
    · have hd : decide (U = T) = true := decide_eq_true hU
      have HI := hide (HIY.out hU)
      rw [hd]
      clear hd hU HIY HIN
      go_wp2_with fail
      go_ret
      exact ⟨⟨k, rfl, by rw [HI.out]; exact decide_eq_true (by omega)⟩, HB2.out⟩
    · have hd : decide (U = T) = false := decide_eq_false hU
      have HI := hide (HIN.out hU)
      rw [hd]
      clear hd hU HIY HIN
      go_wp2_with fail
      go_roundw
      case rel => exact ⟨k + 1, by go_num, by omega, HB2, HI⟩
      case measure => simp [intOf]; omega

set_option maxRecDepth 100000 in
set_option maxHeartbeats 4000000 in
theorem inring_any (W H N tp tcb tc g : Nat) (v : Value) (R : List (List Int × Nat)) (T : List Int) (w : World) (h : HmI W H N tp tcb tc T g w) (hv : Tvs 0 w W H N v R) (hN : 0 < N ∧ N ≤ 6) (hl : R.length ≤ 1000) :
    Calls Tryd.prog 43 #[v, .func (.func 44) #[] #[.pointer (some ⟨tp, 0, none⟩)]] w fun e w' => e = .returned (.bool (inB R T)) ∧ Below w.heap.size w w' := by
  have HC := hide (index_any W H N tp tcb tc g v R T w h hv hN hl)
  clear h hv
  go_enter Tryd.func43, Tryd.ntmps43
  go_wp2_with fail
  refine HC.out.mono ?_
  rintro e w2 ⟨⟨r, rfl, hr⟩, b2⟩
  have HR := hide hr
  have HB := hide b2
  clear hr b2
  by_cases h0 : 0 ≤ r
  · have hd : decide (0 ≤ r) = true := decide_eq_true h0
    have HE : Hid (inB R T = true) := hide (by rw [← HR.out]; exact hd)
    go_wp2_with fail
    go_ret
    exact ⟨by rw [HE.out]; simp, HB.out⟩
  · have hd : decide (0 ≤ r) = false := decide_eq_false h0
    have HE : Hid (inB R T = false) := hide (by rw [← HR.out]; exact hd)
    go_wp2_with fail
    go_ret
    exact ⟨by rw [HE.out]; simp, HB.out⟩

set_option maxRecDepth 100000 in
set_option maxHeartbeats 4000000 in
theorem home1_any (W H N tp tcb tc g : Nat) (v : Value) (R : List (List Int × Nat)) (T : List Int) (w : World) (h : HmI W H N tp tcb tc T g w) (hv : Tvs 0 w W H N v R) (hN : 0 < N ∧ N ≤ 6) (hl : R.length ≤ 1000) :
    Calls Tryd.prog 42 #[v, .pointer (some ⟨tp, 0, none⟩)] w fun e w' => e = .returned (.bool (!inB R T)) ∧ Below w.heap.size w w' := by
  have HC := hide (inring_any W H N tp tcb tc g v R T w h hv hN hl)
  clear h hv
  go_enter Tryd.func42, Tryd.ntmps42
  go_wp2_with fail
  refine HC.out.mono ?_
  rintro e w2 ⟨rfl, b2⟩
  have HB := hide b2
  clear b2
  go_wp2_with fail
  go_ret
  exact ⟨rfl, HB.out⟩

end Go.Proofs.YticalbpohhpjaaaDoor
