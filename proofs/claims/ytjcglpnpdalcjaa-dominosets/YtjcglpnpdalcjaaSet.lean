/-
  All pieces of a set. No conditions beyond those that each theorem bears.
-/
import Derived.Test.YtjcglpnpdalcjaaCat
namespace Go.Proofs.Ytjcglpnpdalcjaa
open Go.RowKit
attribute [local go_sem] build35 run_eq35 guard35

/-- The pieces whose first end is a, of the first j second ones. -/
def rowTo (a j : Nat) : List Pc := (List.range j).map fun i => ((a : Int), ((a + i : Nat) : Int))
/-- All pieces whose first ends are below a. -/
def setTo (m : Nat) : Nat → List Pc
  | 0 => []
  | a + 1 => setTo m a ++ rowTo a (m + 1 - a)
def setL (m : Nat) : List Pc := setTo m (m + 1)

theorem rowTo_succ (a j : Nat) : rowTo a (j + 1) = rowTo a j ++ [((a : Int), ((a + j : Nat) : Int))] := by
  simp [rowTo, List.range_succ]
theorem rowTo_length (a j : Nat) : (rowTo a j).length = j := by simp [rowTo]
theorem setTo_le (m : Nat) (hm : m ≤ 9) (a : Nat) : (setTo m a).length ≤ 10 * a := by
  induction a with
  | zero => simp [setTo]
  | succ a ih => rw [setTo, List.length_append, rowTo_length]; omega

set_option maxHeartbeats 2000000 in
theorem Set_any (m : Nat) (hm : m ≤ 9) (w : World) : Calls Try.prog 8 #[.int .i64 m] w fun e w' => ∃ a c, e = .returned (.tuple #[.slice a (setL m).length c, .int .i64 0]) ∧ w'.ownsRow w.heap.size 35 2 (.slice a (setL m).length c) (setL m).length (flat (setL m)) ∧ Below w.heap.size w w' := by
  have hm' : (m : Int) ≤ 9 := by omega
  go_enter Try.func8, Try.ntmps8
  go_wp2_with fail
  refine (wrongEnd_any m _).mono ?_
  rintro e w1 ⟨rfl, hw⟩
  subst w1
  rw [show endB (m : Int) = true by simp [endB]; omega]
  go_wp2_with fail
  go_loopw [4, 11] (fun s v wr => ∃ i : Nat, i ≤ m + 1 ∧ v = .int .i64 i ∧ Hid (wr.ownsRow w.heap.size 35 2 s (setTo m i).length (flat (setTo m i))) ∧ (∃ a c, s = .slice a (setTo m i).length c) ∧ Hid (Below w.heap.size w wr)) (fun _ v _ => m + 1 - (intOf v).toNat)
  case atStart => exact ⟨0, by omega, rfl, hide (World.ownsRow_nil _ _ _ _), ⟨_, _, rfl⟩, hide (Below.refl _ _)⟩
  case round =>
    obtain ⟨i, hi, rfl, HO, ⟨a, c, rfl⟩, HB⟩ := hrel
    have hT := setTo_le m hm i
    by_cases hlt : i < m + 1
    · have ho : (i : Int) < (m : Int) + 1 := by omega
      go_wp2_with fail
      go_loopw [4, 6] (fun s v wr => ∃ j : Nat, j ≤ m + 1 - i ∧ v = .int .i64 ((i + j : Nat) : Int) ∧ Hid (wr.ownsRow w.heap.size 35 2 s ((setTo m i).length + j) (flat (setTo m i ++ rowTo i j))) ∧ (∃ a c, s = .slice a ((setTo m i).length + j) c) ∧ Hid (Below w.heap.size w wr)) (fun _ v _ => m + 1 - (intOf v).toNat)
      case atStart => exact ⟨0, by omega, rfl, hide (by simpa [rowTo] using HO.out), ⟨_, _, rfl⟩, HB⟩
      case round =>
        clear HO HB
        obtain ⟨j, hj, rfl, HO, ⟨a1, c1, rfl⟩, HB⟩ := hrel
        by_cases hl2 : i + j < m + 1
        · have hj2 : ((i + j : Nat) : Int) ≤ (m : Int) := by omega
          generalize hIJ : i + j = ij at *
          go_wp2_with (at_builtin; refine wpList_append_rp _ rfl _ _ rfl w.heap.size _ ((setTo m i).length + j) (setTo m i ++ rowTo i j) rfl (HO.out.alloc _) _ 1 1 [((i : Int), (ij : Int))] rfl (Rp.one _ _ _) (by omega) (by have := HB.out.size; simp [World.size_alloc]; omega) ?_)
          intro v' w' hO' hG'
          obtain ⟨a', c', hv'⟩ := own_slice hO'
          rw [hv'] at hO' ⊢
          have HB' := hide (((HB.out.alloc HB.out.size _)).grown hG' (by have := HB.out.size; simp [World.size_alloc]; omega) (fun j hj => (HO.out.lt j hj).1))
          have HO' : Hid (w'.ownsRow w.heap.size 35 2 (.slice a' ((setTo m i).length + (j + 1)) c') ((setTo m i).length + (j + 1)) (flat (setTo m i ++ rowTo i (j + 1)))) := hide (by
            rw [rowTo_succ, hIJ]; exact hO')
          clear hO' hG' hv' HO HB
          go_wp2_with fail
          go_roundw
          case rel => exact ⟨j + 1, by omega, by go_num, HO', ⟨_, _, rfl⟩, HB'⟩
          case measure => simp [intOf]; omega
        · have hj2 : ¬ ((i + j : Nat) : Int) ≤ (m : Int) := by omega
          obtain rfl : j = m + 1 - i := by omega
          have HO' : Hid (wr.ownsRow w.heap.size 35 2 (.slice a1 (setTo m (i + 1)).length c1) (setTo m (i + 1)).length (flat (setTo m (i + 1)))) := hide (by
            have e : (setTo m (i + 1)).length = (setTo m i).length + (m + 1 - i) := by rw [setTo, List.length_append, rowTo_length]
            rw [e]; exact HO.out)
          have he : (setTo m i).length + (m + 1 - i) = (setTo m (i + 1)).length := by rw [setTo, List.length_append, rowTo_length]
          rw [he]
          clear HO he
          generalize hIJ : i + (m + 1 - i) = ij at *
          go_wp2_with fail
          go_roundw
          case rel => exact ⟨i + 1, by omega, by go_num, HO', ⟨_, _, rfl⟩, HB⟩
          case measure => simp [intOf]; omega
    · have ho : ¬ (i : Int) < (m : Int) + 1 := by omega
      obtain rfl : i = m + 1 := by omega
      have HO' : Hid (wr.ownsRow w.heap.size 35 2 (.slice a (setL m).length c) (setL m).length (flat (setL m))) := HO
      clear HO
      go_wp2_with fail
      refine bodyPost_ret (results_tmp2 rfl _ _ _) rfl ?_
      exact ⟨_, _, rfl, HO'.out, HB.out⟩

set_option maxHeartbeats 2000000 in
theorem SetOf_any (m : Nat) (hm : m ≤ 9) (w : World) : Calls Try.prog 12 #[.int .i64 m] w fun e w' => ∃ a c, e = .returned (.slice a (setL m).length c) ∧ w'.ownsRow w.heap.size 35 2 (.slice a (setL m).length c) (setL m).length (flat (setL m)) ∧ Below w.heap.size w w' := by
  have hm' : (m : Int) ≤ 9 := by omega
  go_enter Try.func12, Try.ntmps12
  go_wp2_with fail
  go_loopw [3, 4] (fun s v wr => ∃ i : Nat, i ≤ m + 1 ∧ v = .int .i64 i ∧ Hid (wr.ownsRow w.heap.size 35 2 s (setTo m i).length (flat (setTo m i))) ∧ (∃ a c, s = .slice a (setTo m i).length c) ∧ Hid (Below w.heap.size w wr)) (fun _ v _ => m + 1 - (intOf v).toNat)
  case atStart => exact ⟨0, by omega, rfl, hide (World.ownsRow_nil _ _ _ _), ⟨_, _, rfl⟩, hide (Below.refl _ _)⟩
  case round =>
    obtain ⟨i, hi, rfl, HO, ⟨a, c, rfl⟩, HB⟩ := hrel
    have hT := setTo_le m hm i
    by_cases hlt : i < m + 1
    · have ho : (i : Int) ≤ (m : Int) := by omega
      go_wp2_with fail
      go_loopw [3, 5] (fun s v wr => ∃ j : Nat, j ≤ m + 1 - i ∧ v = .int .i64 ((i + j : Nat) : Int) ∧ Hid (wr.ownsRow w.heap.size 35 2 s ((setTo m i).length + j) (flat (setTo m i ++ rowTo i j))) ∧ (∃ a c, s = .slice a ((setTo m i).length + j) c) ∧ Hid (Below w.heap.size w wr)) (fun _ v _ => m + 1 - (intOf v).toNat)
      case atStart => exact ⟨0, by omega, rfl, hide (by simpa [rowTo] using HO.out), ⟨_, _, rfl⟩, HB⟩
      case round =>
        clear HO HB
        obtain ⟨j, hj, rfl, HO, ⟨a1, c1, rfl⟩, HB⟩ := hrel
        by_cases hl2 : i + j < m + 1
        · have hj2 : ((i + j : Nat) : Int) ≤ (m : Int) := by omega
          generalize hIJ : i + j = ij at *
          go_wp2_with (at_builtin; refine wpList_append_rp _ rfl _ _ rfl w.heap.size _ ((setTo m i).length + j) (setTo m i ++ rowTo i j) rfl (HO.out.alloc _) _ 1 1 [((i : Int), (ij : Int))] rfl (Rp.one _ _ _) (by omega) (by have := HB.out.size; simp [World.size_alloc]; omega) ?_)
          intro v' w' hO' hG'
          obtain ⟨a', c', hv'⟩ := own_slice hO'
          rw [hv'] at hO' ⊢
          have HB' := hide (((HB.out.alloc HB.out.size _)).grown hG' (by have := HB.out.size; simp [World.size_alloc]; omega) (fun j hj => (HO.out.lt j hj).1))
          have HO' : Hid (w'.ownsRow w.heap.size 35 2 (.slice a' ((setTo m i).length + (j + 1)) c') ((setTo m i).length + (j + 1)) (flat (setTo m i ++ rowTo i (j + 1)))) := hide (by
            rw [rowTo_succ, hIJ]; exact hO')
          clear hO' hG' hv' HO HB
          go_wp2_with fail
          go_roundw
          case rel => exact ⟨j + 1, by omega, by go_num, HO', ⟨_, _, rfl⟩, HB'⟩
          case measure => simp [intOf]; omega
        · have hj2 : ¬ ((i + j : Nat) : Int) ≤ (m : Int) := by omega
          obtain rfl : j = m + 1 - i := by omega
          have HO' : Hid (wr.ownsRow w.heap.size 35 2 (.slice a1 (setTo m (i + 1)).length c1) (setTo m (i + 1)).length (flat (setTo m (i + 1)))) := hide (by
            have e : (setTo m (i + 1)).length = (setTo m i).length + (m + 1 - i) := by rw [setTo, List.length_append, rowTo_length]
            rw [e]; exact HO.out)
          have he : (setTo m i).length + (m + 1 - i) = (setTo m (i + 1)).length := by rw [setTo, List.length_append, rowTo_length]
          rw [he]
          clear HO he
          generalize hIJ : i + (m + 1 - i) = ij at *
          go_wp2_with fail
          go_roundw
          case rel => exact ⟨i + 1, by omega, by go_num, HO', ⟨_, _, rfl⟩, HB⟩
          case measure => simp [intOf]; omega
    · have ho : ¬ (i : Int) ≤ (m : Int) := by omega
      obtain rfl : i = m + 1 := by omega
      have HO' : Hid (wr.ownsRow w.heap.size 35 2 (.slice a (setL m).length c) (setL m).length (flat (setL m))) := HO
      clear HO
      go_wp2_with fail
      go_ret
      exact ⟨_, _, rfl, HO'.out, HB.out⟩

theorem Set_no (x : Int) (hx : endB x = false) (w : World) : Calls Try.prog 8 #[.int .i64 x] w fun e w' => e = .returned (.tuple #[.slice none 0 0, .int .i64 3]) ∧ w' = w := by
  go_enter Try.func8, Try.ntmps8
  go_wp2_with fail
  refine (wrongEnd_any x _).mono ?_
  rintro e w1 ⟨rfl, hw⟩
  subst w1
  rw [hx]
  go_wp2_with fail
  exact bodyPost_ret (results_tmp2 rfl _ _ _) rfl ⟨rfl, rfl⟩

end Go.Proofs.Ytjcglpnpdalcjaa
