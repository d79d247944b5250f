/-
  What slices.Grow answers for nil, and slices.Concat for a few slices. No conditions beyond those that each theorem bears.
-/
import Derived.Test.YtiihnlpoagnkhaaDoorMay
import Derived.Lib.AppendZerosOnto
namespace Go.Proofs.YtiihnlpoagnkhaaDoor
open Go.RowKit Go.Shelf

set_option maxRecDepth 100000 in
set_option maxHeartbeats 2000000 in
theorem grow_nil (n : Nat) (h0 : 0 < n) (hn : n ≤ 100000) (w : World) :
    Calls Tryd.prog 27 #[.slice none 0 0, .int .i64 n] w fun e w' => ∃ g cap, e = .returned (.slice (some ⟨g, 0, none⟩) 0 cap) ∧ w'.ownsRow w.heap.size 3 1 (.slice (some ⟨g, 0, none⟩) 0 cap) 0 [] ∧ Below w.heap.size w w' := by
  obtain ⟨i0, hi, hz0, hz1, hz2⟩ := info_parts Tryd.info3
  have hold : (Builtin.firstCells i0.size 0 (.slice none 0 0)).run Tryd.prog w.drew = .ok #[] w.drew := run_firstCells_none w.drew i0.size 0 0 0
  have hrz : ∀ ty, (Builtin.append_ #[27, 3] ty #[.slice none 0 0, .int .i64 (n : Int)]).run Tryd.prog w =
      .ok (.slice (some ⟨w.heap.size, 0, none⟩) n (grownCap w n 0 3)) (w.drew.alloc (.cells ((#[] : Array Value) ++ Builtin.zeroCells (Value.int .i64 0).cells n ++ Builtin.zeroCells (Value.int .i64 0).cells (grownCap w n 0 3 - n)) 3)) := fun ty => by
    have h := Lib.run_append_grow_zeros w 27 3 ty 3 i0 (.int .i64 0) .i64 .i64 Tryd.underlying27 Tryd.underlying3 hi hz0 none 0 0 [] hold n h0 (by rw [hz1]; omega) (by omega) (by omega) (by rw [hz2]; omega)
      (by rw [Nat.zero_add]; exact growslice_fits h0 (by rw [hz2]; omega))
    simpa using h
  have hGn : n ≤ grownCap w n 0 3 := grownCap_ge w _ _ _
  have hG63 := grownCap_le_maxLen w n 0 3 (by unfold maxLen; omega)
  obtain ⟨G, hG⟩ : ∃ G, G = grownCap w n 0 3 := ⟨_, rfl⟩
  rw [← hG] at hrz hGn hG63
  have hG63' := hG63
  unfold maxLen at hG63'
  have HM := hide hG63
  clear hold hG hG63
  have hn' : (0 : Int) < (n : Int) := by omega
  go_enter Tryd.func27, Tryd.ntmps27
  go_wp2_with (at_builtin; refine Lib.wpList_append_run _ rfl _ _ _ _ rfl _ _ rfl rfl _ _ (hrz _) ?_)
  all_goals
    go_ret
    refine ⟨_, _, rfl, ⟨by simp, .inr ⟨_, _, _, rfl, Nat.le_refl _, heap_alloc_new w.drew _, Nat.zero_le _, HM.out, ?_, by simp⟩⟩, (Below.refl _ w).drew.alloc (Nat.le_refl _) _⟩
    simp [Builtin.zeroCells]
    omega

/-- So many in the first k slices, and which. -/
def tot (N : Nat → Nat) : Nat → Nat
  | 0 => 0
  | k + 1 => tot N k + N k
def cat (Z : Nat → List Int) : Nat → List Int
  | 0 => []
  | k + 1 => cat Z k ++ Z k

theorem tot_le (N : Nat → Nat) (h : ∀ j, N j ≤ 1000) (k : Nat) : tot N k ≤ 1000 * k := by
  induction k with
  | zero => simp [tot]
  | succ k ih => have := h k; rw [tot]; omega

set_option maxRecDepth 100000 in
set_option maxHeartbeats 2000000 in
theorem concat_any (b m c : Nat) (A : Nat → Option Addr) (N C : Nat → Nat) (Z : Nat → List Int) (w : World) (hm : m ≤ 10) (hmc : m ≤ c) (hc63 : c ≤ 9223372036854775807)
    (hcell : ∀ j, j < m → w.cell? ⟨b, j, none⟩ = some (.slice (A j) (N j) (C j))) (hR : ∀ j, j < m → Rd w (A j) (N j) (C j) (Z j)) (hN : ∀ j, N j ≤ 1000) (hpos : 0 < tot N m) :
    Calls Tryd.prog 13 #[.slice (some ⟨b, 0, none⟩) m c] w fun e w' => ∃ a' c', e = .returned (.slice a' (tot N m) c') ∧ w'.ownsRow w.heap.size 3 1 (.slice a' (tot N m) c') (tot N m) ((cat Z m).map (Value.int .i64)) ∧ Below w.heap.size w w' := by
  have HC := hide hcell
  have HR := hide hR
  have HN := hide hN
  clear hcell hR hN
  go_enter Tryd.func13, Tryd.ntmps13
  go_wp2
  go_loop [3, 11] (fun s v => ∃ k : Nat, k ≤ m ∧ v = .int .i64 k ∧ s = .int .i64 (tot N k)) (fun _ v => m - (intOf v).toNat)
  case atStart => exact ⟨0, by omega, rfl, rfl⟩
  case round =>
    obtain ⟨k, hk, rfl, rfl⟩ := hrel
    have ht := tot_le N HN.out k
    by_cases hlt : k < m
    · have hlt' : (k : Int) < (m : Int) := by omega
      have r1 := HC.out k hlt
      have hs : Hid (tot N (k + 1) = tot N k + N k) := rfl
      have hNk := HN.out k
      have hpz : ¬ ((tot N k : Nat) : Int) + ((N k : Nat) : Int) < 0 := by omega
      go_wp2
      go_round
      case rel => exact ⟨k + 1, by omega, by go_num, by rw [hs.out]; go_num⟩
      case measure => simp [intOf]; omega
    · obtain rfl : k = m := by omega
      have hlt' : ¬ (k : Int) < (k : Int) := by omega
      go_wp2_with fail
      refine (grow_nil (tot N k) hpos (by omega) w).mono ?_
      rintro e w1 ⟨g, cap, rfl, hO1, hB1⟩
      have HO1 := hide hO1
      have HB1 := hide hB1
      clear hO1 hB1
      go_wp2_with fail
      go_loopw [6, 27] (fun s v wr => ∃ i : Nat, i ≤ k ∧ v = .int .i64 i ∧ (∃ ad cc, s = .slice ad (tot N i) cc) ∧ Hid (wr.ownsRow w.heap.size 3 1 s (tot N i) ((cat Z i).map (Value.int .i64))) ∧ Hid (Below w.heap.size w wr)) (fun _ v _ => k - (intOf v).toNat)
      case atStart => exact ⟨0, by omega, rfl, ⟨_, _, rfl⟩, HO1.out, HB1.out⟩
      case round =>
        obtain ⟨i, hi, rfl, ⟨ad, cc, rfl⟩, hO, hB⟩ := hrel
        have hti := tot_le N HN.out i
        by_cases hil : i < k
        · have hil' : (i : Int) < (k : Int) := by omega
          have r0 := HC.out i hil
          have r1 : wr.cell? ⟨b, i, none⟩ = _ := (hB.out.cell (p := ⟨b, i, none⟩) (World.block_lt_of_cell? w _ r0)).trans r0
          have hNi := HN.out i
          have RI := hide ((HR.out i hil).mono hB.out)
          clear r0
          go_wp2_with (at_builtin; refine wpList_append_rd _ rfl (.tmp 31) (.tmp 32) rfl w.heap.size _ (tot N i) (cat Z i) rfl hO.out _ (N i) (C i) (Z i) rfl RI.out (by omega) hB.out.size ?_)
          intro v' w' hO' hG'
          obtain ⟨a', c', hv'⟩ := slice_form hO'
          rw [hv'] at hO' ⊢
          have HB' := hide (hB.out.grown hG' hB.out.size (fun j hj => (hO.out.lt j hj).1))
          have HO' := hide hO'
          clear hO' hG' hv'
          go_wp2_with fail
          go_roundw
          case rel =>
            refine ⟨i + 1, by omega, by go_num, ⟨a', c', rfl⟩, ?_, HB'.out⟩
            have := HO'.out
            rw [← List.map_append] at this
            exact this
          case measure => simp [intOf]; omega
        · obtain rfl : i = k := by omega
          have hil' : ¬ (i : Int) < (i : Int) := by omega
          go_wp2
          go_ret
          exact ⟨_, _, rfl, hO.out, hB.out⟩

end Go.Proofs.YtiihnlpoagnkhaaDoor
