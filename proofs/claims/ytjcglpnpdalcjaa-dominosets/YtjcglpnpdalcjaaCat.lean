/-
  What slices.Grow answers for nil, and slices.Concat for a few slices of pieces; pieces turned. No conditions beyond those that each theorem bears.
-/
import Derived.Test.YtjcglpnpdalcjaaFault
import Derived.Lib.AppendZerosOnto
namespace Go.Proofs.Ytjcglpnpdalcjaa
open Go.RowKit
attribute [local go_sem] build35 run_eq35 guard35

/-- One piece in a new block. -/
theorem Rp.one (w : World) (x y : Int) : Rp (w.alloc (.cells #[.int .i64 x, .int .i64 y] 35)) (some ⟨w.heap.size, 0, none⟩) 1 1 [(x, y)] := by
  refine ⟨rfl, Nat.le_refl _, by unfold maxLen; omega, (fun h => by simp at h), fun _ => ⟨_, _, rfl, fun i hi => ?_⟩⟩
  obtain rfl : i = 0 := by omega
  constructor <;> simp [go_sem]

set_option maxRecDepth 100000 in
set_option maxHeartbeats 2000000 in
theorem grow_nil (n : Nat) (h0 : 0 < n) (hn : n ≤ 100000) (w : World) :
    Calls Try.prog 39 #[.slice none 0 0, .int .i64 n] w fun e w' => ∃ g cap, e = .returned (.slice (some ⟨g, 0, none⟩) 0 cap) ∧ w'.ownsRow w.heap.size 35 2 (.slice (some ⟨g, 0, none⟩) 0 cap) 0 [] ∧ Below w.heap.size w w' := by
  obtain ⟨i0, hi, hz0, hz1, hz2⟩ := info_parts Try.info35
  have hold : (Builtin.firstCells i0.size 0 (.slice none 0 0)).run Try.prog w.drew = .ok #[] w.drew := run_firstCells_none w.drew i0.size 0 0 0
  have hrz : ∀ ty, (Builtin.append_ #[22, 3] ty #[.slice none 0 0, .int .i64 (n : Int)]).run Try.prog w =
      .ok (.slice (some ⟨w.heap.size, 0, none⟩) n (grownCap w n 0 35)) (w.drew.alloc (.cells ((#[] : Array Value) ++ Builtin.zeroCells (Value.agg #[.int .i64 0, .int .i64 0]).cells n ++ Builtin.zeroCells (Value.agg #[.int .i64 0, .int .i64 0]).cells (grownCap w n 0 35 - n)) 35)) := fun ty => by
    have h := Lib.run_append_grow_zeros w 22 3 ty 35 i0 (.agg #[.int .i64 0, .int .i64 0]) .i64 .i64 Try.underlying22 Try.underlying3 hi hz0 none 0 0 [] hold n h0 (by rw [hz1]; omega) (by omega) (by omega) (by rw [hz2]; omega)
      (by rw [Nat.zero_add]; exact growslice_fits h0 (by rw [hz2]; omega))
    simpa using h
  have hGn : n ≤ grownCap w n 0 35 := grownCap_ge w _ _ _
  have hG63 := grownCap_le_maxLen w n 0 35 (by unfold maxLen; omega)
  obtain ⟨G, hG⟩ : ∃ G, G = grownCap w n 0 35 := ⟨_, rfl⟩
  rw [← hG] at hrz hGn hG63
  have hG63' := hG63
  unfold maxLen at hG63'
  have HM := hide hG63
  clear hold hG hG63
  have hn' : (0 : Int) < (n : Int) := by omega
  go_enter Try.func39, Try.ntmps39
  go_wp2_with (at_builtin; refine Lib.wpList_append_run _ rfl _ _ _ _ rfl _ _ rfl rfl _ _ (hrz _) ?_)
  all_goals
    go_ret
    refine ⟨_, _, rfl, ⟨by simp, .inr ⟨_, _, _, rfl, Nat.le_refl _, heap_alloc_new w.drew _, Nat.zero_le _, HM.out, ?_, by simp⟩⟩, (Below.refl _ w).drew.alloc (Nat.le_refl _) _⟩
    simp [Builtin.zeroCells]
    omega

/-- So many in the first k slices, and which. -/
def tot (N : Nat → Nat) : Nat → Nat
  | 0 => 0
  | k + 1 => tot N k + N k
def cat (Z : Nat → List Pc) : Nat → List Pc
  | 0 => []
  | k + 1 => cat Z k ++ Z k

theorem tot_le (N : Nat → Nat) (h : ∀ j, N j ≤ 1000) (k : Nat) : tot N k ≤ 1000 * k := by
  induction k with
  | zero => simp [tot]
  | succ k ih => have := h k; rw [tot]; omega

set_option maxRecDepth 100000 in
set_option maxHeartbeats 2000000 in
theorem concat_any (b m c : Nat) (A : Nat → Option Addr) (N C : Nat → Nat) (Z : Nat → List Pc) (w : World) (hm : m ≤ 10) (hmc : m ≤ c) (hc63 : c ≤ 1000)
    (hcell : ∀ j, j < m → w.cell? ⟨b, j, none⟩ = some (.slice (A j) (N j) (C j))) (hR : ∀ j, j < m → Rp w (A j) (N j) (C j) (Z j)) (hN : ∀ j, N j ≤ 1000) (hpos : 0 < tot N m) :
    Calls Try.prog 33 #[.slice (some ⟨b, 0, none⟩) m c] w fun e w' => ∃ a' c', e = .returned (.slice a' (tot N m) c') ∧ w'.ownsRow w.heap.size 35 2 (.slice a' (tot N m) c') (tot N m) (flat (cat Z m)) ∧ Below w.heap.size w w' := by
  have HC := hide hcell
  have HR := hide hR
  have HN := hide hN
  clear hcell hR hN
  go_enter Try.func33, Try.ntmps33
  go_wp2_with fail
  go_loop [3, 11] (fun s v => ∃ k : Nat, k ≤ m ∧ v = .int .i64 k ∧ s = .int .i64 (tot N k)) (fun _ v => m - (intOf v).toNat)
  case atStart => exact ⟨0, by omega, rfl, rfl⟩
  case round =>
    obtain ⟨k, hk, rfl, rfl⟩ := hrel
    have ht := tot_le N HN.out k
    by_cases hlt : k < m
    · have hlt' : (k : Int) < (m : Int) := by omega
      have r1 := HC.out k hlt
      have hs : Hid (tot N (k + 1) = tot N k + N k) := rfl
      have hNk := HN.out k
      have hpz : ¬ ((tot N k : Nat) : Int) + ((N k : Nat) : Int) < 0 := by omega
      go_wp2_with fail
      go_round
      case rel => exact ⟨k + 1, by omega, by go_num, by rw [hs.out]; go_num⟩
      case measure => simp [intOf]; omega
    · obtain rfl : k = m := by omega
      have hlt' : ¬ (k : Int) < (k : Int) := by omega
      go_wp2_with fail
      refine (grow_nil (tot N k) hpos (by omega) w).mono ?_
      rintro e w1 ⟨g, cap, rfl, hO1, hB1⟩
      have HO1 := hide hO1
      have HB1 := hide hB1
      clear hO1 hB1
      go_wp2_with fail
      go_loopw [6, 27] (fun s v wr => ∃ i : Nat, i ≤ k ∧ v = .int .i64 i ∧ (∃ ad cc, s = .slice ad (tot N i) cc) ∧ Hid (wr.ownsRow w.heap.size 35 2 s (tot N i) (flat (cat Z i))) ∧ Hid (Below w.heap.size w wr)) (fun _ v _ => k - (intOf v).toNat)
      case atStart => exact ⟨0, by omega, rfl, ⟨_, _, rfl⟩, HO1.out, HB1.out⟩
      case round =>
        obtain ⟨i, hi, rfl, ⟨ad, cc, rfl⟩, hO, hB⟩ := hrel
        have hti := tot_le N HN.out i
        by_cases hil : i < k
        · have hil' : (i : Int) < (k : Int) := by omega
          have r0 := HC.out i hil
          have r1 : wr.cell? ⟨b, i, none⟩ = _ := (hB.out.cell (p := ⟨b, i, none⟩) (World.block_lt_of_cell? w _ r0)).trans r0
          have hNi := HN.out i
          have RI := hide ((HR.out i hil).mono hB.out)
          clear r0
          go_wp2_with (at_builtin; refine wpList_append_rp _ rfl (.tmp 31) (.tmp 32) rfl w.heap.size _ (tot N i) (cat Z i) rfl hO.out _ (N i) (C i) (Z i) rfl RI.out (by omega) hB.out.size ?_)
          intro v' w' hO' hG'
          obtain ⟨a', c', hv'⟩ := own_slice hO'
          rw [hv'] at hO' ⊢
          have HB' := hide (hB.out.grown hG' hB.out.size (fun j hj => (hO.out.lt j hj).1))
          have HO' := hide hO'
          clear hO' hG' hv'
          go_wp2_with fail
          go_roundw
          case rel =>
            exact ⟨i + 1, by omega, by go_num, ⟨a', c', rfl⟩, HO'.out, HB'.out⟩
          case measure => simp [intOf]; omega
        · obtain rfl : i = k := by omega
          have hil' : ¬ (i : Int) < (i : Int) := by omega
          go_wp2_with fail
          go_ret
          exact ⟨_, _, rfl, hO.out, hB.out⟩

/-- Two slices of pieces in the cells of a block, joined. -/
theorem concat2 (b : Nat) (a1 : Option Addr) (n1 c1 : Nat) (p1 : List Pc) (a2 : Option Addr) (n2 c2 : Nat) (p2 : List Pc) (w : World)
    (h1 : w.cell? ⟨b, 0, none⟩ = some (.slice a1 n1 c1)) (h2 : w.cell? ⟨b, 1, none⟩ = some (.slice a2 n2 c2)) (R1 : Rp w a1 n1 c1 p1) (R2 : Rp w a2 n2 c2 p2) (hn1 : n1 ≤ 1000) (hn2 : n2 ≤ 1000) (hpos : 0 < n1 + n2) :
    Calls Try.prog 33 #[.slice (some ⟨b, 0, none⟩) 2 2] w fun e w' => ∃ a' c', e = .returned (.slice a' (n1 + n2) c') ∧ w'.ownsRow w.heap.size 35 2 (.slice a' (n1 + n2) c') (n1 + n2) (flat (p1 ++ p2)) ∧ Below w.heap.size w w' := by
  have e : tot (fun j => if j = 0 then n1 else n2) 2 = n1 + n2 := by simp [tot]
  have e2 : cat (fun j => if j = 0 then p1 else p2) 2 = p1 ++ p2 := by simp [cat]
  have := concat_any b 2 2 (fun j => if j = 0 then a1 else a2) (fun j => if j = 0 then n1 else n2) (fun j => if j = 0 then c1 else c2) (fun j => if j = 0 then p1 else p2) w (by omega) (by omega) (by omega)
    (fun j hj => by
      obtain rfl | rfl : j = 0 ∨ j = 1 := by omega
      · simpa using h1
      · simpa using h2)
    (fun j hj => by
      obtain rfl | rfl : j = 0 ∨ j = 1 := by omega
      · simpa using R1
      · simpa using R2)
    (fun j => by split <;> assumption) (by rw [e]; exact hpos)
  rw [e, e2] at this
  exact this

theorem load35 (w : World) (b : Nat) (x y : Int) (h0 : w.cell? ⟨b, 0, none⟩ = some (.int .i64 x)) (h1 : w.cell? ⟨b, 1, none⟩ = some (.int .i64 y)) :
    (loadVar 35 ⟨b, 0, none⟩).run Try.prog w = .ok (.agg #[.int .i64 x, .int .i64 y]) w := by
  simp [loadVar, go_sem, h0, h1]

theorem results_p {fn : Func} {t : Tmp} (h : fn.results = #[.cell t 35]) (tmps : Array Value) (w : World) (b : Nat) (hb : tmps.getD t undef = .pointer (some ⟨b, 0, none⟩)) (x y : Int) (h0 : w.cell? ⟨b, 0, none⟩ = some (.int .i64 x)) (h1 : w.cell? ⟨b, 1, none⟩ = some (.int .i64 y)) :
    (results fn tmps).run Try.prog w = .ok (.agg #[.int .i64 x, .int .i64 y]) w := by
  have hl := load35 w b x y h0 h1
  have hb' : tmps[t]?.getD undef = .pointer (some ⟨b, 0, none⟩) := by simpa using hb
  have ha : (asAddr (.pointer (some ⟨b, 0, none⟩))).run Try.prog w = .ok ⟨b, 0, none⟩ w := rfl
  simp [results, h, hb', ha, hl, Sem.run_bind, Result.andThen]

def turn (p : Pc) : Pc := (p.2, p.1)
theorem turned_any (p : Pc) (w : World) : Calls Try.prog 32 #[pv p] w fun e w' => e = .returned (pv (turn p)) ∧ Below w.heap.size w w' := by
  obtain ⟨x, y⟩ := p
  unfold turn pv
  simp only
  go_enter Try.func32, Try.ntmps32
  go_wp2_with fail
  exact bodyPost_ret (results_p rfl _ _ (w.heap.size + 1) rfl y x (by go_simp) (by go_simp)) rfl ⟨rfl, ((Below.refl _ _).alloc (Nat.le_refl _) _).alloc (by simp [World.size_alloc]) _⟩

/-- The lesser end first. -/
def lf (p : Pc) : Pc := (min p.1 p.2, max p.1 p.2)
theorem lesserFirst_any (p : Pc) (w : World) : Calls Try.prog 27 #[pv p] w fun e w' => e = .returned (pv (lf p)) ∧ Below w.heap.size w w' := by
  obtain ⟨x, y⟩ := p
  unfold lf pv
  simp only
  rcases Int.lt_trichotomy x y with hlt | rfl | hlt
  · have HM : Hid (Ending.returned (.agg #[.int .i64 x, .int .i64 y]) = .returned (.agg #[.int .i64 (min x y), .int .i64 (max x y)])) := hide (by rw [show min x y = x by omega, show max x y = y by omega])
    go_enter Try.func27, Try.ntmps27
    go_wp2_with fail
    exact bodyPost_ret (results_p rfl _ _ (w.heap.size + 1) rfl x y (by go_simp) (by go_simp)) rfl ⟨HM.out, ((Below.refl _ _).alloc (Nat.le_refl _) _).alloc (by simp [World.size_alloc]) _⟩
  · have HM : Hid (Ending.returned (.agg #[.int .i64 x, .int .i64 x]) = .returned (.agg #[.int .i64 (min x x), .int .i64 (max x x)])) := hide (by rw [show min x x = x by omega, show max x x = x by omega])
    go_enter Try.func27, Try.ntmps27
    go_wp2_with fail
    exact bodyPost_ret (results_p rfl _ _ (w.heap.size + 1) rfl x x (by go_simp) (by go_simp)) rfl ⟨by first | rfl | exact HM.out, ((Below.refl _ _).alloc (Nat.le_refl _) _).alloc (by simp [World.size_alloc]) _⟩
  · have HM : Hid (Ending.returned (.agg #[.int .i64 y, .int .i64 x]) = .returned (.agg #[.int .i64 (min x y), .int .i64 (max x y)])) := hide (by rw [show min x y = y by omega, show max x y = x by omega])
    have h1 : ¬ x ≤ y := by omega
    have h2 : ¬ x < y := by omega
    go_enter Try.func27, Try.ntmps27
    go_wp2_with fail
    exact bodyPost_ret (results_p rfl _ _ (w.heap.size + 1) rfl y x (by go_simp) (by go_simp)) rfl ⟨HM.out, ((Below.refl _ _).alloc (Nat.le_refl _) _).alloc (by simp [World.size_alloc]) _⟩

end Go.Proofs.Ytjcglpnpdalcjaa
