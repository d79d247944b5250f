/-
  What poker.Value, poker.Best and poker.Class answer. No conditions beyond those that each theorem bears.
-/
import Derived.Test.YtdhacmcdbpojlaaFault
namespace Go.Proofs.Ytdhacmcdbpojlaa
open Go.RowKit Go.Shelf

/-- All lists of k of these, in the order of their places. -/
def comb : Nat → List Nat → List (List Nat)
  | 0, _ => [[]]
  | _ + 1, [] => []
  | k + 1, x :: l => (comb k l).map (x :: ·) ++ comb (k + 1) l

def runB (n k : Nat) : List Nat → List (List Nat) → Bool
  | s, [] => decide (nextSet n k s = none)
  | s, s' :: r => decide (nextSet n k s = some s') && runB n k s' r

theorem run_of (n k : Nat) (s : List Nat) (r : List (List Nat)) (h : runB n k s r = true) : Run n k s r := by
  induction r generalizing s with
  | nil => simpa [runB, Run] using h
  | cons s' r ih =>
    simp only [runB, Bool.and_eq_true, decide_eq_true_eq] at h
    exact ⟨h.1, ih s' h.2⟩

def okSets (n k : Nat) (xs : List (List Nat)) : Bool := xs.all (fun x => decide (x.length = k) && x.all (fun i => decide (i < n)))

theorem ok_of (n k : Nat) (hn : 0 < n) (xs : List (List Nat)) (h : okSets n k xs = true) : ∀ x ∈ xs, x.length = k ∧ ∀ i, x.getD i 0 < n := by
  intro x hx
  simp only [okSets, List.all_eq_true, Bool.and_eq_true, decide_eq_true_eq] at h
  obtain ⟨h1, h2⟩ := h x hx
  refine ⟨h1, fun i => ?_⟩
  by_cases hi : i < x.length
  · simp only [List.getD, hi, List.getElem?_eq_getElem, Option.getD_some]
    exact h2 _ (List.getElem_mem hi)
  · simp [List.getD, hi, hn]

/-- The sets of five of five, six and seven places. -/
theorem sets567 (n : Nat) (h5 : 5 ≤ n) (h7 : n ≤ 7) : ∃ rest, comb 5 (List.range n) = List.range 5 :: rest ∧ Run n 5 (List.range 5) rest ∧ ∀ x ∈ (List.range 5 :: rest), x.length = 5 ∧ ∀ i, x.getD i 0 < n := by
  have h : n = 5 ∨ n = 6 ∨ n = 7 := by omega
  rcases h with rfl | rfl | rfl
  · exact ⟨(comb 5 (List.range 5)).tail, by decide +kernel, run_of _ _ _ _ (by decide +kernel), ok_of _ _ (by omega) _ (by decide +kernel)⟩
  · exact ⟨(comb 5 (List.range 6)).tail, by decide +kernel, run_of _ _ _ _ (by decide +kernel), ok_of _ _ (by omega) _ (by decide +kernel)⟩
  · exact ⟨(comb 5 (List.range 7)).tail, by decide +kernel, run_of _ _ _ _ (by decide +kernel), ok_of _ _ (by omega) _ (by decide +kernel)⟩

/-- The fault of a hand: 11: it has not five to seven cards. -/
def handE (zs : List Int) : Int := if zs.length < 5 ∨ 7 < zs.length then 11 else mayE zs

def bestZ (zs : List Int) : Int × List Nat := bestF ((comb 5 (List.range zs.length)).map (pick (natL zs)))

theorem toI_natL {zs : List Int} (h : inRange zs = true) : toI (natL zs) = zs := by
  simp only [inRange, List.all_eq_true, decide_eq_true_eq] at h
  simp only [toI, natL, List.map_map]
  conv => rhs; rw [← List.map_id zs]
  apply List.map_congr_left
  intro z hz
  have := h z hz
  simp; omega

theorem natL_lt {zs : List Int} (h : inRange zs = true) (i : Nat) : (natL zs).getD i 0 < 52 := by
  by_cases hi : i < zs.length
  · have := inRange_take h i hi
    simp only [List.getD, hi, List.getElem?_eq_getElem, Option.getD_some] at this
    simp only [natL, List.getD, List.getElem?_map, hi, List.getElem?_eq_getElem, Option.map_some, Option.getD_some]
    omega
  · simp [natL, List.getD, hi]

set_option maxHeartbeats 400000 in
theorem hand_any (a : Option Addr) (n c : Nat) (zs : List Int) (w : World) (h : Rd w a n c zs) :
    Calls Try.prog 22 #[.slice a n c] w fun e w' => e = .returned (.int .i64 (handE zs)) ∧ Below w.heap.size w w' := by
  have hcm := h.max
  have hcn := h.cap
  unfold maxLen at hcm
  have hl := hide h.len
  by_cases h5 : n < 5
  · have HE : Hid (handE zs = 11) := by show _ = _; rw [handE, if_pos (by rw [hl.out]; omega)]
    go_enter Try.func22, Try.ntmps22
    go_wp2
    go_ret
    exact ⟨by rw [HE.out]; rfl, Below.refl _ _⟩
  · by_cases h7 : 7 < n
    · have HE : Hid (handE zs = 11) := by show _ = _; rw [handE, if_pos (by rw [hl.out]; omega)]
      go_enter Try.func22, Try.ntmps22
      go_wp2
      go_ret
      exact ⟨by rw [HE.out]; rfl, Below.refl _ _⟩
    · have HE : Hid (handE zs = mayE zs) := by show _ = _; rw [handE, if_neg (by rw [hl.out]; omega)]
      have C := hide (cards_any a n c zs w h (by omega))
      clear h
      go_enter Try.func22, Try.ntmps22
      go_wp2_with fail
      refine C.out.mono ?_
      rintro e w1 ⟨rfl, hB⟩
      go_wp2
      go_ret
      exact ⟨by rw [HE.out]; rfl, hB⟩

theorem mayE_zero {zs : List Int} (h : mayE zs = 0) : inRange zs = true ∧ zs.Nodup := by
  unfold mayE at h
  split at h
  · rename_i h1
    split at h
    · rename_i h2; exact ⟨h1, h2⟩
    · simp at h
  · simp at h

theorem handE_zero {zs : List Int} (h : handE zs = 0) : 5 ≤ zs.length ∧ zs.length ≤ 7 ∧ inRange zs = true ∧ zs.Nodup := by
  unfold handE at h
  split at h
  · simp at h
  · obtain ⟨h1, h2⟩ := mayE_zero h
    exact ⟨by omega, by omega, h1, h2⟩

/-- poker.best at five to seven cards. -/
theorem best_z (a : Option Addr) (n c : Nat) (zs : List Int) (w : World) (h : Rd w a n c zs) (h5 : 5 ≤ n) (h7 : n ≤ 7) (hr : inRange zs = true) :
    Calls Try.prog 23 #[.slice a n c] w fun e w' => ∃ v x0 x1 x2 x3 x4, bestZ zs = (v, [x0, x1, x2, x3, x4]) ∧ e = .returned (.tuple #[.int .i64 v, arrN x0 x1 x2 x3 x4]) ∧ Below w.heap.size w w' := by
  obtain ⟨rest, e1, e2, e3⟩ := sets567 n h5 h7
  have h' := h
  rw [← toI_natL hr] at h'
  refine (best_any a n c (natL zs) h5 (by omega) (natL_lt hr) rest e2 e3 w h').mono ?_
  rintro e w' ⟨v, x0, x1, x2, x3, x4, hb, rfl, hB⟩
  refine ⟨v, x0, x1, x2, x3, x4, ?_, rfl, hB⟩
  rw [bestZ, h.len, e1, hb]

def valueV (zs : List Int) : Int := if handE zs = 0 then (bestZ zs).1 else 0
def bestL (zs : List Int) : List Int := if handE zs = 0 then toI (bestZ zs).2 else []

set_option maxHeartbeats 800000 in
theorem Value_any (a : Option Addr) (n c : Nat) (zs : List Int) (w : World) (h : Rd w a n c zs) :
    Calls Try.prog 8 #[.slice a n c] w fun e w' => e = .returned (.tuple #[.int .i64 (valueV zs), .int .i64 (handE zs)]) ∧ Below w.heap.size w w' := by
  have H := hide (hand_any a n c zs w h)
  have HH := hide h
  by_cases h0 : handE zs = 0
  · have hv : Hid (valueV zs = (bestZ zs).1) := by show _ = _; rw [valueV, if_pos h0]
    obtain ⟨l5, l7, hr, _⟩ := handE_zero h0
    rw [h.len] at l5 l7
    have HB := hide (fun w1 (hb : Below w.heap.size w w1) => best_z a n c zs w1 (h.mono hb) l5 l7 hr)
    rw [h0] at H ⊢
    clear h hr l5 l7
    go_enter Try.func8, Try.ntmps8
    go_wp2_with fail
    refine H.out.mono ?_
    rintro e w1 ⟨rfl, hB1⟩
    have HB1 := hide hB1
    clear hB1
    go_wp2_with fail
    refine (HB.out w1 HB1.out).mono ?_
    rintro e w2 ⟨v, x0, x1, x2, x3, x4, hbz, rfl, hB2⟩
    unfold arrN
    have HZ := hide hbz
    have HB2 := hide (HB1.out.trans (hB2.mono HB1.out.size))
    clear hbz hB2
    go_wp2
    go_ret2
    refine ⟨by rw [hv.out, HZ.out]; rfl, HB2.out.alloc HB2.out.size _⟩
  · have hv : Hid (valueV zs = 0) := by show _ = _; rw [valueV, if_neg h0]
    obtain ⟨x, hx⟩ : ∃ x, handE zs = x := ⟨_, rfl⟩
    rw [hx] at H h0 ⊢
    have HX := hide hx
    clear hx h
    go_enter Try.func8, Try.ntmps8
    go_wp2_with fail
    refine H.out.mono ?_
    rintro e w1 ⟨rfl, hB1⟩
    go_wp2
    go_ret2
    exact ⟨by rw [hv.out]; rfl, hB1⟩

end Go.Proofs.Ytdhacmcdbpojlaa
