/-
  Small functions: is it a row, are they the same, may they be. No conditions beyond those that each theorem bears.
-/
import Derived.Test.YtjcglpnpdalcjaaBase
namespace Go.Proofs.Ytjcglpnpdalcjaa
open Go.RowKit
attribute [local go_sem] build35 run_eq35 guard35

set_option maxHeartbeats 1000000 in
theorem isRow_any (a : Option Addr) (n c : Nat) (ps : List Pc) (w : World) (h : Rp w a n c ps) :
    Calls Try.prog 31 #[.slice a n c] w fun e w' => e = .returned (.bool (isR ps)) ∧ ∃ q, w' = w.drewN q := by
  have hcm := h.max
  have hcn := h.cap
  unfold maxLen at hcm
  have HH := hide h
  clear h
  go_enter Try.func31, Try.ntmps31
  go_wp2
  go_loopw [3] (fun i wr => ∃ k q : Nat, 1 ≤ k ∧ (k ≤ n ∨ k = 1) ∧ i = .int .i64 k ∧ wr = w.drewN q ∧ Hid (∀ j, 1 ≤ j → j < k → (ps.getD (j - 1) (0, 0)).2 = (ps.getD j (0, 0)).1)) (fun i _ => n + 2 - (intOf i).toNat)
  case atStart => exact ⟨1, 0, Nat.le_refl _, Or.inr rfl, rfl, rfl, hide (fun j h1 h2 => by omega)⟩
  case round =>
    obtain ⟨k, q, hk1, hk, rfl, rfl, HL⟩ := hrel
    by_cases hlt : k < n
    · obtain ⟨b, off, ha, hc⟩ := HH.out.cells (by omega)
      subst ha
      obtain ⟨-, r1⟩ := hc (k - 1) (by omega)
      obtain ⟨r2, -⟩ := hc k hlt
      clear hc
      have hzl : k < ps.length := by rw [HH.out.len]; exact hlt
      obtain ⟨j, rfl⟩ : ∃ j, k = j + 1 := ⟨k - 1, by omega⟩
      rw [Nat.add_sub_cancel] at r1
      obtain ⟨x, hx⟩ : ∃ x, (ps.getD j (0, 0)).2 = x := ⟨_, rfl⟩
      obtain ⟨y, hy⟩ : ∃ y, (ps.getD (j + 1) (0, 0)).1 = y := ⟨_, rfl⟩
      rw [hx] at r1
      rw [hy] at r2
      have HX := hide hx
      have HY := hide hy
      have HZ := hide hzl
      clear hx hy hzl
      have t1 : ((j + 1 : Nat) : Int) - 1 = (j : Int) := by omega
      have t2 : ((j : Int) + 1) - 1 = (j : Int) := by omega
      have t3 : (j : Int) < (n : Int) := by omega
      have t4 : (j : Int) + 1 < (n : Int) := by omega
      have t5 : ((j : Int) + 1).toNat = j + 1 := by omega
      by_cases hxy : x = y
      · have hb : (x != y) = false := by simp [hxy]
        have HN : Hid (∀ i, 1 ≤ i → i < j + 1 + 1 → (ps.getD (i - 1) (0, 0)).2 = (ps.getD i (0, 0)).1) := hide (fun i h1 h2 => by
          by_cases hi : i = j + 1
          · subst hi
            rw [Nat.add_sub_cancel, HX.out, HY.out, hxy]
          · exact HL.out i h1 (by omega))
        clear hxy
        go_wp2
        go_quiet (fail)
        go_wp2
        go_round
        case rel => exact ⟨j + 1 + 1, _, by omega, by omega, by go_num, rfl, HN⟩
        case measure => simp [intOf]; omega
      · have hb : (x != y) = true := by simp [hxy]
        have HN : Hid (isR ps = false) := hide (isR_false ps (j + 1) (by omega) HZ.out (by rw [Nat.add_sub_cancel, HX.out, HY.out]; exact hxy))
        clear hxy
        go_wp2
        go_quiet (fail)
        go_wp2
        go_ret
        exact ⟨ret_bool HN.out.symm, _, World.drewN_drewN _ _ _⟩
    · have hlt' : ¬ (k : Int) < (n : Int) := by omega
      have HN : Hid (isR ps = true) := hide (isR_true ps (fun j h1 h2 => HL.out j h1 (by rw [HH.out.len] at h2; omega)))
      go_wp2
      go_ret
      exact ⟨ret_bool HN.out.symm, _, rfl⟩

set_option maxHeartbeats 1000000 in
theorem RowIs_any (a : Option Addr) (n c : Nat) (ps : List Pc) (w : World) (h : Rp w a n c ps) :
    Calls Try.prog 17 #[.slice a n c] w fun e w' => e = .returned (.bool (isR ps)) ∧ ∃ q, w' = w.drewN q := by
  have hcm := h.max
  have hcn := h.cap
  unfold maxLen at hcm
  have HH := hide h
  clear h
  go_enter Try.func17, Try.ntmps17
  go_wp2
  go_loopw [3] (fun i wr => ∃ k q : Nat, 1 ≤ k ∧ (k ≤ n ∨ k = 1) ∧ i = .int .i64 k ∧ wr = w.drewN q ∧ Hid (∀ j, 1 ≤ j → j < k → (ps.getD (j - 1) (0, 0)).2 = (ps.getD j (0, 0)).1)) (fun i _ => n + 2 - (intOf i).toNat)
  case atStart => exact ⟨1, 0, Nat.le_refl _, Or.inr rfl, rfl, rfl, hide (fun j h1 h2 => by omega)⟩
  case round =>
    obtain ⟨k, q, hk1, hk, rfl, rfl, HL⟩ := hrel
    by_cases hlt : k < n
    · obtain ⟨b, off, ha, hc⟩ := HH.out.cells (by omega)
      subst ha
      obtain ⟨-, r1⟩ := hc (k - 1) (by omega)
      obtain ⟨r2, -⟩ := hc k hlt
      clear hc
      have hzl : k < ps.length := by rw [HH.out.len]; exact hlt
      obtain ⟨j, rfl⟩ : ∃ j, k = j + 1 := ⟨k - 1, by omega⟩
      rw [Nat.add_sub_cancel] at r1
      obtain ⟨x, hx⟩ : ∃ x, (ps.getD j (0, 0)).2 = x := ⟨_, rfl⟩
      obtain ⟨y, hy⟩ : ∃ y, (ps.getD (j + 1) (0, 0)).1 = y := ⟨_, rfl⟩
      rw [hx] at r1
      rw [hy] at r2
      have HX := hide hx
      have HY := hide hy
      have HZ := hide hzl
      clear hx hy hzl
      have t1 : ((j + 1 : Nat) : Int) - 1 = (j : Int) := by omega
      have t2 : ((j : Int) + 1) - 1 = (j : Int) := by omega
      have t3 : (j : Int) < (n : Int) := by omega
      have t4 : (j : Int) + 1 < (n : Int) := by omega
      have t5 : ((j : Int) + 1).toNat = j + 1 := by omega
      by_cases hxy : x = y
      · have hb : (x != y) = false := by simp [hxy]
        have HN : Hid (∀ i, 1 ≤ i → i < j + 1 + 1 → (ps.getD (i - 1) (0, 0)).2 = (ps.getD i (0, 0)).1) := hide (fun i h1 h2 => by
          by_cases hi : i = j + 1
          · subst hi
            rw [Nat.add_sub_cancel, HX.out, HY.out, hxy]
          · exact HL.out i h1 (by omega))
        clear hxy
        go_wp2
        go_quiet (fail)
        go_wp2
        go_round
        case rel => exact ⟨j + 1 + 1, _, by omega, by omega, by go_num, rfl, HN⟩
        case measure => simp [intOf]; omega
      · have hb : (x != y) = true := by simp [hxy]
        have HN : Hid (isR ps = false) := hide (isR_false ps (j + 1) (by omega) HZ.out (by rw [Nat.add_sub_cancel, HX.out, HY.out]; exact hxy))
        clear hxy
        go_wp2
        go_quiet (fail)
        go_wp2
        go_ret
        exact ⟨ret_bool HN.out.symm, _, World.drewN_drewN _ _ _⟩
    · have hlt' : ¬ (k : Int) < (n : Int) := by omega
      have HN : Hid (isR ps = true) := hide (isR_true ps (fun j h1 h2 => HL.out j h1 (by rw [HH.out.len] at h2; omega)))
      go_wp2
      go_ret
      exact ⟨ret_bool HN.out.symm, _, rfl⟩

set_option maxHeartbeats 1000000 in
theorem samePieces_any (a : Option Addr) (n c : Nat) (ps : List Pc) (a' : Option Addr) (n' c' : Nat) (qs : List Pc) (w : World) (h : Rp w a n c ps) (h' : Rp w a' n' c' qs) :
    Calls Try.prog 11 #[.slice a n c, .slice a' n' c'] w fun e w' => e = .returned (.bool (decide (ps = qs))) ∧ ∃ q, w' = w.drewN q := by
  have hcm := h.max
  have hcn := h.cap
  have hcm' := h'.max
  have hcn' := h'.cap
  unfold maxLen at hcm hcm'
  have HH := hide h
  have HH' := hide h'
  clear h h'
  by_cases hnn : n = n'
  · subst hnn
    go_enter Try.func11, Try.ntmps11
    go_wp2
    go_loopw [5] (fun i wr => ∃ k q : Nat, k ≤ n ∧ i = .int .i64 k ∧ wr = w.drewN q ∧ Hid (ps.take k = qs.take k)) (fun i _ => n - (intOf i).toNat)
    case atStart => exact ⟨0, 0, by omega, rfl, rfl, hide rfl⟩
    case round =>
      obtain ⟨k, q, hk, rfl, rfl, HL⟩ := hrel
      by_cases hlt : k < n
      · obtain ⟨b, off, ha, hc⟩ := HH.out.cells (by omega)
        obtain ⟨b', off', ha', hc'⟩ := HH'.out.cells (by omega)
        subst ha ha'
        obtain ⟨r1, r2⟩ := hc k hlt
        obtain ⟨r3, r4⟩ := hc' k hlt
        clear hc hc'
        have hz : k < ps.length := by rw [HH.out.len]; exact hlt
        have hz' : k < qs.length := by rw [HH'.out.len]; exact hlt
        obtain ⟨p, hp⟩ : ∃ p, ps.getD k (0, 0) = p := ⟨_, rfl⟩
        obtain ⟨p', hp'⟩ : ∃ p, qs.getD k (0, 0) = p := ⟨_, rfl⟩
        have e1 : ps.take (k + 1) = ps.take k ++ [p] := by rw [List.take_succ_eq_append_getElem hz, ← hp]; simp [List.getD, hz]
        have e2 : qs.take (k + 1) = qs.take k ++ [p'] := by rw [List.take_succ_eq_append_getElem hz', ← hp']; simp [List.getD, hz']
        rw [hp] at r1 r2
        rw [hp'] at r3 r4
        have E1 := hide e1
        have E2 := hide e2
        obtain ⟨x, y⟩ := p
        obtain ⟨x', y'⟩ := p'
        simp only at r1 r2 r3 r4
        clear e1 e2 hp hp' hz hz'
        by_cases hxy : x = x' ∧ y = y'
        · obtain ⟨rfl, rfl⟩ := hxy
          have HN : Hid (ps.take (k + 1) = qs.take (k + 1)) := hide (by rw [E1.out, E2.out, HL.out])
          clear E1 E2
          go_wp2
          go_quiet (fail)
          go_wp2
          go_round
          case rel => exact ⟨k + 1, _, by omega, by go_num, rfl, HN⟩
          case measure => simp [intOf]; omega
        · have HN : Hid (decide (ps = qs) = false) := hide (by
            simp only [decide_eq_false_iff_not]
            intro e
            have := E2.out
            rw [← e, E1.out] at this
            have := (List.append_inj this (by rw [HL.out])).2
            simp at this
            exact hxy this)
          have hb : (x == x' && y == y') = false := by
            cases hh : (x == x' && y == y')
            · rfl
            · simp at hh; exact absurd hh hxy
          clear hxy E1 E2
          go_wp2
          go_quiet (fail)
          go_wp2
          go_ret
          exact ⟨ret_bool HN.out.symm, _, World.drewN_drewN _ _ _⟩
      · obtain rfl : k = n := by omega
        have hlt' : ¬ (k : Int) < (k : Int) := by omega
        have HN : Hid (decide (ps = qs) = true) := hide (by
          have := HL.out
          rw [List.take_of_length_le (by rw [HH.out.len]; exact Nat.le_refl _), List.take_of_length_le (by rw [HH'.out.len]; exact Nat.le_refl _)] at this
          simp [this])
        go_wp2
        go_ret
        exact ⟨ret_bool HN.out.symm, _, rfl⟩
  · have HN : Hid (decide (ps = qs) = false) := hide (by
      simp only [decide_eq_false_iff_not]
      intro e
      subst e
      exact hnn (HH.out.len.symm.trans HH'.out.len))
    have hb : ((n : Int) != (n' : Int)) = true := by simp; omega
    go_enter Try.func11, Try.ntmps11
    go_wp2
    go_ret
    exact ⟨ret_bool HN.out.symm, 0, rfl⟩

/-- May an end have so many pips? -/
def endB (x : Int) : Bool := decide (0 ≤ x ∧ x ≤ 9)
def pcB (p : Pc) : Bool := endB p.1 && endB p.2
def pcsB (ps : List Pc) : Bool := ps.all pcB

theorem wrongEnd_any (x : Int) (w : World) : Calls Try.prog 23 #[.int .i64 x] w fun e w' => e = .returned (.bool (!endB x)) ∧ w' = w := by
  by_cases h0 : x < 0
  · have HD : Hid (endB x = false) := hide (by simp [endB]; omega)
    go_enter Try.func23, Try.ntmps23
    go_wp2
    go_ret
    exact ⟨ret_bool (by rw [HD.out]; rfl), rfl⟩
  · have h0' : decide (x < 0) = false := by simp; omega
    by_cases h9 : 9 < x
    · have HD : Hid (endB x = false) := hide (by simp [endB]; omega)
      go_enter Try.func23, Try.ntmps23
      go_wp2
      go_ret
      exact ⟨ret_bool (by rw [HD.out]; rfl), rfl⟩
    · have HD : Hid (endB x = true) := hide (by simp [endB]; omega)
      have h9' : decide (9 < x) = false := by simp; omega
      go_enter Try.func23, Try.ntmps23
      go_wp2
      go_ret
      exact ⟨ret_bool (by rw [HD.out]; rfl), rfl⟩

theorem within_any (x : Int) (w : World) : Calls Try.prog 34 #[.int .i64 x, .int .i64 0, .int .i64 9] w fun e w' => e = .returned (.bool (endB x)) ∧ w' = w := by
  by_cases h0 : 0 ≤ x
  · by_cases h9 : x ≤ 9
    · have HD : Hid (endB x = true) := hide (by simp [endB]; omega)
      go_enter Try.func34, Try.ntmps34
      go_wp2
      go_ret
      exact ⟨ret_bool (by rw [HD.out]), rfl⟩
    · have HD : Hid (endB x = false) := hide (by simp [endB]; omega)
      have h9' : decide (x ≤ 9) = false := by simp; omega
      go_enter Try.func34, Try.ntmps34
      go_wp2
      go_ret
      exact ⟨ret_bool (by rw [HD.out]), rfl⟩
  · have HD : Hid (endB x = false) := hide (by simp [endB]; omega)
    have h0' : decide (0 ≤ x) = false := by simp; omega
    go_enter Try.func34, Try.ntmps34
    go_wp2
    go_ret
    exact ⟨ret_bool (by rw [HD.out]), rfl⟩

theorem PieceMay_any (p : Pc) (w : World) : Calls Try.prog 20 #[pv p] w fun e w' => e = .returned (.bool (pcB p)) ∧ Below w.heap.size w w' := by
  obtain ⟨x, y⟩ := p
  unfold pv pcB
  simp only
  cases hx : endB x with
  | true =>
    go_enter Try.func20, Try.ntmps20
    go_wp2_with fail
    refine (within_any x _).mono ?_
    rintro e w1 ⟨rfl, hw⟩
    subst w1
    rw [hx]
    go_wp2_with fail
    refine (within_any y _).mono ?_
    rintro e w1 ⟨rfl, hw⟩
    subst w1
    go_wp2
    go_ret
    exact ⟨ret_bool (by simp), (Below.refl _ _).alloc (Nat.le_refl _) _⟩
  | false =>
    go_enter Try.func20, Try.ntmps20
    go_wp2_with fail
    refine (within_any x _).mono ?_
    rintro e w1 ⟨rfl, hw⟩
    subst w1
    rw [hx]
    go_wp2
    go_ret
    exact ⟨ret_bool (by simp), (Below.refl _ _).alloc (Nat.le_refl _) _⟩

theorem pcsB_snoc (ps : List Pc) (p : Pc) : pcsB (ps ++ [p]) = (pcsB ps && pcB p) := by simp [pcsB]
theorem take_snocP (ps : List Pc) (k : Nat) (h : k < ps.length) : ps.take (k + 1) = ps.take k ++ [ps.getD k (0, 0)] := by
  rw [List.take_succ_eq_append_getElem h]
  simp [List.getD, h]
theorem pcsB_false (ps : List Pc) (k : Nat) (h : k < ps.length) (hb : pcB (ps.getD k (0, 0)) = false) : pcsB ps = false := by
  cases hh : pcsB ps
  · rfl
  · have : ps.getD k (0, 0) ∈ ps := by simp [List.getD, h]
    rw [List.all_eq_true.1 hh _ this] at hb
    simp at hb

set_option maxHeartbeats 1000000 in
theorem PiecesMay_any (a : Option Addr) (n c : Nat) (ps : List Pc) (w : World) (h : Rp w a n c ps) :
    Calls Try.prog 13 #[.slice a n c] w fun e w' => e = .returned (.bool (pcsB ps)) ∧ Below w.heap.size w w' := by
  have hcm := h.max
  have hcn := h.cap
  unfold maxLen at hcm
  have HH := hide h
  clear h
  go_enter Try.func13, Try.ntmps13
  go_wp2
  go_loopw [3] (fun i wr => ∃ k : Nat, k ≤ n ∧ i = .int .i64 k ∧ Hid (Below w.heap.size w wr) ∧ Hid (pcsB (ps.take k) = true)) (fun i _ => n - (intOf i).toNat)
  case atStart => exact ⟨0, by omega, rfl, hide (Below.refl _ _), hide rfl⟩
  case round =>
    obtain ⟨k, hk, rfl, HB, HL⟩ := hrel
    by_cases hlt : k < n
    · have HR := hide (HH.out.mono HB.out)
      obtain ⟨b, off, ha, hc⟩ := HR.out.cells (by omega)
      subst ha
      obtain ⟨r1, r2⟩ := hc k hlt
      clear hc
      have hzl : k < ps.length := by rw [HH.out.len]; exact hlt
      obtain ⟨p, hp⟩ : ∃ p, ps.getD k (0, 0) = p := ⟨_, rfl⟩
      rw [hp] at r1 r2
      have HP := hide hp
      have HZ := hide hzl
      clear hp hzl
      obtain ⟨x, y⟩ := p
      simp only at r1 r2
      cases hb : pcB (x, y) with
      | true =>
        have HN : Hid (pcsB (ps.take (k + 1)) = true) := hide (by rw [take_snocP ps k HZ.out, HP.out, pcsB_snoc, HL.out, hb]; rfl)
        go_wp2_with fail
        refine (PieceMay_any (x, y) _).mono ?_
        rintro e w1 ⟨rfl, hB⟩
        rw [hb]
        have HB1 := hide (HB.out.trans (hB.mono HB.out.size))
        clear hB HB
        go_wp2
        go_round
        case rel => exact ⟨k + 1, by omega, by go_num, HB1, HN⟩
        case measure => simp [intOf]; omega
      | false =>
        have HN : Hid (pcsB ps = false) := hide (pcsB_false ps k HZ.out (by rw [HP.out, hb]))
        go_wp2_with fail
        refine (PieceMay_any (x, y) _).mono ?_
        rintro e w1 ⟨rfl, hB⟩
        rw [hb]
        have HB1 := hide (HB.out.trans (hB.mono HB.out.size))
        clear hB HB
        go_wp2
        go_ret
        exact ⟨ret_bool HN.out.symm, HB1.out⟩
    · obtain rfl : k = n := by omega
      have hlt' : ¬ (k : Int) < (k : Int) := by omega
      have HN : Hid (pcsB ps = true) := hide (by
        have := HL.out
        rwa [List.take_of_length_le (by rw [HH.out.len]; exact Nat.le_refl _)] at this)
      go_wp2
      go_ret
      exact ⟨ret_bool HN.out.symm, HB.out⟩

end Go.Proofs.Ytjcglpnpdalcjaa
