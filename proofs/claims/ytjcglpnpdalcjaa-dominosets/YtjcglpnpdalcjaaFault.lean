/-
  What is wrong with pieces. No conditions beyond those that each theorem bears.
-/
import Derived.Test.YtjcglpnpdalcjaaSmall
namespace Go.Proofs.Ytjcglpnpdalcjaa
open Go.RowKit
attribute [local go_sem] build35 run_eq35 guard35

set_option maxHeartbeats 1000000 in
theorem idx41_any (b : Nat) (x y : Int) (w : World) (r1 : w.cell? ⟨b, 0, none⟩ = some (.int .i64 x)) (r2 : w.cell? ⟨b, 1, none⟩ = some (.int .i64 y)) :
    Calls Try.prog 41 #[.slice (some ⟨b, 0, none⟩) 2 2, .func (.func 23) #[] #[]] w fun e w' => (∃ i : Int, e = .returned (.int .i64 i) ∧ decide (0 ≤ i) = !pcB (x, y)) ∧ w' = w := by
  go_enter Try.func41, Try.ntmps41
  go_wp2_with fail
  go_loop [8] (fun i => ∃ k : Nat, k ≤ 2 ∧ i = .int .i64 k ∧ Hid (1 ≤ k → endB x = true) ∧ Hid (2 ≤ k → endB y = true)) (fun i => 2 - (intOf i).toNat)
  case atStart => exact ⟨0, by omega, rfl, hide (fun h => by omega), hide (fun h => by omega)⟩
  case round =>
    obtain ⟨k, hk, rfl, H1, H2⟩ := hrel
    obtain rfl | rfl | rfl : k = 0 ∨ k = 1 ∨ k = 2 := by omega
    · cases hb : endB x with
      | true =>
        go_wp2_with fail
        refine (wrongEnd_any x _).mono ?_
        rintro e w1 ⟨rfl, hw⟩
        subst w1
        rw [hb]
        go_wp2_with fail
        go_round
        case rel => exact ⟨1, by omega, by go_num, hide (fun _ => by first | exact hb | trivial), hide (fun h => by omega)⟩
        case measure => simp [intOf]
      | false =>
        go_wp2_with fail
        refine (wrongEnd_any x _).mono ?_
        rintro e w1 ⟨rfl, hw⟩
        subst w1
        rw [hb]
        go_wp2_with fail
        go_ret
        exact ⟨⟨_, rfl, by simp [pcB, hb]⟩, rfl⟩
    · cases hb : endB y with
      | true =>
        go_wp2_with fail
        refine (wrongEnd_any y _).mono ?_
        rintro e w1 ⟨rfl, hw⟩
        subst w1
        rw [hb]
        go_wp2_with fail
        go_round
        case rel => exact ⟨2, by omega, by go_num, hide (fun _ => H1.out (by omega)), hide (fun _ => by first | exact hb | trivial)⟩
        case measure => simp [intOf]
      | false =>
        go_wp2_with fail
        refine (wrongEnd_any y _).mono ?_
        rintro e w1 ⟨rfl, hw⟩
        subst w1
        rw [hb]
        go_wp2_with fail
        go_ret
        exact ⟨⟨_, rfl, by simp [pcB, hb]⟩, rfl⟩
    · go_wp2_with fail
      go_ret
      exact ⟨⟨_, rfl, by simp [pcB, H1.out (by omega), H2.out (by omega)]⟩, rfl⟩

theorem has38_any (b : Nat) (x y : Int) (w : World) (r1 : w.cell? ⟨b, 0, none⟩ = some (.int .i64 x)) (r2 : w.cell? ⟨b, 1, none⟩ = some (.int .i64 y)) :
    Calls Try.prog 38 #[.slice (some ⟨b, 0, none⟩) 2 2, .func (.func 23) #[] #[]] w fun e w' => e = .returned (.bool (!pcB (x, y))) ∧ w' = w := by
  go_enter Try.func38, Try.ntmps38
  go_wp2_with fail
  refine (idx41_any b x y _ r1 r2).mono ?_
  rintro e w1 ⟨⟨i, rfl, hi⟩, hw⟩
  subst w1
  have HI := hide hi
  clear hi
  go_wp2_with fail
  go_ret
  exact ⟨ret_bool HI.out, rfl⟩

theorem wrongPiece_any (p : Pc) (w : World) : Calls Try.prog 30 #[pv p] w fun e w' => e = .returned (.bool (!pcB p)) ∧ Below w.heap.size w w' := by
  obtain ⟨x, y⟩ := p
  unfold pv
  simp only
  go_enter Try.func30, Try.ntmps30
  go_wp2_with fail
  refine (has38_any _ x y _ (by simp [go_sem]) (by simp [go_sem])).mono ?_
  rintro e w1 ⟨rfl, hw⟩
  subst w1
  go_wp2_with fail
  go_ret
  exact ⟨rfl, (Below.refl _ _).alloc (Nat.le_refl _) _⟩

set_option maxHeartbeats 1000000 in
theorem idx40_any (a : Option Addr) (n c : Nat) (ps : List Pc) (w : World) (h : Rp w a n c ps) :
    Calls Try.prog 40 #[.slice a n c, .func (.func 30) #[] #[]] w fun e w' => (∃ i : Int, e = .returned (.int .i64 i) ∧ decide (0 ≤ i) = !pcsB ps) ∧ Below w.heap.size w w' := by
  have hcm := h.max
  have hcn := h.cap
  unfold maxLen at hcm
  have HH := hide h
  clear h
  go_enter Try.func40, Try.ntmps40
  go_wp2_with fail
  go_loopw [8] (fun i wr => ∃ k : Nat, k ≤ n ∧ i = .int .i64 k ∧ Hid (Below w.heap.size w wr) ∧ Hid (pcsB (ps.take k) = true)) (fun i _ => n - (intOf i).toNat)
  case atStart => exact ⟨0, by omega, rfl, hide (Below.refl _ _), hide rfl⟩
  case round =>
    obtain ⟨k, hk, rfl, HB, HL⟩ := hrel
    by_cases hlt : k < n
    · have HR := hide (HH.out.mono HB.out)
      obtain ⟨b, off, ha, hc⟩ := HR.out.cells (by omega)
      subst ha
      obtain ⟨r1, r2⟩ := hc k hlt
      clear hc
      have hzl : k < ps.length := by rw [HH.out.len]; exact hlt
      obtain ⟨p, hp⟩ : ∃ p, ps.getD k (0, 0) = p := ⟨_, rfl⟩
      rw [hp] at r1 r2
      have HP := hide hp
      have HZ := hide hzl
      clear hp hzl
      obtain ⟨x, y⟩ := p
      simp only at r1 r2
      cases hb : pcB (x, y) with
      | true =>
        have HN : Hid (pcsB (ps.take (k + 1)) = true) := hide (by rw [take_snocP ps k HZ.out, HP.out, pcsB_snoc, HL.out, hb]; rfl)
        go_wp2_with fail
        refine (wrongPiece_any (x, y) _).mono ?_
        rintro e w1 ⟨rfl, hB⟩
        rw [hb]
        have HB1 := hide (HB.out.trans (hB.mono HB.out.size))
        clear hB HB
        go_wp2_with fail
        go_round
        case rel => exact ⟨k + 1, by omega, by go_num, HB1, HN⟩
        case measure => simp [intOf]; omega
      | false =>
        have HN : Hid (pcsB ps = false) := hide (pcsB_false ps k HZ.out (by rw [HP.out, hb]))
        go_wp2_with fail
        refine (wrongPiece_any (x, y) _).mono ?_
        rintro e w1 ⟨rfl, hB⟩
        rw [hb]
        have HB1 := hide (HB.out.trans (hB.mono HB.out.size))
        clear hB HB
        go_wp2_with fail
        go_ret
        exact ⟨⟨_, rfl, by rw [HN.out]; simp⟩, HB1.out⟩
    · obtain rfl : k = n := by omega
      have hlt' : ¬ (k : Int) < (k : Int) := by omega
      have HN : Hid (pcsB ps = true) := hide (by
        have := HL.out
        rwa [List.take_of_length_le (by rw [HH.out.len]; exact Nat.le_refl _)] at this)
      go_wp2_with fail
      go_ret
      exact ⟨⟨_, rfl, by rw [HN.out]; rfl⟩, HB.out⟩

theorem has35_any (a : Option Addr) (n c : Nat) (ps : List Pc) (w : World) (h : Rp w a n c ps) :
    Calls Try.prog 35 #[.slice a n c, .func (.func 30) #[] #[]] w fun e w' => e = .returned (.bool (!pcsB ps)) ∧ Below w.heap.size w w' := by
  have HH := hide h
  clear h
  go_enter Try.func35, Try.ntmps35
  go_wp2_with fail
  refine (idx40_any a n c ps _ HH.out).mono ?_
  rintro e w1 ⟨⟨i, rfl, hi⟩, hB⟩
  have HI := hide hi
  have HB := hide hB
  clear hi hB
  go_wp2_with fail
  go_ret
  exact ⟨ret_bool HI.out, HB.out⟩

/-- What is wrong: 0 nothing, 2 too many, 3 an end. -/
def fltE (ps : List Pc) (most : Nat) : Int := if most < ps.length then 2 else if pcsB ps then 0 else 3

theorem fault_any (a : Option Addr) (n c : Nat) (ps : List Pc) (most : Nat) (w : World) (h : Rp w a n c ps) :
    Calls Try.prog 24 #[.slice a n c, .int .i64 most] w fun e w' => e = .returned (.int .i64 (fltE ps most)) ∧ Below w.heap.size w w' := by
  have hln := h.len
  have HH := hide h
  clear h
  by_cases hm : most < n
  · have HE : Hid (fltE ps most = 2) := hide (by unfold fltE; rw [if_pos (by omega)])
    clear hln
    go_enter Try.func24, Try.ntmps24
    go_wp2_with fail
    go_ret
    exact ⟨ret_intN HE.out.symm, Below.refl _ _⟩
  · cases hb : pcsB ps with
    | true =>
      have HE : Hid (fltE ps most = 0) := hide (by unfold fltE; rw [if_neg (by omega), hb]; rfl)
      clear hln
      go_enter Try.func24, Try.ntmps24
      go_wp2_with fail
      refine (has35_any a n c ps _ HH.out).mono ?_
      rintro e w1 ⟨rfl, hB⟩
      rw [hb]
      have HB := hide hB
      clear hB
      go_wp2_with fail
      go_ret
      exact ⟨ret_intN HE.out.symm, HB.out⟩
    | false =>
      have HE : Hid (fltE ps most = 3) := hide (by unfold fltE; rw [if_neg (by omega), hb]; rfl)
      clear hln
      go_enter Try.func24, Try.ntmps24
      go_wp2_with fail
      refine (has35_any a n c ps _ HH.out).mono ?_
      rintro e w1 ⟨rfl, hB⟩
      rw [hb]
      have HB := hide hB
      clear hB
      go_wp2_with fail
      go_ret
      exact ⟨ret_intN HE.out.symm, HB.out⟩

end Go.Proofs.Ytjcglpnpdalcjaa
