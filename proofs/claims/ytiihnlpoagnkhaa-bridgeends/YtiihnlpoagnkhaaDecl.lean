/-
  What bridge.levelOf, strainOf and declarer answer. No conditions beyond those that each theorem bears.
-/
import Derived.Test.YtiihnlpoagnkhaaBlk
namespace Go.Proofs.Ytiihnlpoagnkhaa
open Go.RowKit

theorem ret_int1 {x y : Int} (h : x = y) : Ending.returned (.int .i64 x) = .returned (.int .i64 y) := by rw [h]

set_option maxHeartbeats 400000 in
theorem strainOf_any (x : Int) (h : 3 ≤ x) (h37 : x ≤ 37) (w : World) : Calls Try.prog 32 #[.int .i64 x] w fun e w' => e = .returned (.int .i64 ((x - 3) % 5)) ∧ w' = w := by
  have ht : Int.tmod (x - 3) 5 = (x - 3) % 5 := Int.tmod_eq_emod_of_nonneg (by omega)
  go_enter Try.func32, Try.ntmps32
  go_wp2
  go_ret
  exact ⟨ret_int1 (by omega), rfl⟩

set_option maxHeartbeats 400000 in
theorem levelOf_any (x : Int) (h : 3 ≤ x) (h37 : x ≤ 37) (w : World) : Calls Try.prog 31 #[.int .i64 x] w fun e w' => e = .returned (.int .i64 ((x - 3) / 5 + 1)) ∧ w' = w := by
  have ht : Int.tdiv (x - 3) 5 = (x - 3) / 5 := Int.tdiv_eq_ediv_of_nonneg (by omega)
  go_enter Try.func31, Try.ntmps31
  go_wp2
  go_ret
  exact ⟨ret_int1 (by omega), rfl⟩

set_option maxRecDepth 100000 in
set_option maxHeartbeats 2000000 in
theorem isOf_call (p q : Nat) (a : Option Addr) (n c : Nat) (zs : List Int) (s : AS) (hb3 : 3 ≤ s.bid) (hb37 : s.bid ≤ 37) (i : Nat) (hi : i < n) (hz : 0 ≤ zs.getD i 0 ∧ zs.getD i 0 ≤ 37) (w : World) (h : Rd w a n c zs)
    (hp : w.cell? ⟨p, 0, none⟩ = some (.slice a n c)) (hq : Au w q s) :
    Calls Try.prog 47 #[.int .i64 i, .pointer (some ⟨p, 0, none⟩), .pointer (some ⟨q, 0, none⟩)] w fun e w' => ∃ B : Bool, (B = true ↔ isOf zs s.bid s.bidder i) ∧ e = .returned (.bool B) ∧ ∃ k, w' = w.drewN k := by
  have hcm := h.max
  have hcn := h.cap
  unfold maxLen at hcm
  obtain ⟨q0, q1, q2, q3⟩ := hq.cells
  obtain ⟨bid, bidder, dbl, pas⟩ := s
  simp only at q0 q1 q2 q3 hb3 hb37 ⊢
  obtain ⟨b, off, rfl, hc⟩ := h.cells (by omega)
  have r1 := hc i hi
  clear hc h hq q2 q3
  unfold isOf
  obtain ⟨z, hzz⟩ : ∃ z, zs.getD i 0 = z := ⟨_, rfl⟩
  rw [hzz] at hz r1 ⊢
  have hi' : (i : Int) < (n : Int) := by omega
  have hi0 : ¬ (i : Int) < 0 := by omega
  by_cases h3 : 3 ≤ z
  · have d3 : decide ((3 : Int) ≤ z) = true := by simp; omega
    have S1 := hide (strainOf_any z h3 hz.2)
    have S2 := hide (strainOf_any (bid : Int) (by omega) (by omega))
    have HX := hide hb3
    by_cases hst : (z - 3) % 5 = ((bid : Int) - 3) % 5
    · obtain ⟨x, hx⟩ : ∃ x, (z - 3) % 5 = x := ⟨_, rfl⟩
      rw [← hst] at S2
      rw [hx] at S1 S2
      have bst : (x == x) = true := by simp
      have tx : Int.tmod (i : Int) 2 = ((i % 2 : Nat) : Int) := tmod2 i
      have ty : Int.tmod (bidder : Int) 2 = ((bidder % 2 : Nat) : Int) := tmod2 bidder
      have HST := hide hst
      have HH3 := hide h3
      clear hzz hx hst
      by_cases hpar : i % 2 = bidder % 2
      · have bp : (((i % 2 : Nat) : Int) == ((bidder % 2 : Nat) : Int)) = true := by simp; omega
        have HP := hide hpar
        clear hpar
        go_enter Try.func47, Try.ntmps47
        go_wp2_with fail
        go_quiet (first
          | (go_at_call 32; exact (S1.out _).mono (fun _ _ ⟨he, hw⟩ => ⟨he, _, hw⟩))
          | (go_at_call 32; exact (S2.out _).mono (fun _ _ ⟨he, hw⟩ => ⟨he, _, hw⟩)))
        go_wp2
        go_ret
        exact ⟨true, by simp [HH3.out, HST.out, HP.out], by simp; have := HP.out; omega, _, rfl⟩
      · have bp : (((i % 2 : Nat) : Int) == ((bidder % 2 : Nat) : Int)) = false := by simp; omega
        have HP := hide hpar
        clear hpar
        go_enter Try.func47, Try.ntmps47
        go_wp2_with fail
        go_quiet (first
          | (go_at_call 32; exact (S1.out _).mono (fun _ _ ⟨he, hw⟩ => ⟨he, _, hw⟩))
          | (go_at_call 32; exact (S2.out _).mono (fun _ _ ⟨he, hw⟩ => ⟨he, _, hw⟩)))
        go_wp2
        go_ret
        exact ⟨false, by simp [HP.out], by simp; have := HP.out; omega, _, rfl⟩
    · obtain ⟨x, hx⟩ : ∃ x, (z - 3) % 5 = x := ⟨_, rfl⟩
      obtain ⟨y, hy⟩ : ∃ y, ((bid : Int) - 3) % 5 = y := ⟨_, rfl⟩
      rw [hx, hy] at hst ⊢
      rw [hx] at S1
      rw [hy] at S2
      have bst : (x == y) = false := by simpa using hst
      have HST := hide hst
      clear hzz hx hy hst
      go_enter Try.func47, Try.ntmps47
      go_wp2_with fail
      go_quiet (first
        | (go_at_call 32; exact (S1.out _).mono (fun _ _ ⟨he, hw⟩ => ⟨he, _, hw⟩))
        | (go_at_call 32; exact (S2.out _).mono (fun _ _ ⟨he, hw⟩ => ⟨he, _, hw⟩)))
      go_wp2
      go_ret
      exact ⟨false, by simp [HST.out], by simp, _, rfl⟩
  · have d3 : decide ((3 : Int) ≤ z) = false := by simp; omega
    have HH3 : Hid (z < 3) := hide (by omega)
    clear h3 hzz
    go_enter Try.func47, Try.ntmps47
    go_wp2_with fail
    go_quiet (fail)
    go_wp2
    go_ret
    exact ⟨false, ⟨fun hh => by simp at hh, fun hh => absurd hh.1 (by have := HH3.out; omega)⟩, rfl, _, rfl⟩

set_option maxRecDepth 100000 in
set_option maxHeartbeats 2000000 in
theorem declarer_any (a : Option Addr) (n c : Nat) (zs : List Int) (s : AS) (I : AInv zs n s) (hb : s.bid ≠ 0) (w : World) (h : Rd w a n c zs) :
    Calls Try.prog 33 #[.slice a n c, .agg #[.int .i64 s.bid, .int .i64 s.bidder, .int .i64 s.dbl, .int .i64 s.pas]] w fun e w' => ∃ i, IsFirst zs s.bid s.bidder i ∧ e = .returned (.int .i64 (i % 4 : Nat)) ∧ Below w.heap.size w w' := by
  have hcm := h.max
  have hcn := h.cap
  have hlen := h.len
  unfold maxLen at hcm
  obtain ⟨g1, g2, g3, p, g4, g5, g6, g7, g8, g9, g10, _⟩ := I.some hb
  have hip : isOf zs s.bid s.bidder p := ⟨by rw [g5]; omega, by rw [g5], by rw [g6]; omega⟩
  have hpn : p < n := by omega
  have HL := hide hlen
  have HIP := hide hip
  have HRG := hide I.rng
  obtain ⟨w1, hw1⟩ : ∃ w1, (w.alloc (Obj.cells #[.slice a n c] 22)).alloc (Obj.cells #[.int .i64 s.bid, .int .i64 s.bidder, .int .i64 s.dbl, .int .i64 s.pas] 49) = w1 := ⟨_, rfl⟩
  have B1 : Below w.heap.size w w1 := by rw [← hw1]; exact ((Below.refl _ w).alloc (Nat.le_refl _) _).alloc (by simp [World.size_alloc]) _
  have P1 : w1.cell? ⟨w.heap.size, 0, none⟩ = some (.slice a n c) := by rw [← hw1]; go_simp
  have A1 : Au w1 (w.heap.size + 1) s := by
    rw [← hw1]
    have := Blk.new (w.alloc (Obj.cells #[.slice a n c] 22)) 49 [s.bid, s.bidder, s.dbl, s.pas] _ rfl
    rw [World.size_alloc] at this
    exact this
  have HB1 := hide B1
  have HP1 := hide P1
  have HA1 := hide A1
  have HH := hide h
  have IO := hide (fun (i : Nat) (hi : i < n) (q : Nat) => isOf_call w.heap.size (w.heap.size + 1) a n c zs s g2 g3 i hi (I.rng i hi) (w1.drewN q) ((h.mono B1).mono (drewN_below _ _ _)) P1 A1)
  clear h I g1 g4 g5 g6 g7 g8 g9 g10 hip hlen B1 P1 A1 hb
  go_enter Try.func33, Try.ntmps33
  go_wp2
  clear hw1
  go_loopw [6] (fun v wr => ∃ (i q : Nat), v = .int .i64 i ∧ i ≤ p ∧ wr = w1.drewN q ∧ Hid (∀ j, j < i → ¬ isOf zs s.bid s.bidder j)) (fun v _ => p - (intOf v).toNat)
  case atStart => exact ⟨0, 0, rfl, by omega, rfl, fun j hj => by omega⟩
  case round =>
    obtain ⟨i, q, rfl, hi, rfl, hno⟩ := hrel
    have IC := hide (IO.out i (by omega) q)
    go_wp2_with fail
    refine IC.out.mono ?_
    rintro e w2 ⟨B, hB, rfl, k, hw2⟩
    subst hw2
    rw [World.drewN_drewN]
    cases B with
    | true =>
      have HF := hide (IsFirst.mk (by have := HL.out; omega) (hB.1 rfl) hno.out)
      have tx : Int.tmod (i : Int) 4 = ((i % 4 : Nat) : Int) := by rw [Int.tmod_eq_emod_of_nonneg (by omega)]; omega
      clear hB IC
      go_wp2
      go_ret
      exact ⟨i, HF.out, ret_int1 (by omega), HB1.out.trans (drewN_below _ _ _)⟩
    | false =>
      have hne : i ≠ p := by
        intro e
        subst e
        exact absurd (hB.2 HIP.out) (by simp)
      have HN : Hid (∀ j, j < i + 1 → ¬ isOf zs s.bid s.bidder j) := hide (fun j hj => by
        by_cases e : j = i
        · subst e; intro hh; exact absurd (hB.2 hh) (by simp)
        · exact hno.out j (by omega))
      clear hB IC
      go_wp2
      go_roundw
      case rel => exact ⟨i + 1, _, by go_num, by omega, rfl, HN⟩
      case measure => simp [intOf]; omega

end Go.Proofs.Ytiihnlpoagnkhaa
