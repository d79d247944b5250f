/-
  What crib.fifteens answers. No conditions beyond those that each theorem bears.
-/
import Derived.Test.YtneafmjbekafmaaCardP
namespace Go.Proofs.Ytneafmjbekafmaa
open Go.RowKit Go.Shelf

theorem bits_small : ∀ q, q < 32 → (bits BinOp.and IntKind.i64 ((q : Nat) : Int) 1 == 1) = decide (q % 2 = 1) := by decide +kernel

/-- Is a place in a set? -/
theorem bit_test (A i : Nat) (hA : A < 32) : (bits BinOp.and IntKind.i64 ((A : Int) / 2 ^ i) 1 == 1) = decide (A / 2 ^ i % 2 = 1) := by
  have h1 : ((A : Int) / 2 ^ i) = ((A / 2 ^ i : Nat) : Int) := by
    rw [Int.natCast_ediv, Int.natCast_pow]; rfl
  rw [h1]
  exact bits_small _ (Nat.lt_of_le_of_lt (Nat.div_le_self _ _) hA)

theorem sumTo_yes (ps : List Nat) (A i : Nat) (h : A / 2 ^ i % 2 = 1) : sumTo ps A (i + 1) = sumTo ps A i + ps.getD i 0 := by rw [sumTo, if_pos h]
theorem sumTo_no (ps : List Nat) (A i : Nat) (h : ¬ A / 2 ^ i % 2 = 1) : sumTo ps A (i + 1) = sumTo ps A i := by rw [sumTo, if_neg h]
theorem fifTo_yes (ps : List Nat) (A : Nat) (h : sumTo ps A 5 = 15) : fifTo ps (A + 1) = fifTo ps A + 2 := by rw [fifTo, if_pos h]
theorem fifTo_no (ps : List Nat) (A : Nat) (h : ¬ sumTo ps A 5 = 15) : fifTo ps (A + 1) = fifTo ps A := by rw [fifTo, if_neg h]

theorem map_getD (L : List Nat) (i : Nat) (h : i < L.length) : (L.map ptC).getD i 0 = ptC (L.getD i 0) := by
  simp [List.getD, h]

theorem mem_getD (L : List Nat) (i : Nat) (h : i < L.length) : L.getD i 0 ∈ L := by
  simp [List.getD, h]

theorem pts_le (L : List Nat) : ∀ i, (L.map ptC).getD i 0 ≤ 10 := by
  intro i
  by_cases hi : i < L.length
  · rw [map_getD L i hi]; exact (ptC_bd _).2
  · simp only [List.getD, List.getElem?_map, List.getElem?_eq_none (Nat.le_of_not_lt hi)]; simp

set_option maxHeartbeats 1000000 in
theorem fifteens_any (a : Option Addr) (c : Nat) (L : List Nat) (h5 : L.length = 5) (hlt : ∀ x ∈ L, x < 52) (w : World) (h : Rd w a 5 c (toI L)) :
    Calls Try.prog 43 #[.slice a 5 c] w fun e w' => e = .returned (.int .i64 (fifN L)) ∧ w' = w := by
  have hcm := h.max
  have hcn := h.cap
  unfold maxLen at hcm
  obtain ⟨b, off, rfl, hc⟩ := h.cells (by omega)
  have HC := hide hc
  clear hc h
  obtain ⟨ps, hps⟩ : ∃ ps, L.map ptC = ps := ⟨_, rfl⟩
  have hb10 : ∀ i, ps.getD i 0 ≤ 10 := by rw [← hps]; exact pts_le L
  have HP := hide hps
  have HB := hide hb10
  clear hps hb10
  go_enter Try.func43, Try.ntmps43
  go_wp2
  go_loop [3, 11] (fun s v => ∃ A : Nat, A ≤ 32 ∧ v = .int .i64 A ∧ s = .int .i64 (fifTo ps A)) (fun _ v => 32 - (intOf v).toNat)
  case atStart => exact ⟨0, by omega, rfl, rfl⟩
  case round =>
    obtain ⟨A, hA, rfl, rfl⟩ := hrel
    have hf := fifTo_le ps A
    by_cases hA32 : A < 32
    · have hlt' : (A : Int) < 32 := by omega
      go_wp2
      go_loop [5, 16] (fun s v => ∃ i : Nat, i ≤ 5 ∧ v = .int .i64 i ∧ s = .int .i64 (sumTo ps A i)) (fun _ v => 5 - (intOf v).toNat)
      case atStart => exact ⟨0, by omega, rfl, rfl⟩
      case round =>
        obtain ⟨i, hi, rfl, rfl⟩ := hrel
        have hs := sumTo_le ps A HB.out i
        by_cases hi5 : i < 5
        · have hi' : (i : Int) < 5 := by omega
          have r1 := HC.out i hi5
          rw [toI_getD] at r1
          obtain ⟨x, hx⟩ : ∃ x, L.getD i 0 = x := ⟨_, rfl⟩
          rw [hx] at r1
          have hm := hlt x (by rw [← hx]; exact mem_getD L i (by omega))
          have hpx : ps.getD i 0 = ptC x := by rw [← HP.out, map_getD L i (by omega), hx]
          have hp10 := (ptC_bd x).2
          have hbt := bit_test A i hA32
          have PT := hide (points_any x hm)
          clear hx
          by_cases hbit : A / 2 ^ i % 2 = 1
          · have HS := hide (sumTo_yes ps A i hbit)
            rw [hpx] at HS
            rw [decide_eq_true hbit] at hbt
            obtain ⟨y, hy⟩ : ∃ y, ptC x = y := ⟨_, rfl⟩
            rw [hy] at HS PT hp10
            clear hpx hbit hy
            go_wp2_with fail
            refine (PT.out _).mono ?_
            rintro e w1 ⟨rfl, hw⟩
            subst w1
            go_wp2
            go_round
            case rel => exact ⟨i + 1, by omega, by go_num, by rw [HS.out]; go_num⟩
            case measure => simp [intOf]; omega
          · have HS := hide (sumTo_no ps A i hbit)
            rw [decide_eq_false hbit] at hbt
            clear hpx hbit PT
            go_wp2
            go_round
            case rel => exact ⟨i + 1, by omega, by go_num, by rw [HS.out]⟩
            case measure => simp [intOf]; omega
        · obtain rfl : i = 5 := by omega
          rw [show (((5 : Nat)) : Int) = (5 : Int) from rfl]
          by_cases h15 : sumTo ps A 5 = 15
          · have HF := hide (fifTo_yes ps A h15)
            have hb : ((sumTo ps A 5 : Nat) : Int) = 15 := by omega
            clear h15
            go_wp2
            go_round
            case rel => exact ⟨A + 1, by omega, by go_num, by rw [HF.out]; go_num⟩
            case measure => simp [intOf]; omega
          · have HF := hide (fifTo_no ps A h15)
            have hb : (((sumTo ps A 5 : Nat) : Int) == 15) = false := by simp; omega
            clear h15
            go_wp2
            go_round
            case rel => exact ⟨A + 1, by omega, by go_num, by rw [HF.out]⟩
            case measure => simp [intOf]; omega
    · obtain rfl : A = 32 := by omega
      rw [show (((32 : Nat)) : Int) = (32 : Int) from rfl]
      go_wp2
      go_ret
      exact ⟨ret_intN (by rw [fifN, HP.out]), rfl⟩

end Go.Proofs.Ytneafmjbekafmaa
