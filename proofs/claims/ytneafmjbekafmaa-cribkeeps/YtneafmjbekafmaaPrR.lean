/-
  What crib.pairs and crib.rows answer. No conditions beyond those that each theorem bears.
-/
import Derived.Test.YtneafmjbekafmaaTms
import Derived.Test.YtneafmjbekafmaaCribMath
namespace Go.Proofs.Ytneafmjbekafmaa
open Go.RowKit Go.Shelf

theorem idx57 (T : List Nat) (hl : T.length = 13) (k : Nat) (hk : k < 13) (w : World) :
    (Instr.index 58 (.agg (ivs T).toArray) (.int .i64 k)).run Try.prog w = .ok (.int .i64 (T.getD k 0 : Nat)) w := by
  have h2 : (ivs T).length = 13 := by rw [ivs_length, hl]
  simp [Instr.index, run_underlying Try.underlying58, asIntOf, part, go_sem, hk, h2]
  simp [ivs, toI, hl, hk]

theorem prsTo_le (T : List Nat) (h5 : ∀ r, T.getD r 0 ≤ 5) (k : Nat) : prsTo T k ≤ 25 * k := by
  induction k with
  | zero => simp [prsTo]
  | succ k ih =>
    have := h5 k
    have h2 : T.getD k 0 * (T.getD k 0 - 1) ≤ 5 * 5 := Nat.mul_le_mul this (by omega)
    rw [prsTo]; omega

set_option maxHeartbeats 1000000 in
theorem pairs_any (T : List Nat) (hl : T.length = 13) (h5 : ∀ r, T.getD r 0 ≤ 5) (w : World) :
    Calls Try.prog 44 #[arrT T] w fun e w' => e = .returned (.int .i64 (prsL T)) ∧ Below w.heap.size w w' := by
  unfold arrT
  have HL := hide hl
  have KB := hide (Blk.new w 58 T (ivs T).toArray rfl)
  go_enter Try.func44, Try.ntmps44
  go_wp2_with (refine wpList_load_mid rfl 58 _ rfl w.heap.size 0 rfl (ivs T) _ KB.out.range Try.underlying58 rfl (by rw [ivs_length, HL.out]; exact size57) ?_)
  go_loop [3, 7] (fun s v => ∃ k : Nat, k ≤ 13 ∧ v = .int .i64 k ∧ s = .int .i64 (prsTo T k)) (fun _ v => 13 - (intOf v).toNat)
  case atStart => exact ⟨0, by omega, rfl, rfl⟩
  case round =>
    obtain ⟨k, hk, rfl, rfl⟩ := hrel
    have hp := prsTo_le T h5 k
    by_cases hlt : k < 13
    · have hlt' : (k : Int) < 13 := by omega
      have hidx := idx57 T HL.out k hlt
      have hps : Hid (prsTo T (k + 1) = prsTo T k + T.getD k 0 * (T.getD k 0 - 1)) := rfl
      have h5k := h5 k
      obtain ⟨m, hm⟩ : ∃ m, T.getD k 0 = m := ⟨_, rfl⟩
      rw [hm] at hidx hps h5k
      have hmm : m * (m - 1) ≤ 5 * 5 := Nat.mul_le_mul h5k (by omega)
      have PP := hide (pairPoints_any m (by omega))
      obtain ⟨q, hq⟩ : ∃ q, m * (m - 1) = q := ⟨_, rfl⟩
      rw [hq] at hps hmm PP
      clear hm hq
      go_wp2_with fail
      refine (PP.out _).mono ?_
      rintro e w1 ⟨rfl, hw⟩
      subst w1
      go_wp2
      go_round
      case rel => exact ⟨k + 1, by omega, by go_num, by rw [hps.out]; go_num⟩
      case measure => simp [intOf]; omega
    · obtain rfl : k = 13 := by omega
      rw [show (((13 : Nat)) : Int) = (13 : Int) from rfl]
      go_wp2
      go_ret
      refine ⟨ret_intN (by rw [← prsTo_all T, HL.out]), (Below.refl _ w).alloc (Nat.le_refl _) _⟩

/-- What stays the same from rank to rank. -/
def RowInv (T : List Nat) (k s len ways : Nat) : Prop := s + rowsF (T.drop k) len ways = rowsF T 0 1

theorem drop_cons (T : List Nat) (k : Nat) (h : k < T.length) : T.drop k = T.getD k 0 :: T.drop (k + 1) := by
  rw [List.drop_eq_getElem_cons h]
  simp [List.getD, h]

theorem rowInv_zero {T : List Nat} {k s len ways : Nat} (h : RowInv T k s len ways) (hk : k < T.length) (h0 : T.getD k 0 = 0) :
    RowInv T (k + 1) (s + if 3 ≤ len then len * ways else 0) 0 1 := by
  unfold RowInv at *
  rw [drop_cons T k hk, h0, rowsF] at h
  omega

theorem rowInv_succ {T : List Nat} {k s len ways t : Nat} (h : RowInv T k s len ways) (hk : k < T.length) (h0 : T.getD k 0 = t + 1) :
    RowInv T (k + 1) s (len + 1) (ways * (t + 1)) := by
  unfold RowInv at *
  rw [drop_cons T k hk, h0, rowsF] at h
  omega

theorem rowInv_last {T : List Nat} {s len ways : Nat} (h : RowInv T T.length s len ways) : s + (if 3 ≤ len then len * ways else 0) = rowsF T 0 1 := by
  unfold RowInv at h
  rw [List.drop_length, rowsF] at h
  exact h

theorem rowInv_close {T : List Nat} {s : Nat} (h : s = rowsF T 0 1) (hl : T.length = 13) : RowInv T 13 s 0 1 := by
  unfold RowInv
  rw [← hl, List.drop_length, rowsF]
  simpa using h

theorem pow5 (k : Nat) (hk : k ≤ 13) : 5 ^ k ≤ 1220703125 := by
  have : 5 ^ k ≤ 5 ^ 13 := Nat.pow_le_pow_right (by omega) hk
  simpa using this

theorem s_step {s k q : Nat} (h : s ≤ k * 15869140625) (hq : q ≤ 13 * 1220703125) : s + q ≤ (k + 1) * 15869140625 := by
  rw [Nat.succ_mul]; exact Nat.add_le_add h (Nat.le_trans hq (by decide))
theorem s_step0 {s k : Nat} (h : s ≤ k * 15869140625) : s ≤ (k + 1) * 15869140625 := by
  rw [Nat.succ_mul]; exact Nat.le_add_right_of_le h

set_option maxHeartbeats 2000000 in
theorem rows_any (T : List Nat) (hl : T.length = 13) (h5 : ∀ r, T.getD r 0 ≤ 5) (w : World) :
    Calls Try.prog 45 #[arrT T] w fun e w' => e = .returned (.int .i64 (rowsF T 0 1)) ∧ rowsF T 0 1 ≤ 206298828125 ∧ Below w.heap.size w w' := by
  unfold arrT
  have HL := hide hl
  have KB := hide (Blk.new w 58 T (ivs T).toArray rfl)
  go_enter Try.func45, Try.ntmps45
  go_wp2
  go_loop [3, 4, 5, 7] (fun s3 s4 s5 v => ∃ k s len ways : Nat, k ≤ 13 ∧ v = .int .i64 k ∧ s3 = .int .i64 s ∧ s4 = .int .i64 len ∧ s5 = .int .i64 ways ∧ len ≤ k ∧ Hid (k = 13 → len = 0) ∧ Hid (ways ≤ 5 ^ k) ∧ Hid (s ≤ k * 15869140625) ∧ Hid (RowInv T k s len ways)) (fun _ _ _ v => 13 - (intOf v).toNat)
  case atStart => exact ⟨0, 0, 0, 1, by omega, rfl, rfl, rfl, rfl, by omega, by simp [Hid], by simp [Hid], by simp [Hid], by simp [Hid, RowInv]⟩
  case round =>
    obtain ⟨k, s, len, ways, hk, rfl, rfl, rfl, rfl, hlen, hlast, hways, hs, hinv⟩ := hrel
    have hs' := hs.out
    have hw' := Nat.le_trans hways.out (pow5 k hk)
    have hlw : len * ways ≤ 13 * 1220703125 := Nat.mul_le_mul (by omega) hw'
    by_cases hlt : k < 13
    · have hlt' : (k : Int) < 13 := by omega
      have c1 := KB.out.cell (i := k) (by rw [HL.out]; exact hlt)
      have h5k := h5 k
      obtain ⟨m, hm⟩ : ∃ m, T.getD k 0 = m := ⟨_, rfl⟩
      rw [hm] at c1 h5k
      have HM := hide hm
      clear hm
      cases m with
      | zero =>
        have HI := hide (rowInv_zero hinv.out (by rw [HL.out]; exact hlt) HM.out)
        by_cases h3 : 3 ≤ len
        · rw [if_pos h3] at HI
          obtain ⟨q, hq⟩ : ∃ q, len * ways = q := ⟨_, rfl⟩
          have hmul : (len : Int) * (ways : Int) = (q : Int) := by rw [← hq]; simp
          rw [hq] at HI hlw
          have h3' : (3 : Int) ≤ (len : Int) := by omega
          clear hq h3
          go_wp2
          go_round
          case rel => exact ⟨k + 1, s + q, 0, 1, by omega, by go_num, by go_num, rfl, rfl, by omega, fun _ => rfl, Nat.pow_pos (by omega), (s_step hs.out hlw), HI.out⟩
          case measure => simp [intOf]; omega
        · rw [if_neg h3, Nat.add_zero] at HI
          have h3' : ¬ (3 : Int) ≤ (len : Int) := by omega
          clear h3
          go_wp2
          go_round
          case rel => exact ⟨k + 1, s, 0, 1, by omega, by go_num, rfl, rfl, rfl, by omega, fun _ => rfl, Nat.pow_pos (by omega), (s_step0 hs.out), HI.out⟩
          case measure => simp [intOf]; omega
      | succ t =>
        have HI := hide (rowInv_succ hinv.out (by rw [HL.out]; exact hlt) HM.out)
        have hwm : ways * (t + 1) ≤ 5 ^ (k + 1) := by
          rw [Nat.pow_succ]; exact Nat.mul_le_mul hways.out h5k
        have hwm' := Nat.le_trans hwm (pow5 (k + 1) (by omega))
        have HW := hide hwm
        have hpos : (0 : Int) < ((t + 1 : Nat) : Int) := by omega
        obtain ⟨m, hm⟩ : ∃ m, t + 1 = m := ⟨_, rfl⟩
        rw [hm] at HI hwm' HW hpos c1 h5k
        obtain ⟨q, hq⟩ : ∃ q, ways * m = q := ⟨_, rfl⟩
        have hmul : (ways : Int) * (m : Int) = (q : Int) := by rw [← hq]; simp
        rw [hq] at HI hwm' HW
        have hm0 : ((m : Int) == 0) = false := by simp; omega
        clear hwm hq hm HM
        by_cases h12 : k = 12
        · subst h12
          have HI2 := hide (rowInv_last (T := T) (s := s) (len := len + 1) (ways := q) (by rw [HL.out]; exact HI.out))
          rw [show (((12 : Nat)) : Int) = (12 : Int) from rfl] at *
          have hlq : (len + 1) * q ≤ 13 * 1220703125 := Nat.mul_le_mul (by omega) hwm'
          by_cases h3 : 3 ≤ len + 1
          · rw [if_pos h3] at HI2
            obtain ⟨r, hr⟩ : ∃ r, (len + 1) * q = r := ⟨_, rfl⟩
            have hmul2 : ((len : Int) + 1) * (q : Int) = (r : Int) := by rw [← hr]; simp
            rw [hr] at HI2 hlq
            have h3' : (3 : Int) ≤ (len : Int) + 1 := by omega
            clear hr h3
            go_wp2
            go_round
            case rel => exact ⟨13, s + r, 0, 1, by omega, rfl, by go_num, rfl, rfl, by omega, fun _ => rfl, by simp [Hid], (s_step hs.out hlq), rowInv_close HI2.out HL.out⟩
            case measure => simp [intOf]
          · rw [if_neg h3, Nat.add_zero] at HI2
            have h3' : ¬ (3 : Int) ≤ (len : Int) + 1 := by omega
            clear h3
            go_wp2
            go_round
            case rel => exact ⟨13, s, 0, 1, by omega, rfl, rfl, rfl, rfl, by omega, fun _ => rfl, by simp [Hid], (s_step0 hs.out), rowInv_close HI2.out HL.out⟩
            case measure => simp [intOf]
        · have hk12 : ((k : Int) == 12) = false := by simp; omega
          go_wp2
          go_round
          case rel => exact ⟨k + 1, s, len + 1, q, by omega, by go_num, rfl, by go_num, rfl, by omega, fun h => by omega, HW, (s_step0 hs.out), HI⟩
          case measure => simp [intOf]; omega
    · obtain rfl : k = 13 := by omega
      rw [show (((13 : Nat)) : Int) = (13 : Int) from rfl]
      have hfin : Hid (s = rowsF T 0 1) := by
        have h1 := hinv.out
        have h2 := hlast.out rfl
        unfold RowInv at h1
        have h3 : T.drop 13 = [] := by rw [← HL.out, List.drop_length]
        rw [h3, h2] at h1
        show _ = _
        simpa [rowsF] using h1
      go_wp2
      go_ret
      exact ⟨ret_intN (by rw [hfin.out]), by rw [← hfin.out]; exact hs.out, (Below.refl _ w).alloc (Nat.le_refl _) _⟩

end Go.Proofs.Ytneafmjbekafmaa
