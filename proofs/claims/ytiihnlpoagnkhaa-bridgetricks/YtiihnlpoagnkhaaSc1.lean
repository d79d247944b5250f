/-
  What the small functions of bridge's scores answer. No conditions beyond those that each theorem bears.
-/
import Derived.Test.YtiihnlpoagnkhaaBase
namespace Go.Proofs.Ytiihnlpoagnkhaa
open Go.RowKit

set_option maxHeartbeats 400000 in
theorem isStrain_any (s : Int) (w : World) : Calls Try.prog 21 #[.int .i64 s] w fun e w' => e = .returned (.bool (decide (0 ≤ s ∧ s < 5))) ∧ w' = w := by
  generalize hB : decide (0 ≤ s ∧ s < 5) = B
  by_cases h0 : 0 ≤ s
  · by_cases h5 : s < 5
    · have d0 : decide (0 ≤ s) = true := by simp; omega
      obtain rfl : B = true := by rw [← hB]; simp; omega
      clear hB
      go_enter Try.func21, Try.ntmps21
      go_wp2
      go_ret
      exact ⟨rfl, rfl⟩
    · have d0 : decide (0 ≤ s) = true := by simp; omega
      obtain rfl : B = false := by rw [← hB]; simp; omega
      clear hB
      go_enter Try.func21, Try.ntmps21
      go_wp2
      go_ret
      exact ⟨rfl, rfl⟩
  · have d0 : decide (0 ≤ s) = false := by simp; omega
    obtain rfl : B = false := by rw [← hB]; simp; omega
    clear hB
    go_enter Try.func21, Try.ntmps21
    go_wp2
    go_ret
    exact ⟨rfl, rfl⟩

def eiN (v : Bool) (x y : Nat) : Nat := if v then x else y

set_option maxHeartbeats 400000 in
theorem either_any (v : Bool) (x y : Nat) (w : World) : Calls Try.prog 48 #[.bool v, .int .i64 x, .int .i64 y] w fun e w' => e = .returned (.int .i64 (eiN v x y : Nat)) ∧ w' = w := by
  cases v
  · go_enter Try.func48, Try.ntmps48
    go_wp2
    go_ret
    exact ⟨rfl, rfl⟩
  · go_enter Try.func48, Try.ntmps48
    go_wp2
    go_ret
    exact ⟨rfl, rfl⟩

theorem eiN_le (v : Bool) (x y m : Nat) (hx : x ≤ m) (hy : y ≤ m) : eiN v x y ≤ m := by cases v <;> simp [eiN, hx, hy]

def lossN (i : Nat) (v : Bool) : Nat := if i = 0 then eiN v 200 100 else if i ≤ 2 then eiN v 300 200 else 300

theorem lossN_le (i : Nat) (v : Bool) : lossN i v ≤ 300 := by
  unfold lossN eiN; split <;> (try split) <;> (try split) <;> omega

set_option maxHeartbeats 400000 in
theorem loss_any (i : Nat) (v : Bool) (w : World) : Calls Try.prog 49 #[.int .i64 i, .bool v] w fun e w' => e = .returned (.int .i64 (lossN i v : Nat)) ∧ w' = w := by
  by_cases h0 : i = 0
  · subst h0
    have HF : Hid (lossN 0 v = eiN v 200 100) := hide rfl
    have EI := hide (either_any v 200 100)
    go_enter Try.func49, Try.ntmps49
    go_wp2_with fail
    refine (EI.out _).mono ?_
    rintro e w1 ⟨rfl, hw⟩
    subst w1
    go_wp2
    go_ret
    exact ⟨by rw [HF.out]; rfl, rfl⟩
  · have b0 : ((i : Int) == 0) = false := by simp; omega
    by_cases h2 : i ≤ 2
    · have HF : Hid (lossN i v = eiN v 300 200) := hide (by rw [lossN, if_neg h0, if_pos h2])
      have h2' : (i : Int) ≤ 2 := by omega
      have EI := hide (either_any v 300 200)
      go_enter Try.func49, Try.ntmps49
      go_wp2_with fail
      refine (EI.out _).mono ?_
      rintro e w1 ⟨rfl, hw⟩
      subst w1
      go_wp2
      go_ret
      exact ⟨by rw [HF.out]; rfl, rfl⟩
    · have HF : Hid (lossN i v = 300) := hide (by rw [lossN, if_neg h0, if_neg h2])
      have h2' : ¬ (i : Int) ≤ 2 := by omega
      go_enter Try.func49, Try.ntmps49
      go_wp2
      go_ret
      exact ⟨by rw [HF.out]; rfl, rfl⟩

def trkN (s : Nat) : Nat := if s ≤ 1 then 20 else 30

set_option maxHeartbeats 400000 in
theorem trickOf_any (s : Nat) (w : World) : Calls Try.prog 50 #[.int .i64 s] w fun e w' => e = .returned (.int .i64 (trkN s : Nat)) ∧ w' = w := by
  by_cases h0 : s ≤ 1
  · have HF : Hid (trkN s = 20) := hide (by rw [trkN, if_pos h0])
    have h0' : (s : Int) ≤ 1 := by omega
    go_enter Try.func50, Try.ntmps50
    go_wp2
    go_ret
    exact ⟨by rw [HF.out]; rfl, rfl⟩
  · have HF : Hid (trkN s = 30) := hide (by rw [trkN, if_neg h0])
    have h0' : ¬ (s : Int) ≤ 1 := by omega
    go_enter Try.func50, Try.ntmps50
    go_wp2
    go_ret
    exact ⟨by rw [HF.out]; rfl, rfl⟩

set_option maxHeartbeats 400000 in
theorem within_any (x a b : Int) (w : World) : Calls Try.prog 26 #[.int .i64 x, .int .i64 a, .int .i64 b] w fun e w' => e = .returned (.bool (decide (a ≤ x ∧ x ≤ b))) ∧ w' = w := by
  generalize hB : decide (a ≤ x ∧ x ≤ b) = B
  by_cases h0 : a ≤ x
  · by_cases h5 : x ≤ b
    · have d0 : decide (a ≤ x) = true := by simp; omega
      obtain rfl : B = true := by rw [← hB]; simp; omega
      clear hB
      go_enter Try.func26, Try.ntmps26
      go_wp2
      go_ret
      exact ⟨rfl, rfl⟩
    · have d0 : decide (a ≤ x) = true := by simp; omega
      obtain rfl : B = false := by rw [← hB]; simp; omega
      clear hB
      go_enter Try.func26, Try.ntmps26
      go_wp2
      go_ret
      exact ⟨rfl, rfl⟩
  · have d0 : decide (a ≤ x) = false := by simp; omega
    obtain rfl : B = false := by rw [← hB]; simp; omega
    clear hB
    go_enter Try.func26, Try.ntmps26
    go_wp2
    go_ret
    exact ⟨rfl, rfl⟩

/-- What so many tricks too few cost. -/
def lossSum (v : Bool) : Nat → Nat
  | 0 => 0
  | k + 1 => lossSum v k + lossN k v
def failN (few d : Nat) (v : Bool) : Nat := if d = 0 then few * eiN v 100 50 else lossSum v few * d

theorem lossSum_le (v : Bool) (k : Nat) : lossSum v k ≤ 300 * k := by
  induction k with
  | zero => simp [lossSum]
  | succ k ih => have := lossN_le k v; simp only [lossSum]; omega

set_option maxHeartbeats 1000000 in
theorem failed_any (few d : Nat) (v : Bool) (hf : few ≤ 13) (hd : d ≤ 2) (w : World) : Calls Try.prog 37 #[.int .i64 few, .int .i64 d, .bool v] w fun e w' => e = .returned (.int .i64 (failN few d v : Nat)) ∧ w' = w := by
  by_cases h0 : d = 0
  · subst h0
    have HF : Hid (failN few 0 v = few * eiN v 100 50) := hide rfl
    have EI := hide (either_any v 100 50)
    have hE := eiN_le v 100 50 100 (by omega) (by omega)
    have hm : few * eiN v 100 50 ≤ 13 * 100 := Nat.mul_le_mul hf hE
    have hc : (few : Int) * (eiN v 100 50 : Nat) = ((few * eiN v 100 50 : Nat) : Int) := by push_cast; rfl
    generalize few * eiN v 100 50 = q at *
    generalize eiN v 100 50 = x at *
    go_enter Try.func37, Try.ntmps37
    go_wp2_with fail
    refine (EI.out _).mono ?_
    rintro e w1 ⟨rfl, hw⟩
    subst w1
    go_wp2
    go_ret
    exact ⟨by rw [HF.out]; go_num, rfl⟩
  · have b0 : ((d : Int) == 0) = false := by simp; omega
    have HF : Hid (failN few d v = lossSum v few * d) := hide (by rw [failN, if_neg h0])
    have LO := hide (fun k => loss_any k v)
    have hd1 : 1 ≤ d := by omega
    clear h0
    go_enter Try.func37, Try.ntmps37
    go_wp2
    go_loop [7, 16] (fun s i => ∃ k : Nat, k ≤ few ∧ i = .int .i64 k ∧ s = .int .i64 (lossSum v k : Nat)) (fun _ i => few - (intOf i).toNat)
    case atStart => exact ⟨0, by omega, rfl, rfl⟩
    case round =>
      obtain ⟨k, hk, rfl, rfl⟩ := hrel
      have hs := lossSum_le v k
      by_cases hlt : k < few
      · have hlt' : (k : Int) < (few : Int) := by omega
        have hS : Hid (lossSum v (k + 1) = lossSum v k + lossN k v) := rfl
        have hl := lossN_le k v
        have L := hide (LO.out k)
        generalize lossN k v = x at *
        go_wp2_with fail
        refine (L.out _).mono ?_
        rintro e w1 ⟨rfl, hw⟩
        subst w1
        go_wp2
        go_round
        case rel => exact ⟨k + 1, by omega, by go_num, by rw [hS.out]; go_num⟩
        case measure => simp [intOf]; omega
      · obtain rfl : k = few := by omega
        have hlt' : ¬ (k : Int) < (k : Int) := by omega
        have hm : lossSum v k * d ≤ 3900 * 2 := Nat.mul_le_mul (by omega) hd
        have hc : (lossSum v k : Int) * (d : Int) = ((lossSum v k * d : Nat) : Int) := by push_cast; rfl
        generalize lossSum v k * d = q at *
        generalize lossSum v k = x at *
        go_wp2
        go_ret
        exact ⟨by rw [HF.out]; go_num, rfl⟩

end Go.Proofs.Ytiihnlpoagnkhaa
