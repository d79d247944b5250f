/-
  Small functions of the program, of the document and of the laws. No conditions beyond those that each theorem bears.
-/
import Derived.Test.YtonmgbepkdlklaaKp
namespace Go.Proofs.Ytonmgbepkdlklaa
open Go.RowKit

def wnB (d : Int) : Bool := decide (d < 1 ∨ 10 < d)
def wsB (d : Int) : Bool := decide (d < 1 ∨ 20 < d)

set_option maxHeartbeats 400000 in
theorem wrongNumber_any (d : Int) (w : World) : Calls Try.prog 21 #[.int .i64 d] w fun e w' => e = .returned (.bool (wnB d)) ∧ w' = w := by
  by_cases h1 : d < 1
  · have HV : Hid (wnB d = true) := hide (by simp [wnB, h1])
    go_enter Try.func21, Try.ntmps21
    go_wp2
    go_ret
    exact ⟨ret_bool HV.out.symm, rfl⟩
  · have h1d : decide (d < 1) = false := by simpa using h1
    by_cases h2 : 10 < d
    · have HV : Hid (wnB d = true) := hide (by simp [wnB, h2])
      go_enter Try.func21, Try.ntmps21
      go_wp2
      go_ret
      exact ⟨ret_bool HV.out.symm, rfl⟩
    · have HV : Hid (wnB d = false) := hide (by simp [wnB]; omega)
      go_enter Try.func21, Try.ntmps21
      go_wp2
      go_ret
      exact ⟨ret_bool HV.out.symm, rfl⟩

set_option maxHeartbeats 400000 in
theorem wrongSides_any (d : Int) (w : World) : Calls Try.prog 23 #[.int .i64 d] w fun e w' => e = .returned (.bool (wsB d)) ∧ w' = w := by
  by_cases h1 : d < 1
  · have HV : Hid (wsB d = true) := hide (by simp [wsB, h1])
    go_enter Try.func23, Try.ntmps23
    go_wp2
    go_ret
    exact ⟨ret_bool HV.out.symm, rfl⟩
  · have h1d : decide (d < 1) = false := by simpa using h1
    by_cases h2 : 20 < d
    · have HV : Hid (wsB d = true) := hide (by simp [wsB, h2])
      go_enter Try.func23, Try.ntmps23
      go_wp2
      go_ret
      exact ⟨ret_bool HV.out.symm, rfl⟩
    · have HV : Hid (wsB d = false) := hide (by simp [wsB]; omega)
      go_enter Try.func23, Try.ntmps23
      go_wp2
      go_ret
      exact ⟨ret_bool HV.out.symm, rfl⟩

def inB (x lo hi : Int) : Bool := decide (lo ≤ x ∧ x ≤ hi)

set_option maxHeartbeats 400000 in
theorem within_any (x lo hi : Int) (w : World) : Calls Try.prog 28 #[.int .i64 x, .int .i64 lo, .int .i64 hi] w fun e w' => e = .returned (.bool (inB x lo hi)) ∧ w' = w := by
  by_cases h1 : lo ≤ x
  · by_cases h2 : x ≤ hi
    · have HV : Hid (inB x lo hi = true) := hide (by simp [inB, h1, h2])
      go_enter Try.func28, Try.ntmps28
      go_wp2
      go_ret
      exact ⟨ret_bool HV.out.symm, rfl⟩
    · have HV : Hid (inB x lo hi = false) := hide (by simp [inB, h2])
      go_enter Try.func28, Try.ntmps28
      go_wp2
      go_ret
      exact ⟨ret_bool HV.out.symm, rfl⟩
  · have HV : Hid (inB x lo hi = false) := hide (by simp [inB, h1])
    go_enter Try.func28, Try.ntmps28
    go_wp2
    go_ret
    exact ⟨ret_bool HV.out.symm, rfl⟩

/-- What is wrong with dice. -/
def mayE (zs : List Int) : Int := if zs.length < 1 ∨ 10 < zs.length then 2 else if zs.any wsB then 3 else 0

theorem ws_in (z : Int) : wsB z = !inB z 1 20 := by
  unfold wsB inB
  by_cases h : z < 1 ∨ 20 < z
  · rw [decide_eq_true h, decide_eq_false (by omega)]; rfl
  · rw [decide_eq_false h, decide_eq_true (by omega)]; rfl

set_option maxHeartbeats 1000000 in
theorem DiceMay_any (a : Option Addr) (n c : Nat) (zs : List Int) (w : World) (h : Rd w a n c zs) :
    Calls Try.prog 11 #[.slice a n c] w fun e w' => e = .returned (.int .i64 (mayE zs)) ∧ w' = w := by
  have hcm := h.max
  have hcn := h.cap
  unfold maxLen at hcm
  have HL := hide h.len
  have HH := hide h
  clear h
  by_cases hn : n < 1 ∨ 10 < n
  · have hb : inB (n : Int) 1 10 = false := by unfold inB; rw [decide_eq_false_iff_not]; omega
    have HV : Hid (mayE zs = 2) := hide (by unfold mayE; rw [HL.out, if_pos hn])
    go_enter Try.func11, Try.ntmps11
    go_wp2_with (go_at_call 28; refine (within_any _ _ _ _).mono ?_; rintro e w' ⟨rfl, rfl⟩)
    go_ret
    exact ⟨ret_int HV.out.symm, rfl⟩
  · have hb : inB (n : Int) 1 10 = true := by unfold inB; rw [decide_eq_true_iff]; omega
    go_enter Try.func11, Try.ntmps11
    go_wp2_with (go_at_call 28; refine (within_any _ _ _ _).mono ?_; rintro e w' ⟨rfl, rfl⟩)
    go_loop [3] (fun v => ∃ k : Nat, k ≤ n ∧ v = .int .i64 k ∧ Hid ((zs.take k).any wsB = false)) (fun v => n - (intOf v).toNat)
    case atStart => exact ⟨0, by omega, rfl, hide rfl⟩
    case round =>
      obtain ⟨k, hk, rfl, HK⟩ := hrel
      by_cases hlt : k < n
      · have hlt' : (k : Int) < (n : Int) := by omega
        obtain ⟨ba, oa, ha, hc⟩ := HH.out.cells (by omega)
        subst ha
        have r1 := hc k hlt
        obtain ⟨z, hz⟩ : ∃ z, zs.getD k 0 = z := ⟨_, rfl⟩
        rw [hz] at r1
        have HZ := hide hz
        have HS : Hid (zs.take (k + 1) = zs.take k ++ [z]) := hide (by
          have hk' : k < zs.length := by rw [HL.out]; exact hlt
          rw [List.take_succ_eq_append_getElem hk', ← hz]; simp [List.getD, hk'])
        clear hc hz
        cases hw : inB z 1 20 with
        | true =>
          have HN : Hid ((zs.take (k + 1)).any wsB = false) := hide (by rw [HS.out, List.any_append, HK.out]; simp [ws_in, hw])
          go_wp2_with (go_at_call 28; refine (within_any _ _ _ _).mono ?_; rintro e w' ⟨rfl, rfl⟩)
          go_round
          case rel => exact ⟨k + 1, by omega, by go_num, HN⟩
          case measure => simp [intOf]; omega
        | false =>
          have HV : Hid (mayE zs = 3) := hide (by
            unfold mayE
            rw [HL.out, if_neg hn, if_pos]
            rw [List.any_eq_true]
            refine ⟨z, ?_, by rw [ws_in, hw]; rfl⟩
            have hk' : k < zs.length := by rw [HL.out]; exact hlt
            rw [← HZ.out]
            simp [List.getD, hk'])
          go_wp2_with (go_at_call 28; refine (within_any _ _ _ _).mono ?_; rintro e w' ⟨rfl, rfl⟩)
          go_ret
          exact ⟨ret_int HV.out.symm, rfl⟩
      · have hlt' : ¬ (k : Int) < (n : Int) := by omega
        obtain rfl : k = n := by omega
        have HV : Hid (mayE zs = 0) := hide (by
          have h1 := HK.out
          rw [List.take_of_length_le (by rw [HL.out]; exact Nat.le_refl _)] at h1
          unfold mayE
          rw [HL.out, if_neg hn, h1]
          rfl)
        go_wp2
        go_ret
        exact ⟨ret_int HV.out.symm, rfl⟩

theorem pow_le_20 (s k : Nat) (hs : s ≤ 20) (hk : k ≤ 10) : s ^ k ≤ 10240000000000 := by
  refine Nat.le_trans (Nat.pow_le_pow_left hs k) ?_
  have : 20 ^ k ≤ 20 ^ 10 := Nat.pow_le_pow_right (by omega) hk
  simpa using this

def tmB (n s : Nat) : Bool := decide (100000 < s ^ n)

set_option maxHeartbeats 1000000 in
theorem tooManyWays_any (n s : Nat) (w : World) (hn : n ≤ 10) (hs : s ≤ 20) :
    Calls Try.prog 29 #[.int .i64 n, .int .i64 s] w fun e w' => e = .returned (.bool (tmB n s)) ∧ w' = w := by
  go_enter Try.func29, Try.ntmps29
  go_wp2
  go_loop [5, 7] (fun t v => ∃ (k A : Nat), k ≤ n ∧ v = .int .i64 k ∧ t = .int .i64 A ∧ Hid (A = s ^ k)) (fun _ v => n - (intOf v).toNat)
  case atStart => exact ⟨0, 1, by omega, rfl, rfl, hide rfl⟩
  case round =>
    obtain ⟨k, A, hk, rfl, rfl, HA⟩ := hrel
    by_cases hlt : k < n
    · have hlt' : (k : Int) < (n : Int) := by omega
      obtain ⟨B, hB⟩ : ∃ B, A * s = B := ⟨_, rfl⟩
      have HB : Hid (B = s ^ (k + 1)) := hide (by rw [← hB, HA.out, Nat.pow_succ])
      have hBb : B ≤ 10240000000000 := by rw [HB.out]; exact pow_le_20 s (k + 1) hs (by omega)
      have hBe : (A : Int) * (s : Int) = (B : Int) := by rw [← hB]; simp
      clear hB
      go_wp2
      go_round
      case rel => exact ⟨k + 1, B, by omega, by go_num, rfl, HB⟩
      case measure => simp [intOf]; omega
    · have hlt' : ¬ (k : Int) < (n : Int) := by omega
      obtain rfl : k = n := by omega
      have HV : Hid (tmB k s = decide ((100000 : Int) < (A : Int))) := hide (by unfold tmB; rw [← HA.out]; simp; omega)
      go_wp2
      go_ret
      exact ⟨ret_bool HV.out.symm, rfl⟩

/-- All ways; 0: too many. -/
def awN (s n : Nat) : Nat := if 100000 < s ^ n then 0 else s ^ n

theorem aw_later (s k n : Nat) (hs : 1 ≤ s) (hk : k ≤ n) (h : 100000 < s ^ k) : awN s n = 0 := by
  unfold awN
  rw [if_pos (Nat.lt_of_lt_of_le h (Nat.pow_le_pow_right hs hk))]

set_option maxHeartbeats 1000000 in
theorem allWays_any (s n : Nat) (w : World) (hn : n ≤ 10) (hs1 : 1 ≤ s) (hs : s ≤ 20) :
    Calls Try.prog 35 #[.int .i64 s, .int .i64 n] w fun e w' => e = .returned (.int .i64 (awN s n)) ∧ w' = w := by
  go_enter Try.func35, Try.ntmps35
  go_wp2
  go_loop [5, 6] (fun t v => ∃ (k A : Nat), k ≤ n ∧ v = .int .i64 k ∧ t = .int .i64 A ∧ Hid (A = s ^ k) ∧ Hid (A ≤ 100000)) (fun _ v => n - (intOf v).toNat)
  case atStart => exact ⟨0, 1, by omega, rfl, rfl, hide rfl, hide (by omega)⟩
  case round =>
    obtain ⟨k, A, hk, rfl, rfl, HA, HAl⟩ := hrel
    by_cases hlt : k < n
    · have hlt' : (k : Int) < (n : Int) := by omega
      obtain ⟨B, hB⟩ : ∃ B, A * s = B := ⟨_, rfl⟩
      have HB : Hid (B = s ^ (k + 1)) := hide (by rw [← hB, HA.out, Nat.pow_succ])
      have hBb : B ≤ 10240000000000 := by rw [HB.out]; exact pow_le_20 s (k + 1) hs (by omega)
      have hBe : (A : Int) * (s : Int) = (B : Int) := by rw [← hB]; simp
      clear hB
      by_cases hgt : 100000 < B
      · have hgt' : (100000 : Int) < (B : Int) := by omega
        have HV : Hid (awN s n = 0) := hide (aw_later s (k + 1) n hs1 (by omega) (by rw [← HB.out]; exact hgt))
        go_wp2
        go_ret
        exact ⟨ret_int (by rw [HV.out]; rfl), rfl⟩
      · have hgt' : ¬ (100000 : Int) < (B : Int) := by omega
        go_wp2
        go_round
        case rel => exact ⟨k + 1, B, by omega, by go_num, rfl, HB, hide (by omega)⟩
        case measure => simp [intOf]; omega
    · have hlt' : ¬ (k : Int) < (n : Int) := by omega
      obtain rfl : k = n := by omega
      have HV : Hid (awN s k = A) := hide (by unfold awN; rw [← HA.out, if_neg (by have := HAl.out; omega)])
      go_wp2
      go_ret
      exact ⟨ret_int (by rw [HV.out]), rfl⟩

theorem take_sumN (L : List Nat) (k : Nat) (h : k < L.length) : (L.take (k + 1)).sum = (L.take k).sum + L.getD k 0 := by
  rw [List.take_succ_eq_append_getElem h, List.sum_append]
  simp [List.getD, h]

theorem sum_leN (L : List Nat) (B : Nat) (h : ∀ d ∈ L, d ≤ B) : L.sum ≤ L.length * B := by
  induction L with
  | nil => simp
  | cons d L ih => have := ih (fun x hx => h x (by simp [hx])); have := h d (by simp); rw [List.sum_cons, List.length_cons, Nat.succ_mul]; omega

set_option maxHeartbeats 1000000 in
theorem sum_any (a : Option Addr) (n c : Nat) (L : List Nat) (w : World) (h : Rd w a n c (toI L)) (hn : n ≤ 1000) (hb : ∀ x ∈ L, x ≤ 1000) :
    Calls Try.prog 33 #[.slice a n c] w fun e w' => e = .returned (.int .i64 (L.sum : Nat)) ∧ w' = w := by
  have hcm := h.max
  have hcn := h.cap
  unfold maxLen at hcm
  have HL : Hid (L.length = n) := hide (by have := h.len; rwa [toI_length] at this)
  have HH := hide h
  have HB := hide hb
  clear h hb
  go_enter Try.func33, Try.ntmps33
  go_wp2
  go_loop [3, 8] (fun t v => ∃ (k A : Nat), k ≤ n ∧ v = .int .i64 k ∧ t = .int .i64 A ∧ Hid (A = (L.take k).sum)) (fun _ v => n - (intOf v).toNat)
  case atStart => exact ⟨0, 0, by omega, rfl, rfl, hide rfl⟩
  case round =>
    obtain ⟨k, A, hk, rfl, rfl, HA⟩ := hrel
    by_cases hlt : k < n
    · have hlt' : (k : Int) < (n : Int) := by omega
      obtain ⟨ba, oa, ha, hc⟩ := HH.out.cells (by omega)
      subst ha
      have r1 := hc k hlt
      rw [toI_getD] at r1
      have HS : Hid ((L.take (k + 1)).sum = A + L.getD k 0) := hide (by rw [HA.out]; exact take_sumN L k (by rw [HL.out]; exact hlt))
      have hle : A + L.getD k 0 ≤ 1000000 := by
        rw [← HS.out]
        have h1 := sum_leN (L.take (k + 1)) 1000 (fun x hx => HB.out x (List.mem_of_mem_take hx))
        have h2 : (L.take (k + 1)).length ≤ k + 1 := List.length_take_le _ _
        have h3 : (L.take (k + 1)).length * 1000 ≤ (k + 1) * 1000 := Nat.mul_le_mul_right _ h2
        omega
      obtain ⟨y, hy⟩ : ∃ y, L.getD k 0 = y := ⟨_, rfl⟩
      rw [hy] at r1 HS hle
      obtain ⟨Z, hZ⟩ : ∃ Z, A + y = Z := ⟨_, rfl⟩
      have hZe : (A : Int) + (y : Int) = (Z : Int) := by omega
      rw [hZ] at HS hle
      clear hc hy hZ
      go_wp2
      go_round
      case rel => exact ⟨k + 1, Z, by omega, by go_num, rfl, hide HS.out.symm⟩
      case measure => simp [intOf]; omega
    · have hlt' : ¬ (k : Int) < (n : Int) := by omega
      obtain rfl : k = n := by omega
      have HV : Hid (L.sum = A) := hide (by rw [HA.out, List.take_of_length_le (by rw [HL.out]; exact Nat.le_refl _)])
      go_wp2
      go_ret
      exact ⟨ret_int (by rw [HV.out]), rfl⟩

/-- Which of m things a raw number speaks of. -/
def pk (n : Int) (m : Nat) : Nat := (if n < 0 then -(n + 1) else n).toNat % m

theorem pk_lt (n : Int) (m : Nat) (h : 0 < m) : pk n m < m := Nat.mod_lt _ h

set_option maxHeartbeats 400000 in
theorem picked_any (n : Int) (m : Nat) (w : World) (h1 : -9223372036854775808 ≤ n) (h2 : n ≤ 9223372036854775807) (hm : 1 ≤ m) (hm2 : m ≤ 479001600) :
    Calls Try.prog 19 #[.int .i64 n, .int .i64 m] w fun e w' => e = .returned (.int .i64 (pk n m : Nat)) ∧ w' = w := by
  have hm' : ¬ (m : Int) = 0 := by omega
  by_cases hn : n < 0
  · obtain ⟨q, hq⟩ := Int.eq_ofNat_of_zero_le (show 0 ≤ -(n + 1) by omega)
    have HP : Hid (pk n m = q % m) := hide (by unfold pk; rw [if_pos hn, hq]; rfl)
    have e0 : n = -(q : Int) - 1 := by omega
    have hq2 : (q : Int) ≤ 9223372036854775807 := by omega
    subst e0
    have hmod : (q : Int) % (m : Int) = ((q % m : Nat) : Int) := by simp
    have hneg : -(-(q : Int) - 1 + 1) = (q : Int) := by omega
    generalize q % m = R at *
    clear hq
    go_enter Try.func19, Try.ntmps19
    go_wp2
    go_ret
    refine ⟨ret_int ?_, rfl⟩
    rw [HP.out, ← hmod]
  · obtain ⟨q, rfl⟩ := Int.eq_ofNat_of_zero_le (show 0 ≤ n by omega)
    have HP : Hid (pk (q : Int) m = q % m) := hide (by unfold pk; rw [if_neg hn]; rfl)
    have hmod : (q : Int) % (m : Int) = ((q % m : Nat) : Int) := by simp
    generalize q % m = R at *
    go_enter Try.func19, Try.ntmps19
    go_wp2
    go_ret
    refine ⟨?_, rfl⟩
    rw [HP.out]
    rfl


set_option maxHeartbeats 400000 in
theorem same_any (a b : Option Addr) (n c m d : Nat) (xs ys : List Int) (w : World) (hx : Rd w a n c xs) (hy : Rd w b m d ys) :
    Calls Try.prog 20 #[.slice a n c, .slice b m d] w fun e w' => e = .returned (.bool (decide (xs = ys))) ∧ ∃ k, w' = w.drewN k := by
  have hmx := hx.max
  have hcx := hx.cap
  have hmy := hy.max
  have hcy := hy.cap
  unfold maxLen at hmx hmy
  by_cases hnm : n = m
  · subst hnm
    have hne : ((n : Int) != (n : Int)) = false := by simp
    by_cases h0 : n = 0
    · subst h0
      have ex : xs = [] := List.eq_nil_of_length_eq_zero hx.len
      have ey : ys = [] := List.eq_nil_of_length_eq_zero hy.len
      subst ex ey
      go_enter Try.func20, Try.ntmps20
      go_wp2
      refine wp_loop_rounds 1 ?_
      rw [rounds_succ]
      go_wp2
      go_ret
      exact ⟨rfl, 0, rfl⟩
    · obtain ⟨b1, o1, rfl, hc1⟩ := hx.cells (by omega)
      obtain ⟨b2, o2, rfl, hc2⟩ := hy.cells (by omega)
      have lx : Hid (xs.length = n) := hx.len
      have ly : Hid (ys.length = n) := hy.len
      clear hx hy
      go_enter Try.func20, Try.ntmps20
      go_wp2
      go_loopw [5] (fun i wr => ∃ k q : Nat, k ≤ n ∧ i = .int .i64 k ∧ wr = w.drewN q ∧ Hid (xs.take k = ys.take k)) (fun i _ => n - (intOf i).toNat)
      case atStart => exact ⟨0, 0, by omega, rfl, rfl, by simp [Hid]⟩
      case round =>
        obtain ⟨k, q, hk, rfl, rfl, hq⟩ := hrel
        by_cases hlt : k < n
        · have e1 := hc1 k hlt
          have e2 := hc2 k hlt
          clear hc1 hc2
          have hlt' : (k : Int) < (n : Int) := by omega
          have hs := take_succ_eq xs ys k (by rw [lx.out]; exact hlt) (by rw [ly.out]; exact hlt)
          have HS := hide hs
          clear hs
          by_cases hv : xs.getD k 0 = ys.getD k 0
          · have hb : (xs[k]?.getD 0 != ys[k]?.getD 0) = false := by simpa using hv
            have HV := hide hv
            clear hv
            go_wp2
            go_quiet (fail)
            go_wp2
            go_roundw
            case rel => exact ⟨k + 1, _, by omega, by go_num, rfl, HS.out.2 ⟨hq.out, HV.out⟩⟩
            case measure => simp [intOf]; omega
          · have hb : (xs[k]?.getD 0 != ys[k]?.getD 0) = true := by simpa using hv
            go_wp2
            go_quiet (fail)
            go_wp2
            go_ret
            exact ⟨ret_bool (by symm; rw [decide_eq_false_iff_not]; rintro rfl; exact hv rfl), _, World.drewN_drewN _ _ _⟩
        · have hlt' : ¬ (k : Int) < (n : Int) := by omega
          obtain rfl : k = n := by omega
          go_wp2
          go_ret
          refine ⟨ret_bool ?_, _, rfl⟩
          symm
          rw [decide_eq_true_iff]
          have h1 := hq.out
          rw [List.take_of_length_le (by rw [lx.out]; exact Nat.le_refl _), List.take_of_length_le (by rw [ly.out]; exact Nat.le_refl _)] at h1
          exact h1
  · have hne : ((n : Int) != (m : Int)) = true := by rw [bne_iff_ne]; omega
    go_enter Try.func20, Try.ntmps20
    go_wp2
    go_ret
    exact ⟨ret_bool (by symm; rw [decide_eq_false_iff_not]; rintro rfl; exact hnm (hx.len.symm.trans hy.len)), 0, rfl⟩


end Go.Proofs.Ytonmgbepkdlklaa
