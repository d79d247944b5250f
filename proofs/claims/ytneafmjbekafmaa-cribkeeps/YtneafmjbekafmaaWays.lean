/-
  What the reference's rowWays answers. No conditions beyond those that each theorem bears.
-/
import Derived.Test.YtneafmjbekafmaaTms
import Derived.Test.YtneafmjbekafmaaCribMath
namespace Go.Proofs.Ytneafmjbekafmaa
open Go.RowKit Go.Shelf

/-- The ways to choose one of each of j ranks from lo on. -/
def prT (T : List Nat) (lo : Nat) : Nat → Nat
  | 0 => 1
  | j + 1 => prT T lo j * T.getD (lo + j) 0

theorem prT_front (T : List Nat) (lo j : Nat) : prT T lo (j + 1) = T.getD lo 0 * prT T (lo + 1) j := by
  induction j with
  | zero => simp [prT]
  | succ j ih =>
    rw [prT, ih, prT, Nat.mul_assoc, show lo + 1 + j = lo + (j + 1) by omega]

theorem prodN_cons (n t : Nat) (T : List Nat) : prodN (n + 1) (t :: T) = t * prodN n T := by
  cases t with
  | zero => simp [prodN]
  | succ t => rfl

theorem prodN_drop (T : List Nat) : ∀ n lo, prodN n (T.drop lo) = prT T lo n := by
  intro n
  induction n with
  | zero => intro lo; cases T.drop lo <;> rfl
  | succ n ih =>
    intro lo
    by_cases h : lo < T.length
    · rw [List.drop_eq_getElem_cons h, prodN_cons, ih, prT_front]
      simp [List.getD, h]
    · rw [List.drop_eq_nil_of_le (by omega), prT_front]
      simp [prodN, List.getD, h]

theorem prT_zero (T : List Nat) (lo : Nat) : ∀ n, T.length < lo + n → prT T lo n = 0 ∨ n = 0 := by
  intro n h
  cases n with
  | zero => exact .inr rfl
  | succ n =>
    left
    rw [prT, List.getD_eq_getElem?_getD, List.getElem?_eq_none (by omega)]; simp

/-- The ways of the first k lowest ranks. -/
def winTo (T : List Nat) (n : Nat) : Nat → Nat
  | 0 => 0
  | k + 1 => winTo T n k + prT T k n

theorem winTo_drop (T : List Nat) (n k : Nat) (h : k ≤ T.length) : winTo T n k + winS n (T.drop k) = winS n T := by
  induction k with
  | zero => simp [winTo]
  | succ k ih =>
    have h1 := ih (by omega)
    rw [List.drop_eq_getElem_cons (by omega), winS, ← List.drop_eq_getElem_cons (by omega), prodN_drop] at h1
    rw [winTo]; omega

theorem winTo_more (T : List Nat) (n k : Nat) (hn : 0 < n) (hk : T.length < k + n) : ∀ d, winTo T n (k + d) = winTo T n k := by
  intro d
  induction d with
  | zero => rfl
  | succ d ih =>
    rw [show k + (d + 1) = k + d + 1 by omega, winTo, ih]
    rcases prT_zero T (k + d) n (by omega) with h | h
    · omega
    · omega

theorem winTo_all (T : List Nat) (n : Nat) (hl : T.length = 13) (hn : 0 < n) (h13 : n ≤ 13) : winTo T n (14 - n) = winS n T := by
  have h1 := winTo_drop T n 13 (by omega)
  rw [← hl, List.drop_length, hl] at h1
  have h2 := winTo_more T n (14 - n) hn (by omega) (n - 1)
  rw [show 14 - n + (n - 1) = 13 by omega] at h2
  rw [← h2, ← h1]; rfl

theorem prT_le (T : List Nat) (lo : Nat) (h : ∀ r, T.getD r 0 ≤ 13) (j : Nat) : prT T lo j ≤ 13 ^ j := by
  induction j with
  | zero => simp [prT]
  | succ j ih => rw [prT, Nat.pow_succ]; exact Nat.mul_le_mul ih (h _)

theorem pow13 (k : Nat) (hk : k ≤ 13) : 13 ^ k ≤ 302875106592253 := by
  have : 13 ^ k ≤ 13 ^ 13 := Nat.pow_le_pow_right (by omega) hk
  simpa using this

set_option maxHeartbeats 1000000 in
theorem ways_any (a : Option Addr) (n c : Nat) (L : List Nat) (hlt : ∀ x ∈ L, x < 52) (hn : n ≤ 13) (lo len : Nat) (hll : lo + len ≤ 13) (w : World) (h : Rd w a n c (toI L)) :
    Calls Try.prog 27 #[.slice a n c, .int .i64 (lo + 1 : Nat), .int .i64 len] w fun e w' => e = .returned (.int .i64 (prT (tms L) lo len)) ∧ w' = w := by
  have hcm := h.max
  have hcn := h.cap
  unfold maxLen at hcm
  have hLl : Hid (L.length = n) := hide (by have := h.len; rwa [toI_length] at this)
  have hT13 : Hid (∀ r, (tms L).getD r 0 ≤ 13) := hide (fun r => by
    by_cases hr : r < 13
    · rw [tms_getD L r hr]
      refine Nat.le_trans List.count_le_length ?_
      rw [List.length_map, hLl.out]; exact hn
    · rw [List.getD_eq_getElem?_getD, List.getElem?_eq_none (by rw [tms_length]; omega)]; simp)
  have HH := hide h
  clear h
  go_enter Try.func27, Try.ntmps27
  go_wp2
  go_loop [7, 8] (fun s v => ∃ j : Nat, j ≤ len ∧ v = .int .i64 (lo + 1 + j : Nat) ∧ s = .int .i64 (prT (tms L) lo j)) (fun _ v => (lo + 1 + len) - (intOf v).toNat)
  case atStart => exact ⟨0, by omega, rfl, rfl⟩
  case round =>
    obtain ⟨j, hj, rfl, rfl⟩ := hrel
    have hp := Nat.le_trans (prT_le (tms L) lo hT13.out j) (pow13 j (by omega))
    by_cases hlj : j < len
    · have hlj' : ((lo + 1 + j : Nat) : Int) < ((lo + 1 : Nat) : Int) + (len : Int) := by omega
      have hs : Hid (prT (tms L) lo (j + 1) = prT (tms L) lo j * (tms L).getD (lo + j) 0) := rfl
      have hp1 := Nat.le_trans (prT_le (tms L) lo hT13.out (j + 1)) (pow13 (j + 1) (by omega))
      go_wp2
      go_loop [9, 10] (fun s v => ∃ i : Nat, i ≤ n ∧ v = .int .i64 i ∧ s = .int .i64 (((L.take i).map rkC).count (lo + j) : Nat)) (fun _ v => n - (intOf v).toNat)
      case atStart => exact ⟨0, by omega, rfl, rfl⟩
      case round =>
        obtain ⟨i, hi, rfl, rfl⟩ := hrel
        have hcl : ((L.take i).map rkC).count (lo + j) ≤ 13 := by
          refine Nat.le_trans List.count_le_length ?_
          rw [List.length_map, List.length_take]; omega
        by_cases hil : i < n
        · have hil' : (i : Int) < (n : Int) := by omega
          obtain ⟨b, off, ha, hc⟩ := HH.out.cells (by omega)
          subst ha
          have r1 := hc i hil
          rw [toI_getD] at r1
          clear hc
          have hkl : i < L.length := by rw [hLl.out]; exact hil
          have et := take_snoc L i hkl
          have hm := mem_getD L i hkl
          obtain ⟨x, hx⟩ : ∃ x, L.getD i 0 = x := ⟨_, rfl⟩
          rw [hx] at r1 et hm
          have PP := hide (pipOf_any x (hlt x hm))
          have hr13 := rkC_lt x
          have cs := count_snocR (L.take i) x (lo + j)
          rw [← et] at cs
          obtain ⟨r, hr⟩ : ∃ r, rkC x = r := ⟨_, rfl⟩
          rw [hr] at PP hr13 cs
          clear hr hx et hm hkl
          generalize ((L.take i).map rkC).count (lo + j) = q at *
          by_cases he : r = lo + j
          · rw [if_pos he] at cs
            have CS := hide cs
            have hb : ((r + 1 : Nat) : Int) = ((lo + 1 + j : Nat) : Int) := by omega
            clear cs he
            go_wp2_with fail
            refine (PP.out _).mono ?_
            rintro e w1 ⟨rfl, hw⟩
            subst w1
            go_wp2
            go_round
            case rel => exact ⟨i + 1, by omega, by go_num, by rw [CS.out]; go_num⟩
            case measure => simp [intOf]; omega
          · rw [if_neg he] at cs
            have CS := hide cs
            have hb : (((r + 1 : Nat) : Int) == ((lo + 1 + j : Nat) : Int)) = false := by simp; omega
            clear cs he
            go_wp2_with fail
            refine (PP.out _).mono ?_
            rintro e w1 ⟨rfl, hw⟩
            subst w1
            go_wp2
            go_round
            case rel => exact ⟨i + 1, by omega, by go_num, by rw [CS.out]⟩
            case measure => simp [intOf]; omega
        · obtain rfl : i = n := by omega
          have hil' : ¬ (i : Int) < (i : Int) := by omega
          have ec : Hid (((L.take i).map rkC).count (lo + j) = (tms L).getD (lo + j) 0) := hide (by
            rw [List.take_of_length_le (by rw [hLl.out]; exact Nat.le_refl _), tms_getD L _ (by omega)])
          rw [ec.out] at hcl ⊢
          obtain ⟨q, hq⟩ : ∃ q, (tms L).getD (lo + j) 0 = q := ⟨_, rfl⟩
          rw [hq] at hs hcl ⊢
          obtain ⟨u, hu⟩ : ∃ u, prT (tms L) lo j = u := ⟨_, rfl⟩
          rw [hu] at hs hp ⊢
          obtain ⟨v, hv⟩ : ∃ v, u * q = v := ⟨_, rfl⟩
          have hmul : (u : Int) * (q : Int) = (v : Int) := by rw [← hv]; simp
          rw [hv] at hs
          rw [hs.out] at hp1
          clear hq hu hv ec
          go_wp2
          go_round
          case rel => exact ⟨j + 1, by omega, by go_num, by rw [hs.out]⟩
          case measure => simp [intOf]; omega
    · obtain rfl : j = len := by omega
      have hlj' : ¬ ((lo + 1 + j : Nat) : Int) < ((lo + 1 : Nat) : Int) + (j : Int) := by omega
      go_wp2
      go_ret
      exact ⟨rfl, rfl⟩

end Go.Proofs.Ytneafmjbekafmaa
