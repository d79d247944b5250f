/-
  What bridge.beats, bridge.winner and the reference's TrickWinner answer. No conditions beyond those that each theorem bears.
-/
import Derived.Test.YtiihnlpoagnkhaaDoorHand
namespace Go.Proofs.YtiihnlpoagnkhaaDoor
open Go.RowKit

/-- Does a card beat one that was put down ahead of it? -/
def btB (c o : Nat) (s : Int) : Bool := if c % 4 = o % 4 then decide (o < c) else decide (((c % 4 : Nat) : Int) = s)
/-- Who has the best card, behind i of them. -/
def wn (L : List Nat) (s : Int) : Nat → Nat
  | 0 => 0
  | i + 1 => if btB (L.getD i 0) (L.getD (wn L s i) 0) s = true then i else wn L s i

theorem wn_le (L : List Nat) (s : Int) : ∀ i, 0 < i → wn L s i < i := by
  intro i
  induction i with
  | zero => intro h; omega
  | succ i ih =>
    intro _
    simp only [wn]
    split
    · omega
    · by_cases h0 : i = 0
      · subst h0; simp [wn]
      · have := ih (by omega); omega

theorem wn_one (L : List Nat) (s : Int) : wn L s 1 = 0 := by
  have := wn_le L s 1 (by omega); omega

theorem tm4 (x : Nat) : Int.tmod (x : Int) 4 = ((x % 4 : Nat) : Int) := by
  rw [Int.tmod_eq_emod_of_nonneg (by omega)]; omega

theorem ret_b {a b : Bool} (h : a = b) : Ending.returned (.bool a) = .returned (.bool b) := by rw [h]

set_option maxHeartbeats 400000 in
theorem beats_any (c o : Nat) (s : Int) (w : World) : Calls Tryd.prog 41 #[.int .i64 c, .int .i64 o, .int .i64 s] w fun e w' => e = .returned (.bool (btB c o s)) ∧ w' = w := by
  generalize hB : btB c o s = B
  unfold btB at hB
  obtain ⟨x, hx⟩ : ∃ x, c % 4 = x := ⟨_, rfl⟩
  obtain ⟨y, hy⟩ : ∃ y, o % 4 = y := ⟨_, rfl⟩
  have tx := tm4 c
  have ty := tm4 o
  have ex : (c : Int) % 4 = (x : Int) := by omega
  have ey : (o : Int) % 4 = (y : Int) := by omega
  rw [hx] at tx hB
  rw [hy] at ty hB
  clear hx hy
  by_cases hxy : x = y
  · subst hxy
    rw [if_pos rfl] at hB
    by_cases hlt : o < c
    · obtain rfl : B = true := by rw [← hB]; simp [hlt]
      have hlt' : (o : Int) < (c : Int) := by omega
      clear hB
      go_enter Tryd.func41, Tryd.ntmps41
      go_wp2
      go_ret
      exact ⟨rfl, rfl⟩
    · obtain rfl : B = false := by rw [← hB]; simp; omega
      have hlt' : ¬ (o : Int) < (c : Int) := by omega
      clear hB
      go_enter Tryd.func41, Tryd.ntmps41
      go_wp2
      go_ret
      exact ⟨rfl, rfl⟩
  · rw [if_neg hxy] at hB
    have bxy : ((x : Int) == (y : Int)) = false := by simp; omega
    by_cases hs : (x : Int) = s
    · obtain rfl : B = true := by rw [← hB]; simp [hs]
      subst hs
      clear hB
      go_enter Tryd.func41, Tryd.ntmps41
      go_wp2
      go_ret
      exact ⟨rfl, rfl⟩
    · obtain rfl : B = false := by rw [← hB]; simp [hs]
      have bs : ((x : Int) == s) = false := by simpa using hs
      clear hB
      go_enter Tryd.func41, Tryd.ntmps41
      go_wp2
      go_ret
      exact ⟨rfl, rfl⟩

set_option maxHeartbeats 1000000 in
theorem winner_any (a : Option Addr) (n c : Nat) (L : List Nat) (s : Int) (hn : 1 ≤ n) (w : World) (h : Rd w a n c (toI L)) :
    Calls Tryd.prog 36 #[.slice a n c, .int .i64 s] w fun e w' => e = .returned (.int .i64 (wn L s n : Nat)) ∧ w' = w := by
  have hcm := h.max
  have hcn := h.cap
  unfold maxLen at hcm
  obtain ⟨b, off, rfl, hc⟩ := h.cells (by omega)
  have HC := hide hc
  clear h hc
  go_enter Tryd.func36, Tryd.ntmps36
  go_wp2
  go_loop [5, 10] (fun x i => ∃ k : Nat, k ≤ n ∧ i = .int .i64 k ∧ x = .int .i64 (wn L s k : Nat)) (fun _ i => n - (intOf i).toNat)
  case atStart => exact ⟨0, by omega, rfl, rfl⟩
  case round =>
    obtain ⟨k, hk, rfl, rfl⟩ := hrel
    by_cases hlt : k < n
    · have hlt' : (k : Int) < (n : Int) := by omega
      have r1 := HC.out k hlt
      rw [toI_getD] at r1
      have hwk : wn L s k < n := by
        by_cases h0 : k = 0
        · subst h0; simp [wn]; omega
        · have := wn_le L s k (by omega); omega
      have r2 := HC.out (wn L s k) hwk
      rw [toI_getD] at r2
      have HS : Hid (wn L s (k + 1) = if btB (L.getD k 0) (L.getD (wn L s k) 0) s = true then k else wn L s k) := rfl
      have BT := hide (beats_any (L.getD k 0) (L.getD (wn L s k) 0) s)
      obtain ⟨m, hm⟩ : ∃ m, wn L s k = m := ⟨_, rfl⟩
      rw [hm] at r2 HS BT hwk ⊢
      have hwk' : (m : Int) < (n : Int) := by omega
      generalize L.getD k 0 = x at *
      generalize L.getD m 0 = y at *
      clear hm
      cases hb : btB x y s with
      | true =>
        rw [hb] at BT HS
        rw [if_pos rfl] at HS
        go_wp2_with fail
        refine (BT.out _).mono ?_
        rintro e w1 ⟨rfl, hw⟩
        subst w1
        go_wp2
        go_round
        case rel => exact ⟨k + 1, by omega, by go_num, by rw [HS.out]⟩
        case measure => simp [intOf]; omega
      | false =>
        rw [hb] at BT HS
        rw [if_neg (by simp)] at HS
        go_wp2_with fail
        refine (BT.out _).mono ?_
        rintro e w1 ⟨rfl, hw⟩
        subst w1
        go_wp2
        go_round
        case rel => exact ⟨k + 1, by omega, by go_num, by rw [HS.out]⟩
        case measure => simp [intOf]; omega
    · obtain rfl : k = n := by omega
      have hlt' : ¬ (k : Int) < (k : Int) := by omega
      go_wp2
      go_ret
      exact ⟨rfl, rfl⟩

set_option maxHeartbeats 2000000 in
theorem TrickWinner_any (a : Option Addr) (c : Nat) (L : List Nat) (s : Int) (w : World) (h : Rd w a 4 c (toI L)) :
    Calls Tryd.prog 19 #[.slice a 4 c, .int .i64 s] w fun e w' => e = .returned (.int .i64 (wn L s 4 : Nat)) ∧ ∃ q, w' = w.drewN q := by
  have hcm := h.max
  have hcn := h.cap
  unfold maxLen at hcm
  obtain ⟨b, off, rfl, hc⟩ := h.cells (by omega)
  have HC := hide hc
  have H1 := hide (wn_one L s)
  clear h hc
  go_enter Tryd.func19, Tryd.ntmps19
  go_wp2
  go_loopw [5, 6] (fun x i wr => ∃ k q : Nat, 1 ≤ k ∧ k ≤ 4 ∧ i = .int .i64 k ∧ x = .int .i64 (wn L s k : Nat) ∧ wr = w.drewN q) (fun _ i _ => 4 - (intOf i).toNat)
  case atStart => exact ⟨1, 0, by omega, by omega, rfl, by rw [H1.out]; rfl, rfl⟩
  case round =>
    obtain ⟨k, q, hk1, hk, rfl, rfl, rfl⟩ := hrel
    by_cases hlt : k < 4
    · have hlt' : (k : Int) < 4 := by omega
      have r1 := HC.out k hlt
      rw [toI_getD] at r1
      have hwk : wn L s k < 4 := by have := wn_le L s k (by omega); omega
      have r2 := HC.out (wn L s k) hwk
      rw [toI_getD] at r2
      have HS : Hid (wn L s (k + 1) = if btB (L.getD k 0) (L.getD (wn L s k) 0) s = true then k else wn L s k) := rfl
      obtain ⟨m, hm⟩ : ∃ m, wn L s k = m := ⟨_, rfl⟩
      rw [hm] at r2 HS hwk ⊢
      have hwk' : (m : Int) < 4 := by omega
      generalize L.getD k 0 = c1 at *
      generalize L.getD m 0 = o at *
      clear hm
      unfold btB at HS
      obtain ⟨x, hx⟩ : ∃ x, c1 % 4 = x := ⟨_, rfl⟩
      obtain ⟨y, hy⟩ : ∃ y, o % 4 = y := ⟨_, rfl⟩
      have tx := tm4 c1
      have ty := tm4 o
      have ex : (c1 : Int) % 4 = (x : Int) := by omega
      have ey : (o : Int) % 4 = (y : Int) := by omega
      rw [hx] at tx HS
      rw [hy] at ty HS
      clear hx hy
      by_cases hxy : x = y
      · subst hxy
        rw [if_pos rfl] at HS
        have bxx : ((x : Int) == (x : Int)) = true := by simp
        have nxx : ((x : Int) != (x : Int)) = false := by simp
        by_cases hlt2 : o < c1
        · have hlt2' : (o : Int) < (c1 : Int) := by omega
          have dl : decide ((o : Int) < (c1 : Int)) = true := by simp; omega
          rw [if_pos (by simp [hlt2])] at HS
          go_wp2
          go_quiet (fail)
          go_wp2
          go_roundw
          case rel => exact ⟨k + 1, _, by omega, by omega, by go_num, by rw [HS.out], rfl⟩
          case measure => simp [intOf]; omega
        · have hlt2' : ¬ (o : Int) < (c1 : Int) := by omega
          have dl : decide ((o : Int) < (c1 : Int)) = false := by simp; omega
          rw [if_neg (by simp; omega)] at HS
          go_wp2
          go_quiet (fail)
          go_wp2
          go_roundw
          case rel => exact ⟨k + 1, _, by omega, by omega, by go_num, by rw [HS.out], rfl⟩
          case measure => simp [intOf]; omega
      · rw [if_neg hxy] at HS
        have bxy : ((x : Int) == (y : Int)) = false := by simp; omega
        have nxy : ((x : Int) != (y : Int)) = true := by simp; omega
        by_cases hs : (x : Int) = s
        · rw [if_pos (by simp [hs])] at HS
          subst hs
          go_wp2
          go_quiet (fail)
          go_wp2
          go_roundw
          case rel => exact ⟨k + 1, _, by omega, by omega, by go_num, by rw [HS.out], rfl⟩
          case measure => simp [intOf]; omega
        · rw [if_neg (by simp [hs])] at HS
          have bs : ((x : Int) == s) = false := by simpa using hs
          go_wp2
          go_quiet (fail)
          go_wp2
          go_roundw
          case rel => exact ⟨k + 1, _, by omega, by omega, by go_num, by rw [HS.out], rfl⟩
          case measure => simp [intOf]; omega
    · obtain rfl : k = 4 := by omega
      go_wp2
      go_ret
      exact ⟨rfl, q, rfl⟩

end Go.Proofs.YtiihnlpoagnkhaaDoor
