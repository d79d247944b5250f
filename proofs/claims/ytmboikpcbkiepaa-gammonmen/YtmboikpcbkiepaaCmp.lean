/-
  cmp.Compare, slices.Compare, cmp.Or at ints, as package gammon uses them. No conditions beyond those that each theorem bears.
-/
import Derived.Test.YtmboikpcbkiepaaLg
namespace Go.Proofs.Ytmboikpcbkiepaa
open Go.RowKit

/-- Which comes first. -/
def cI (x y : Int) : Int := if x < y then -1 else if y < x then 1 else 0

theorem cI_zero {x y : Int} : cI x y = 0 ↔ x = y := by
  unfold cI
  split
  · constructor <;> intro h <;> omega
  · split
    · constructor <;> intro h <;> omega
    · constructor <;> intro h <;> omega

set_option maxHeartbeats 400000 in
theorem isNaN_any (x : Int) (w : World) : Calls Try.prog 57 #[.int .i64 x] w fun e w' => e = .returned (.bool false) ∧ w' = w := by
  have hb : (x != x) = false := by simp
  go_enter Try.func57, Try.ntmps57
  go_wp2_with fail
  go_ret
  exact ⟨rfl, rfl⟩

set_option maxHeartbeats 1000000 in
theorem compare_any (x y : Int) (w : World) : Calls Try.prog 42 #[.int .i64 x, .int .i64 y] w fun e w' => e = .returned (.int .i64 (cI x y)) ∧ w' = w := by
  have H1 := hide (isNaN_any x w)
  have H2 := hide (isNaN_any y w)
  have HC : Hid (cI x y = if x < y then -1 else if y < x then 1 else 0) := hide rfl
  obtain ⟨R, hR⟩ : ∃ R, cI x y = R := ⟨_, rfl⟩
  rw [hR] at HC ⊢
  clear hR
  go_enter Try.func42, Try.ntmps42
  go_wp2_with fail
  refine H1.out.mono ?_
  rintro e w1 ⟨rfl, h1⟩
  subst w1
  go_wp2_with fail
  refine H2.out.mono ?_
  rintro e w1 ⟨rfl, h1⟩
  subst w1
  have hc := HC.out
  by_cases h1 : x < y
  · rw [if_pos h1] at hc
    subst hc
    go_wp2_with fail
    go_ret
    exact ⟨rfl, rfl⟩
  · rw [if_neg h1] at hc
    by_cases h2 : y < x
    · rw [if_pos h2] at hc
      subst hc
      go_wp2_with fail
      go_ret
      exact ⟨rfl, rfl⟩
    · rw [if_neg h2] at hc
      subst hc
      go_wp2_with fail
      go_ret
      exact ⟨rfl, rfl⟩

/-- Number by number. -/
def cL (P Q : List Int) : Int := if lexL P Q = true then -1 else if lexL Q P = true then 1 else 0

theorem cL_at {P Q : List Int} {k : Nat} (h1 : k < P.length) (h2 : k < Q.length) (he : ∀ i, i < k → P.getD i 0 = Q.getD i 0) (hn : cI (P.getD k 0) (Q.getD k 0) ≠ 0) : cL P Q = cI (P.getD k 0) (Q.getD k 0) := by
  have hne : P.getD k 0 ≠ Q.getD k 0 := fun e => hn (cI_zero.2 e)
  have a := lexL_at k P Q h1 h2 he hne
  have b := lexL_at k Q P h2 h1 (fun i hi => (he i hi).symm) hne.symm
  unfold cL cI
  rw [a, b]
  simp only [decide_eq_true_eq]

theorem cL_self (P : List Int) : cL P P = 0 := by
  unfold cL
  rw [lexL_self]
  simp

attribute [local irreducible] cI cL

set_option maxRecDepth 100000 in
set_option maxHeartbeats 2000000 in
theorem compareL_any (a a2 : Option Addr) (c c2 : Nat) (P Q : List Int) (w : World) (h : Rd w a 26 c P) (h2 : Rd w a2 26 c2 Q) :
    Calls Try.prog 41 #[.slice a 26 c, .slice a2 26 c2] w fun e w' => e = .returned (.int .i64 (cL P Q)) ∧ w' = w := by
  have HAT : Hid (∀ k, k < 26 → (∀ i, i < k → P.getD i 0 = Q.getD i 0) → cI (P.getD k 0) (Q.getD k 0) ≠ 0 → cL P Q = cI (P.getD k 0) (Q.getD k 0)) := hide (fun k hk he hn => cL_at (by rw [h.len]; exact hk) (by rw [h2.len]; exact hk) he hn)
  have HEN : Hid ((∀ i, i < 26 → P.getD i 0 = Q.getD i 0) → cL P Q = 0) := hide (fun he => by rw [pts_eq h.len h2.len he]; exact cL_self Q)
  obtain ⟨R, hR⟩ : ∃ R, cL P Q = R := ⟨_, rfl⟩
  rw [hR] at HAT HEN ⊢
  obtain ⟨b, off, rfl, hc⟩ := h.cells (by omega)
  obtain ⟨b2, off2, rfl, hc2⟩ := h2.cells (by omega)
  have HC := hide hc
  have HC2 := hide hc2
  have m1 := h.max
  have m2 := h2.max
  have q1 := h.cap
  have q2 := h2.cap
  unfold maxLen at m1 m2
  clear hc hc2 h h2 hR
  go_enter Try.func41, Try.ntmps41
  go_wp2_with fail
  go_loopw [5, 6, 7, 8, 11] (fun _ _ _ _ u wr => ∃ k : Nat, u = .int .i64 k ∧ k ≤ 26 ∧ Hid (∀ i, i < k → P.getD i 0 = Q.getD i 0) ∧ wr = w) (fun _ _ _ _ u _ => 26 - (intOf u).toNat)
  case atStart => exact ⟨0, rfl, by omega, hide (fun i hi => by omega), rfl⟩
  case round =>
    obtain ⟨k, rfl, hk, hE, rfl⟩ := hrel
    by_cases hlt : k < 26
    · have hlt' : (k : Int) < 26 := by omega
      have hge : ¬ (26 : Int) ≤ (k : Int) := by omega
      have e1 := HC.out k hlt
      have e2 := HC2.out k hlt
      have HA := hide (HAT.out k hlt hE.out)
      have HZ : Hid (cI (P.getD k 0) (Q.getD k 0) = 0 → P.getD k 0 = Q.getD k 0) := hide (fun h => cI_zero.1 h)
      obtain ⟨p, hp⟩ : ∃ p, P.getD k 0 = p := ⟨_, rfl⟩
      obtain ⟨q, hq⟩ : ∃ q, Q.getD k 0 = q := ⟨_, rfl⟩
      rw [hp] at e1 HA HZ
      rw [hq] at e2 HA HZ
      have HCC := hide (fun W => compare_any p q W)
      have HPQ := hide (And.intro hp hq)
      clear hp hq
      obtain ⟨r, hr⟩ : ∃ r, cI p q = r := ⟨_, rfl⟩
      rw [hr] at HA HZ HCC
      clear hr
      go_wp2_with fail
      refine (HCC.out _).mono ?_
      rintro e w1 ⟨rfl, h1⟩
      subst w1
      by_cases h0 : r = 0
      · have hb : (r != 0) = false := by simp [h0]
        have HN : Hid (∀ i, i < k + 1 → P.getD i 0 = Q.getD i 0) := hide (fun i hi => by
          by_cases e : i = k
          · subst e; rw [HPQ.out.1, HPQ.out.2]; exact HZ.out h0
          · exact hE.out i (by omega))
        clear h0
        go_wp2_with fail
        exact ⟨⟨k + 1, by go_num, by omega, HN, trivial⟩, by simp [intOf]; omega⟩
      · have hb : (r != 0) = true := by simpa using h0
        have HR := hide (HA.out h0)
        clear h0
        go_wp2_with fail
        go_ret
        exact ⟨ret_int (by rw [HR.out]), rfl⟩
    · obtain rfl : k = 26 := by omega
      have HR := hide (HEN.out hE.out)
      go_wp2_with fail
      go_ret
      exact ⟨ret_int (by rw [HR.out]), rfl⟩

end Go.Proofs.Ytmboikpcbkiepaa
