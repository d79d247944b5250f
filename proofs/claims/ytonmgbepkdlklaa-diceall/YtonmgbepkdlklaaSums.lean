/-
  dice.Sums. No conditions beyond those that each theorem bears.
-/
import Derived.Test.YtonmgbepkdlklaaWays
import Derived.Test.YtonmgbepkdlklaaSmall
import Derived.Test.YtonmgbepkdlklaaShelf
namespace Go.Proofs.Ytonmgbepkdlklaa
open Go.RowKit

theorem wn_iff (n : Nat) : wnB (n : Int) = true ↔ n < 1 ∨ 10 < n := by unfold wnB; rw [decide_eq_true_iff]; omega

theorem contains_ws (b off n c : Nat) (zs : List Int) (w : World) (h : Rd w (some ⟨b, off, none⟩) n c zs) (hn : 0 < n) :
    Calls Try.prog 22 #[.slice (some ⟨b, off, none⟩) n c, .func (.func 23) #[] #[]] w fun e w' => e = .returned (.bool (zs.any wsB)) ∧ ∃ q, w' = w.drewN q := by
  have hm := h.max
  have hc := h.cap
  unfold maxLen at hm
  obtain ⟨b', off', he, hcell⟩ := h.cells hn
  simp only [Option.some.injEq, Addr.mk.injEq] at he
  obtain ⟨rfl, rfl, _⟩ := he
  have := Try.slices_ContainsFunc (Value.int .i64) wsB 23 #[] (enters_of Try.func23 (by kernel_rfl) rfl) b off n c zs w (fun W x _ => (wrongSides_any x W).mono fun e w' ⟨he, hw⟩ => ⟨he, 0, hw⟩) (by rw [h.len]; exact Nat.le_refl _) (by omega)
    (fun j hj => by rw [h.len] at hj; rw [hcell j hj]; have hj' : j < zs.length := by rw [h.len]; exact hj
                    simp [List.getD, hj'])
  rw [List.take_of_length_le (by rw [h.len]; exact Nat.le_refl _)] at this
  exact this

theorem nat_list (zs : List Int) (h : zs.any wsB = false) : ∃ ds : List Nat, zs = toI ds ∧ ∀ d ∈ ds, 1 ≤ d ∧ d ≤ 20 := by
  induction zs with
  | nil => exact ⟨[], rfl, fun d hd => by simp at hd⟩
  | cons z zs ih =>
    rw [List.any_cons, Bool.or_eq_false_iff] at h
    obtain ⟨ds, e, hd⟩ := ih h.2
    have hz : 1 ≤ z ∧ z ≤ 20 := by have := h.1; unfold wsB at this; rw [decide_eq_false_iff_not] at this; omega
    refine ⟨z.toNat :: ds, by rw [e]; simp [toI]; omega, fun d hd' => ?_⟩
    rcases List.mem_cons.1 hd' with rfl | hd'
    · omega
    · exact hd d hd'

set_option maxHeartbeats 1000000 in
theorem Sums_no2 (a : Option Addr) (n c : Nat) (w : World) (h : n < 1 ∨ 10 < n) :
    Calls Try.prog 8 #[.slice a n c] w fun e w' => e = .returned (.tuple #[.slice none 0 0, .int .i64 2]) ∧ w' = w := by
  have hb : wnB (n : Int) = true := (wn_iff n).2 h
  clear h
  go_enter Try.func8, Try.ntmps8
  go_wp2_with (go_at_call 21; refine (wrongNumber_any _ _).mono ?_; rintro e w' ⟨rfl, hw'⟩; subst w')
  go_ret2
  exact ⟨rfl, rfl⟩

theorem wn_false (n : Nat) (h1 : 1 ≤ n) (h2 : n ≤ 10) : wnB (n : Int) = false := by unfold wnB; rw [decide_eq_false_iff_not]; omega

set_option maxHeartbeats 1000000 in
theorem Sums_no3 (a : Option Addr) (n c : Nat) (zs : List Int) (w : World) (h : Rd w a n c zs) (h1 : 1 ≤ n) (h2 : n ≤ 10) (h3 : zs.any wsB = true) :
    Calls Try.prog 8 #[.slice a n c] w fun e w' => e = .returned (.tuple #[.slice none 0 0, .int .i64 3]) ∧ ∃ q, w' = w.drewN q := by
  have hb := wn_false n h1 h2
  obtain ⟨ba, oa, rfl, -⟩ := h.cells (by omega)
  have HH := hide h
  clear h
  go_enter Try.func8, Try.ntmps8
  go_wp2_with (go_at_call 21; refine (wrongNumber_any _ _).mono ?_; rintro e w' ⟨rfl, hw'⟩; subst w')
  refine (contains_ws ba oa n c zs w HH.out (by omega)).mono ?_
  rintro e w1 ⟨rfl, q, rfl⟩
  go_wp2_with fail
  go_ret2
  exact ⟨rfl, _, rfl⟩

set_option maxHeartbeats 1000000 in
theorem Sums_yes (a : Option Addr) (n c : Nat) (ds : List Nat) (w : World) (h : Rd w a n c (toI ds)) (h1 : 1 ≤ n) (h2 : n ≤ 10) (h3 : ∀ d ∈ ds, 1 ≤ d ∧ d ≤ 20) :
    Calls Try.prog 8 #[.slice a n c] w fun e w' => ∃ b, e = .returned (.tuple #[.slice (some ⟨b, 0, none⟩) (wl ds.reverse).length (wl ds.reverse).length, .int .i64 0]) ∧ Blk w' b (wl ds.reverse) ∧ w.heap.size ≤ b ∧ Below w.heap.size w w' := by
  have hb := wn_false n h1 h2
  obtain ⟨ba, oa, rfl, -⟩ := h.cells (by omega)
  have hw : (toI ds).any wsB = false := by
    rw [List.any_eq_false]
    intro x hx
    simp only [toI, List.mem_map] at hx
    obtain ⟨d, hd, rfl⟩ := hx
    have := h3 d hd
    unfold wsB
    simp
    omega
  have HH := hide h
  have HD := hide h3
  clear h h3
  go_enter Try.func8, Try.ntmps8
  go_wp2_with (go_at_call 21; refine (wrongNumber_any _ _).mono ?_; rintro e w' ⟨rfl, hw'⟩; subst w')
  refine (contains_ws ba oa n c (toI ds) w HH.out (by omega)).mono ?_
  rintro e w1 ⟨rfl, q, rfl⟩
  have HR := hide (HH.out.mono (drewN_below _ w q))
  go_wp2_with fail
  refine (ways_any _ n c ds _ HR.out h2 HD.out).mono ?_
  rintro e w2 ⟨b, rfl, hT, hbb, hB⟩
  have HT := hide hT
  have HB := hide ((drewN_below w.heap.size w q).trans (hB.mono (drewN_below w.heap.size w q).size))
  have HS : Hid (w.heap.size ≤ b) := hide (Nat.le_trans (drewN_below w.heap.size w q).size hbb)
  clear hT hB hbb
  go_wp2_with fail
  go_ret2
  exact ⟨b, rfl, HT.out, HS.out, HB.out⟩

theorem may_cases (zs : List Int) : mayE zs ≠ 0 ∧ ((zs.length < 1 ∨ 10 < zs.length) ∧ mayE zs = 2 ∨ (1 ≤ zs.length ∧ zs.length ≤ 10) ∧ zs.any wsB = true ∧ mayE zs = 3) ∨ mayE zs = 0 ∧ (1 ≤ zs.length ∧ zs.length ≤ 10) ∧ zs.any wsB = false := by
  unfold mayE
  by_cases h : zs.length < 1 ∨ 10 < zs.length
  · rw [if_pos h]; exact Or.inl ⟨by decide, Or.inl ⟨h, rfl⟩⟩
  · rw [if_neg h]
    cases hw : zs.any wsB with
    | true => exact Or.inl ⟨by decide, Or.inr ⟨by omega, rfl, rfl⟩⟩
    | false => exact Or.inr ⟨rfl, by omega, rfl⟩

theorem Sums_no (a : Option Addr) (n c : Nat) (zs : List Int) (w : World) (h : Rd w a n c zs) (hm : mayE zs ≠ 0) :
    Calls Try.prog 8 #[.slice a n c] w fun e w' => e = .returned (.tuple #[.slice none 0 0, .int .i64 (mayE zs)]) ∧ Below w.heap.size w w' := by
  rcases may_cases zs with ⟨-, ⟨h1, h2⟩ | ⟨h1, h2, h3⟩⟩ | ⟨h1, -⟩
  · rw [h2]
    refine (Sums_no2 a n c w (by rw [h.len] at h1; exact h1)).mono fun e w' ⟨he, hw⟩ => ⟨he, hw ▸ Below.refl _ _⟩
  · rw [h3]
    rw [h.len] at h1
    refine (Sums_no3 a n c zs w h h1.1 h1.2 h2).mono fun e w' ⟨he, q, hw⟩ => ⟨he, hw ▸ drewN_below _ _ _⟩
  · exact absurd h1 hm

end Go.Proofs.Ytonmgbepkdlklaa
