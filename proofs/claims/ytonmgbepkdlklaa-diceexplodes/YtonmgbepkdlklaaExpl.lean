/-
  dice.Exploding: what is asked of a throw; what is refused. No conditions beyond those that each theorem bears.
-/
import Derived.Test.YtonmgbepkdlklaaKeepY
namespace Go.Proofs.Ytonmgbepkdlklaa
open Go.RowKit Go.Lib

/-- Fewer pips than there are sides. -/
def ltB (s : Nat) (x : Int) : Bool := decide (x < (s : Int))

def exF (s : Nat) (L : List Nat) : Int := (exS s L : Nat)

/-- How many are added. -/
def exN (s : Nat) : List Nat → Nat
  | [] => 0
  | x :: t => if x < s then 1 else exN s t + 1

theorem exS_take (s : Nat) (L : List Nat) : exS s L = (L.take (exN s L)).sum := by
  induction L with
  | nil => rfl
  | cons x t ih =>
    rw [exS, exN]
    by_cases h : x < s
    · rw [if_pos h, if_pos h]; simp
    · rw [if_neg h, if_neg h, List.take_succ_cons, List.sum_cons, ih]

theorem exN_le (s : Nat) (L : List Nat) : exN s L ≤ L.length := by
  induction L with
  | nil => simp [exN]
  | cons x t ih => rw [exN, List.length_cons]; split <;> omega

theorem exN_from (s : Nat) : ∀ (L : List Nat) (i : Nat), (Lib.idxByFrom (fun _ y => ltB s y) 0 (toI L) i = -1 ∧ exN s L = L.length) ∨ (∃ j : Nat, Lib.idxByFrom (fun _ y => ltB s y) 0 (toI L) i = ((i + j : Nat) : Int) ∧ j < L.length ∧ exN s L = j + 1) := by
  intro L
  induction L with
  | nil => intro i; exact Or.inl ⟨rfl, rfl⟩
  | cons x t ih =>
    intro i
    rw [exN]
    show (Lib.idxByFrom _ _ ((x : Int) :: toI t) i = -1 ∧ _) ∨ (∃ j : Nat, Lib.idxByFrom _ _ ((x : Int) :: toI t) i = _ ∧ _)
    rw [Lib.idxByFrom]
    by_cases h : x < s
    · have hb : ltB s (x : Int) = true := by unfold ltB; rw [decide_eq_true_iff]; omega
      rw [if_pos h, if_pos hb]
      exact Or.inr ⟨0, rfl, by simp, rfl⟩
    · have hb : ¬ ltB s (x : Int) = true := by unfold ltB; rw [decide_eq_true_iff]; omega
      rw [if_neg h, if_neg hb]
      rcases ih (i + 1) with ⟨h1, h2⟩ | ⟨j, h1, h2, h3⟩
      · exact Or.inl ⟨h1, by rw [h2]; rfl⟩
      · exact Or.inr ⟨j + 1, by rw [h1]; omega, by simpa using h2, by rw [h3]⟩

theorem exN_idx (s : Nat) (L : List Nat) : (Lib.idxBy (fun _ y => ltB s y) (toI L) 0 = -1 ∧ exN s L = L.length) ∨ (∃ i : Nat, Lib.idxBy (fun _ y => ltB s y) (toI L) 0 = (i : Int) ∧ i < L.length ∧ exN s L = i + 1) := by
  rcases exN_from s L 0 with ⟨h1, h2⟩ | ⟨j, h1, h2, h3⟩
  · exact Or.inl ⟨h1, h2⟩
  · refine Or.inr ⟨j, ?_, h2, h3⟩
    rw [Nat.zero_add] at h1
    exact h1

theorem exS_between (s : Nat) (L : List Nat) (hl : 1 ≤ L.length) (h : ∀ x ∈ L, 1 ≤ x ∧ x ≤ s) : 1 ≤ exS s L ∧ exS s L ≤ s * L.length := by
  have h0 : ∀ L : List Nat, (∀ x ∈ L, 1 ≤ x ∧ x ≤ s) → exS s L ≤ s * L.length := by
    intro L
    induction L with
    | nil => intro _; simp [exS]
    | cons x t ih =>
      intro h
      have h1 := h x (by simp)
      have h2 := ih (fun y hy => h y (by simp [hy]))
      rw [exS, List.length_cons, Nat.mul_succ]
      split <;> omega
  refine ⟨?_, h0 L h⟩
  cases L with
  | nil => simp at hl
  | cons x t =>
    have h1 := h x (by simp)
    rw [exS]
    split <;> omega

set_option maxHeartbeats 400000 in
theorem expl11_any (ps s : Nat) (x : Int) (W : World) (hps : W.cell? ⟨ps, 0, none⟩ = some (.int .i64 s)) :
    Calls Try.prog 38 #[.int .i64 x, .pointer (some ⟨ps, 0, none⟩)] W fun e W' => e = .returned (.bool (ltB s x)) ∧ W' = W := by
  have HV : Hid (ltB s x = decide (x < (s : Int))) := hide rfl
  go_enter Try.func38, Try.ntmps38
  go_wp2
  go_ret
  exact ⟨ret_bool HV.out.symm, rfl⟩

set_option maxRecDepth 100000 in
set_option maxHeartbeats 2000000 in
theorem expl1_any (ps SB n s : Nat) (L : List Nat) (W : World) (hps : W.cell? ⟨ps, 0, none⟩ = some (.int .i64 s)) (hL : Blk W SB L) (hl : L.length = n) (hn1 : 1 ≤ n) (hn : n ≤ 10) (hb : ∀ x ∈ L, x ≤ 20) :
    Calls Try.prog 36 #[.slice (some ⟨SB, 0, none⟩) n n, .pointer (some ⟨ps, 0, none⟩)] W fun e W' => e = .returned (.int .i64 (exF s L)) ∧ Below W.heap.size W W' := by
  have HI := Try.slices_IndexFunc (Value.int .i64) (ltB s) 38 #[.pointer (some ⟨ps, 0, none⟩)] (enters_of Try.func38 (by kernel_rfl) rfl) SB 0 n n (toI L) W
    (fun W' x hW => (expl11_any ps s x W' ((hW.cell (World.block_lt_of_cell? _ _ hps)).trans hps)).mono fun e w' ⟨he, hw⟩ => ⟨he, 0, hw⟩) (by rw [toI_length, hl]; exact Nat.le_refl _) (by omega)
    (fun j hj => by
      have hj' := hj
      rw [toI_length] at hj'
      rw [Nat.zero_add, hL.cell hj', ← toI_getD]
      simp [List.getD, hj])
  rw [List.take_of_length_le (by rw [toI_length, hl]; exact Nat.le_refl _)] at HI
  obtain ⟨V, hV⟩ : ∃ V, exF s L = V := ⟨_, rfl⟩
  rw [hV]
  have hRd := hL.rd (by rw [hl]; unfold maxLen; omega)
  rw [hl] at hRd
  have HR := hide hRd
  have HB := hide hb
  have HV := hide hV
  have HL := hide hl
  rcases exN_idx s L with ⟨hx, hN⟩ | ⟨i, hx, hil, hN⟩
  · have hx' : Lib.idxBy (fun _ y => ltB s y) (toI L) default = -1 := hx
    rw [hx'] at HI
    have HI' := hide HI
    have HS : Hid ((L.sum : Int) = V) := hide (by rw [← hV, exF, exS_take, hN, List.take_of_length_le (Nat.le_refl _)])
    clear HI hx hx' hN hV hRd hl hb hL hps
    go_enter Try.func36, Try.ntmps36
    go_wp2_with fail
    refine HI'.out.mono ?_
    rintro e w1 ⟨rfl, q, hw1⟩
    subst w1
    go_wp2_with fail
    refine (sum_any _ _ _ L _ (HR.out.mono (drewN_below _ _ _)) (by omega) (fun x hx => Nat.le_trans (HB.out x hx) (by omega))).mono ?_
    rintro e w2 ⟨rfl, hw2⟩
    subst w2
    go_wp2_with fail
    go_ret
    exact ⟨ret_int HS.out, drewN_below _ _ _⟩
  · have hx' : Lib.idxBy (fun _ y => ltB s y) (toI L) default = (i : Int) := hx
    rw [hx'] at HI
    have HI' := hide HI
    have HS : Hid (((L.take (i + 1)).sum : Int) = V) := hide (by rw [← hV, exF, exS_take, hN])
    have hRd2 := hRd.upto (k := i + 1) (by omega)
    rw [show (toI L).take (i + 1) = toI (L.take (i + 1)) by rw [toI, toI, List.map_take]] at hRd2
    obtain ⟨I, hI⟩ : ∃ I, i + 1 = I := ⟨_, rfl⟩
    have hIe : (i : Int) + 1 = (I : Int) := by omega
    have hIn : (I : Int) ≤ (n : Int) := by omega
    rw [hI] at HS hRd2
    have HR2 := hide hRd2
    have hI0 : ¬ (i : Int) < 0 := by omega
    clear HI hx hx' hN hV hRd hl hb hL hps hRd2
    go_enter Try.func36, Try.ntmps36
    go_wp2_with fail
    refine HI'.out.mono ?_
    rintro e w1 ⟨rfl, q, hw1⟩
    subst w1
    go_wp2_with fail
    refine (sum_any _ _ _ (L.take I) _ (HR2.out.mono (drewN_below _ _ _)) (by omega) (fun x hx => Nat.le_trans (HB.out x (List.mem_of_mem_take hx)) (by omega))).mono ?_
    rintro e w2 ⟨rfl, hw2⟩
    subst w2
    go_wp2_with fail
    go_ret
    exact ⟨ret_int HS.out, drewN_below _ _ _⟩

/-- What is wrong with dice that are thrown again. -/
def exE (S D : Int) : Int := if S < 1 ∨ 20 < S then 3 else if D < 0 ∨ 4 < D ∨ 100000 < S.toNat ^ (D.toNat + 1) then 11 else 0

set_option maxHeartbeats 2000000 in
theorem Exploding_no (S D : Int) (w : World) (h : exE S D ≠ 0) :
    Calls Try.prog 17 #[.int .i64 S, .int .i64 D] w fun e w' => e = .returned (.tuple #[.slice none 0 0, .int .i64 (exE S D)]) ∧ Below w.heap.size w w' := by
  have HB := hide ((Below.refl w.heap.size w).alloc (Nat.le_refl _) (.cells #[.int .i64 S] 3))
  unfold exE at h ⊢
  by_cases h2 : S < 1 ∨ 20 < S
  · rw [if_pos h2]
    have e2 : wsB S = true := by unfold wsB; rw [decide_eq_true_iff]; exact h2
    clear h h2
    go_enter Try.func17, Try.ntmps17
    go_wp2_with (go_at_call 23; refine (wrongSides_any _ _).mono ?_; rintro e w' ⟨rfl, hw'⟩; subst w')
    go_ret2
    exact ⟨rfl, HB.out⟩
  · rw [if_neg h2] at h ⊢
    have e2 : wsB S = false := by unfold wsB; rw [decide_eq_false_iff_not]; exact h2
    have h3 : D < 0 ∨ 4 < D ∨ 100000 < S.toNat ^ (D.toNat + 1) := by
      by_cases h3 : D < 0 ∨ 4 < D ∨ 100000 < S.toNat ^ (D.toNat + 1)
      · exact h3
      · rw [if_neg h3] at h; exact absurd rfl h
    rw [if_pos h3]
    obtain ⟨s, rfl⟩ : ∃ s : Nat, S = s := ⟨S.toNat, by omega⟩
    simp only [Int.toNat_natCast] at h3
    have hs : s ≤ 20 := by omega
    clear h
    by_cases d1 : D < 0
    · clear h3 h2
      go_enter Try.func17, Try.ntmps17
      go_wp2_with (go_at_call 23; refine (wrongSides_any _ _).mono ?_; rintro e w' ⟨rfl, hw'⟩; subst w')
      go_ret2
      exact ⟨rfl, HB.out⟩
    · have d1' : decide (D < 0) = false := by simpa using d1
      by_cases d2 : 4 < D
      · clear h3 h2
        go_enter Try.func17, Try.ntmps17
        go_wp2_with (go_at_call 23; refine (wrongSides_any _ _).mono ?_; rintro e w' ⟨rfl, hw'⟩; subst w')
        go_ret2
        exact ⟨rfl, HB.out⟩
      · have d2' : decide (4 < D) = false := by simpa using d2
        obtain ⟨n, hn⟩ : ∃ n : Nat, D + 1 = n := ⟨(D + 1).toNat, by omega⟩
        have hn10 : n ≤ 10 := by omega
        have h4 : 100000 < s ^ n := by
          rcases h3 with h | h | h
          · exact absurd h d1
          · exact absurd h d2
          · rw [show D.toNat + 1 = n by omega] at h; exact h
        have e4 : tmB n s = true := by unfold tmB; rw [decide_eq_true_iff]; exact h4
        clear h3 h2 h4
        go_enter Try.func17, Try.ntmps17
        go_wp2_with (first | (go_at_call 23; refine (wrongSides_any _ _).mono ?_; rintro e w' ⟨rfl, hw'⟩; subst w') | (go_at_call 29; refine (tooManyWays_any n s _ hn10 hs).mono ?_; rintro e w' ⟨rfl, hw'⟩; subst w'))
        go_ret2
        exact ⟨rfl, HB.out⟩

end Go.Proofs.Ytonmgbepkdlklaa
