/-
  What bridge.Trick and bridge.May answer. No conditions beyond those that each theorem bears.
-/
import Derived.Test.YtiihnlpoagnkhaaAllow
namespace Go.Proofs.Ytiihnlpoagnkhaa
open Go.RowKit Go.Shelf

theorem contains_any (a : Option Addr) (n c : Nat) (zs : List Int) (x : Int) (w : World) (h : Rd w a n c zs) :
    Calls Try.prog 24 #[.slice a n c, .int .i64 x] w fun e w' => e = .returned (.bool (zs.contains x)) ∧ w' = w := by
  by_cases h0 : n = 0
  · subst h0
    have hz : zs = [] := List.eq_nil_of_length_eq_zero h.len
    subst hz
    exact Try.slices_Contains_int_empty a c x w
  · obtain ⟨b, off, rfl, hc⟩ := h.cells (by omega)
    have hm := h.max
    have hcp := h.cap
    unfold maxLen at hm
    have := Try.slices_Contains_int b off n c zs x w (by rw [h.len]; exact Nat.le_refl _) (by omega) (fun j hj => hc j (by rw [← h.len]; exact hj))
    rwa [List.take_of_length_le (by rw [h.len]; exact Nat.le_refl _)] at this

/-- What Trick answers. -/
def trkOut (n : Nat) (zs : List Int) (s : Int) : Int × Int :=
  if n ≠ 4 then (0, 11) else if mayE zs ≠ 0 then (0, mayE zs) else if 0 ≤ s ∧ s < 5 then ((wn (natL zs) s 4 : Nat), 0) else (0, 4)

set_option maxHeartbeats 1000000 in
theorem Trick_any (a : Option Addr) (n c : Nat) (zs : List Int) (s : Int) (w : World) (h : Rd w a n c zs) :
    Calls Try.prog 7 #[.slice a n c, .int .i64 s] w fun e w' => e = .returned (.tuple #[.int .i64 (trkOut n zs s).1, .int .i64 (trkOut n zs s).2]) ∧ Below w.heap.size w w' := by
  by_cases h4 : n = 4
  · subst h4
    have CA := hide (cards_any a 4 c zs w h (by omega))
    by_cases hm : mayE zs = 0
    · rw [hm] at CA
      have IS := hide (isStrain_any s)
      by_cases hs : 0 ≤ s ∧ s < 5
      · rw [decide_eq_true hs] at IS
        obtain ⟨hlt, hnd⟩ := mayE_zero hm
        have hti := toI_natL hlt
        have HT : Hid (trkOut 4 zs s = (((wn (natL zs) s 4 : Nat) : Int), 0)) := hide (by simp [trkOut, hm, hs])
        have WI := hide (fun W (hW : Rd W a 4 c zs) => winner_any a 4 c (natL zs) s (by omega) W (by rw [hti]; exact hW))
        have HH := hide h
        clear h hm hlt hti hnd hs
        rw [HT.out]
        generalize wn (natL zs) s 4 = x at *
        clear HT
        go_enter Try.func7, Try.ntmps7
        go_wp2_with fail
        refine CA.out.mono ?_
        rintro e w1 ⟨rfl, hB1⟩
        have HB1 := hide hB1
        clear hB1
        go_wp2_with fail
        refine (IS.out _).mono ?_
        rintro e w2 ⟨rfl, hw⟩
        subst w2
        go_wp2_with fail
        refine (WI.out _ (HH.out.mono HB1.out)).mono ?_
        rintro e w2 ⟨rfl, hw⟩
        subst w2
        go_wp2
        go_ret2
        exact ⟨rfl, HB1.out⟩
      · rw [decide_eq_false hs] at IS
        have HT : Hid (trkOut 4 zs s = (0, 4)) := hide (by simp only [trkOut, hm]; rw [if_neg (by omega), if_neg (by omega), if_neg hs])
        clear h hm hs
        rw [HT.out]
        clear HT
        go_enter Try.func7, Try.ntmps7
        go_wp2_with fail
        refine CA.out.mono ?_
        rintro e w1 ⟨rfl, hB1⟩
        have HB1 := hide hB1
        clear hB1
        go_wp2_with fail
        refine (IS.out _).mono ?_
        rintro e w2 ⟨rfl, hw⟩
        subst w2
        go_wp2
        go_ret2
        exact ⟨rfl, HB1.out⟩
    · have HT : Hid (trkOut 4 zs s = (0, mayE zs)) := hide (by simp [trkOut, hm])
      rw [HT.out]
      obtain ⟨x, hx⟩ : ∃ x, mayE zs = x := ⟨_, rfl⟩
      rw [hx] at CA hm ⊢
      have bx : (x != 0) = true := by simpa using hm
      clear h hm hx HT
      go_enter Try.func7, Try.ntmps7
      go_wp2_with fail
      refine CA.out.mono ?_
      rintro e w1 ⟨rfl, hB1⟩
      have HB1 := hide hB1
      clear hB1
      go_wp2
      go_ret2
      exact ⟨rfl, HB1.out⟩
  · have HT : Hid (trkOut n zs s = (0, 11)) := hide (by simp [trkOut, h4])
    rw [HT.out]
    have b4 : ((n : Int) != 4) = true := by simp; omega
    clear h HT
    go_enter Try.func7, Try.ntmps7
    go_wp2
    go_ret2
    exact ⟨rfl, Below.refl _ _⟩

/-- May a card be put down? -/
def pmB (L : List Nat) (led : Int) (card : Nat) : Bool := decide (led < 0) || (!hasB L led.toNat || decide (card % 4 = led.toNat % 4))

theorem pm_allow (L : List Nat) (led : Int) (hl : -1 ≤ led) (card : Nat) (hc : card ∈ L) : (toI (allowL L led)).contains (card : Int) = pmB L led card := by
  have hmem : ∀ M : List Nat, (toI M).contains (card : Int) = decide (card ∈ M) := by
    intro M
    induction M with
    | nil => rfl
    | cons x M ih =>
      have : toI (x :: M) = (x : Int) :: toI M := rfl
      rw [this, List.contains_cons, ih]
      by_cases e : card = x
      · subst e; simp
      · have : ((card : Int) == (x : Int)) = false := by simp; omega
        rw [this]; simp [e]
  rw [hmem]
  unfold allowL pmB
  by_cases h1 : led = -1
  · rw [if_pos h1, h1]; simp [hc]
  · rw [if_neg h1, decide_eq_false (show ¬ led < 0 by omega), Bool.false_or]
    by_cases he : followL L led.toNat = []
    · rw [if_pos he]
      have : hasB L led.toNat = false := by
        cases hb : hasB L led.toNat with
        | false => rfl
        | true =>
          obtain ⟨x, hx, hx4⟩ := (hasB_iff L _).1 hb
          have := (mem_follow L led.toNat x).2 ⟨hx, hx4⟩
          rw [he] at this
          simp at this
      rw [this]; simp [hc]
    · rw [if_neg he]
      have : hasB L led.toNat = true := by
        obtain ⟨x, hx⟩ := List.exists_mem_of_ne_nil _ he
        have := (mem_follow L led.toNat x).1 hx
        exact (hasB_iff L _).2 ⟨x, this.1, this.2⟩
      rw [this]
      simp [mem_follow, hc]

/-- What May answers. -/
def mayOut (zs : List Int) (led card : Int) : Bool × Int :=
  if ¬ (0 ≤ card ∧ card < 52) ∨ (led ≠ -1 ∧ ¬ (0 ≤ led ∧ led < 52)) then (false, 3) else if mayE zs ≠ 0 then (false, mayE zs) else if zs.contains card = true then (pmB (natL zs) led card.toNat, 0) else (false, 5)

set_option maxRecDepth 100000 in
set_option maxHeartbeats 4000000 in
theorem May_any (a : Option Addr) (n c : Nat) (zs : List Int) (led card : Int) (hr : n * 8 ≤ 140737488351232) (w : World) (h : Rd w a n c zs) :
    Calls Try.prog 9 #[.slice a n c, .int .i64 led, .int .i64 card] w fun e w' => e = .returned (.tuple #[.bool (mayOut zs led card).1, .int .i64 (mayOut zs led card).2]) ∧ Below w.heap.size w w' := by
  have I1 := hide (Is_any card)
  have I2 := hide (Is_any led)
  have CA := hide (cards_any a n c zs w h (by omega))
  have HH := hide h
  by_cases hc : 0 ≤ card ∧ card < 52
  rotate_left
  · rw [decide_eq_false hc] at I1
    have HT : Hid (mayOut zs led card = (false, 3)) := hide (by simp only [mayOut]; rw [if_pos (Or.inl hc)])
    rw [HT.out]
    clear h HT hc
    go_enter Try.func9, Try.ntmps9
    go_wp2_with fail
    refine (I1.out _).mono ?_
    rintro e w2 ⟨rfl, hw⟩
    subst w2
    go_wp2
    go_ret2
    exact ⟨rfl, Below.refl _ _⟩
  rw [decide_eq_true hc] at I1
  have main : ∀ (hled : led = -1 ∨ (0 ≤ led ∧ led < 52)), Calls Try.prog 9 #[.slice a n c, .int .i64 led, .int .i64 card] w fun e w' => e = .returned (.tuple #[.bool (mayOut zs led card).1, .int .i64 (mayOut zs led card).2]) ∧ Below w.heap.size w w' := by
    intro hled
    have hcond : ¬ (¬ (0 ≤ card ∧ card < 52) ∨ (led ≠ -1 ∧ ¬ (0 ≤ led ∧ led < 52))) := by omega
    have hI2 : led ≠ -1 → decide (0 ≤ led ∧ led < 52) = true := fun hne => decide_eq_true (by omega)
    by_cases hm : mayE zs = 0
    · rw [hm] at CA
      obtain ⟨hlt, hnd⟩ := mayE_zero hm
      have hti := toI_natL hlt
      have CO := hide (fun W (hW : Rd W a n c zs) => contains_any a n c zs card W hW)
      cases hco : zs.contains card with
      | false =>
        rw [hco] at CO
        have HT : Hid (mayOut zs led card = (false, 5)) := hide (by simp only [mayOut]; rw [if_neg hcond, if_neg (by omega), if_neg (by rw [hco]; simp)])
        rw [HT.out]
        by_cases hl1 : led = -1
        · subst hl1
          clear h HT hm hcond hco hlt hti hnd hI2
          go_enter Try.func9, Try.ntmps9
          go_wp2_with fail
          refine (I1.out _).mono ?_
          rintro e w2 ⟨rfl, hw⟩
          subst w2
          go_wp2_with fail
          refine CA.out.mono ?_
          rintro e w1 ⟨rfl, hB1⟩
          have HB1 := hide hB1
          clear hB1
          go_wp2_with fail
          refine (CO.out _ (HH.out.mono HB1.out)).mono ?_
          rintro e w2 ⟨rfl, hw⟩
          subst w2
          go_wp2
          go_ret2
          exact ⟨rfl, HB1.out⟩
        · rw [hI2 hl1] at I2
          have nl : (led != -1) = true := by simpa using hl1
          clear h HT hm hcond hco hlt hti hnd hI2 hl1
          go_enter Try.func9, Try.ntmps9
          go_wp2_with fail
          refine (I1.out _).mono ?_
          rintro e w2 ⟨rfl, hw⟩
          subst w2
          go_wp2_with fail
          refine (I2.out _).mono ?_
          rintro e w2 ⟨rfl, hw⟩
          subst w2
          go_wp2_with fail
          refine CA.out.mono ?_
          rintro e w1 ⟨rfl, hB1⟩
          have HB1 := hide hB1
          clear hB1
          go_wp2_with fail
          refine (CO.out _ (HH.out.mono HB1.out)).mono ?_
          rintro e w2 ⟨rfl, hw⟩
          subst w2
          go_wp2
          go_ret2
          exact ⟨rfl, HB1.out⟩
      | true =>
        rw [hco] at CO
        have HT : Hid (mayOut zs led card = (pmB (natL zs) led card.toNat, 0)) := hide (by simp only [mayOut]; rw [if_neg hcond, if_neg (by omega), if_pos hco])
        rw [HT.out]
        have hcm : card.toNat ∈ natL zs := by
          have : card ∈ zs := by simpa using hco
          exact List.mem_map.2 ⟨card, this, rfl⟩
        have h0 : 0 < n := by
          have : card ∈ zs := by simpa using hco
          have := List.length_pos_of_mem this
          rw [h.len] at this
          exact this
        have AL := hide (fun W (hW : Rd W a n c zs) => allowed_any a n c (natL zs) led (by omega) h0 hr W (by rw [hti]; exact hW))
        have PA := hide (pm_allow (natL zs) led (by omega) card.toNat hcm)
        rw [show ((card.toNat : Nat) : Int) = card by omega] at PA
        generalize allowL (natL zs) led = A at *
        generalize pmB (natL zs) led card.toNat = P at *
        have C2 := hide (fun a' c' W (hW : Rd W a' A.length c' (toI A)) => contains_any a' A.length c' (toI A) card W hW)
        rw [PA.out] at C2
        clear PA
        by_cases hl1 : led = -1
        · subst hl1
          clear h HT hm hcond hco hlt hti hnd hI2 hcm
          go_enter Try.func9, Try.ntmps9
          go_wp2_with fail
          refine (I1.out _).mono ?_
          rintro e w2 ⟨rfl, hw⟩
          subst w2
          go_wp2_with fail
          refine CA.out.mono ?_
          rintro e w1 ⟨rfl, hB1⟩
          have HB1 := hide hB1
          clear hB1
          go_wp2_with fail
          refine (CO.out _ (HH.out.mono HB1.out)).mono ?_
          rintro e w2 ⟨rfl, hw⟩
          subst w2
          go_wp2_with fail
          refine (AL.out _ (HH.out.mono HB1.out)).mono ?_
          rintro e w3 ⟨a', c', rfl, hR3, hB3⟩
          have HB3 := hide (HB1.out.trans (hB3.mono HB1.out.size))
          have HR3 := hide hR3
          clear hB3 hR3
          go_wp2_with fail
          refine (C2.out _ _ _ HR3.out).mono ?_
          rintro e w2 ⟨rfl, hw⟩
          subst w2
          go_wp2
          go_ret2
          exact ⟨rfl, HB3.out⟩
        · rw [hI2 hl1] at I2
          have nl : (led != -1) = true := by simpa using hl1
          clear h HT hm hcond hco hlt hti hnd hI2 hl1 hcm
          go_enter Try.func9, Try.ntmps9
          go_wp2_with fail
          refine (I1.out _).mono ?_
          rintro e w2 ⟨rfl, hw⟩
          subst w2
          go_wp2_with fail
          refine (I2.out _).mono ?_
          rintro e w2 ⟨rfl, hw⟩
          subst w2
          go_wp2_with fail
          refine CA.out.mono ?_
          rintro e w1 ⟨rfl, hB1⟩
          have HB1 := hide hB1
          clear hB1
          go_wp2_with fail
          refine (CO.out _ (HH.out.mono HB1.out)).mono ?_
          rintro e w2 ⟨rfl, hw⟩
          subst w2
          go_wp2_with fail
          refine (AL.out _ (HH.out.mono HB1.out)).mono ?_
          rintro e w3 ⟨a', c', rfl, hR3, hB3⟩
          have HB3 := hide (HB1.out.trans (hB3.mono HB1.out.size))
          have HR3 := hide hR3
          clear hB3 hR3
          go_wp2_with fail
          refine (C2.out _ _ _ HR3.out).mono ?_
          rintro e w2 ⟨rfl, hw⟩
          subst w2
          go_wp2
          go_ret2
          exact ⟨rfl, HB3.out⟩
    · have HT : Hid (mayOut zs led card = (false, mayE zs)) := hide (by simp only [mayOut]; rw [if_neg hcond, if_pos hm])
      rw [HT.out]
      obtain ⟨x, hx⟩ : ∃ x, mayE zs = x := ⟨_, rfl⟩
      rw [hx] at CA hm ⊢
      have bx : (x != 0) = true := by simpa using hm
      by_cases hl1 : led = -1
      · subst hl1
        clear h HT hm hx hcond hI2
        go_enter Try.func9, Try.ntmps9
        go_wp2_with fail
        refine (I1.out _).mono ?_
        rintro e w2 ⟨rfl, hw⟩
        subst w2
        go_wp2_with fail
        refine CA.out.mono ?_
        rintro e w1 ⟨rfl, hB1⟩
        have HB1 := hide hB1
        clear hB1
        go_wp2
        go_ret2
        exact ⟨rfl, HB1.out⟩
      · rw [hI2 hl1] at I2
        have nl : (led != -1) = true := by simpa using hl1
        clear h HT hm hx hcond hI2 hl1
        go_enter Try.func9, Try.ntmps9
        go_wp2_with fail
        refine (I1.out _).mono ?_
        rintro e w2 ⟨rfl, hw⟩
        subst w2
        go_wp2_with fail
        refine (I2.out _).mono ?_
        rintro e w2 ⟨rfl, hw⟩
        subst w2
        go_wp2_with fail
        refine CA.out.mono ?_
        rintro e w1 ⟨rfl, hB1⟩
        have HB1 := hide hB1
        clear hB1
        go_wp2
        go_ret2
        exact ⟨rfl, HB1.out⟩
  by_cases hl1 : led = -1
  · exact main (Or.inl hl1)
  · by_cases hl : 0 ≤ led ∧ led < 52
    · exact main (Or.inr hl)
    · rw [decide_eq_false hl] at I2
      have HT : Hid (mayOut zs led card = (false, 3)) := hide (by simp only [mayOut]; rw [if_pos (Or.inr ⟨hl1, hl⟩)])
      rw [HT.out]
      have nl : (led != -1) = true := by simpa using hl1
      clear h HT hl hl1 main
      go_enter Try.func9, Try.ntmps9
      go_wp2_with fail
      refine (I1.out _).mono ?_
      rintro e w2 ⟨rfl, hw⟩
      subst w2
      go_wp2_with fail
      refine (I2.out _).mono ?_
      rintro e w2 ⟨rfl, hw⟩
      subst w2
      go_wp2
      go_ret2
      exact ⟨rfl, Below.refl _ _⟩

end Go.Proofs.Ytiihnlpoagnkhaa
