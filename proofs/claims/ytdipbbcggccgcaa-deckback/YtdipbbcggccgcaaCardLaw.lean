/-
  'gameroomlaw.DeckCards' returns true for every card and text, and changes nothing that was there.
-/
import Derived.Test.YtdipbbcggccgcaaTells
namespace Go.Proofs.Ytdipbbcggccgcaa
open Go.RowKit

/-- What Read answers, by what is read of the runes. -/
def rdVal (r : Int) : Value := if r < 0 then .tuple #[.int .i64 0, .int .i64 1] else .tuple #[.int .i64 r, .int .i64 0]

theorem rdVal_of (V S : Int) : readVal V S = rdVal (if V < 0 ∨ S < 0 then -1 else V * 4 + S) := by
  unfold readVal rdVal
  by_cases h : V < 0 ∨ S < 0
  · rw [if_pos h, if_pos h]; rfl
  · rw [if_neg h, if_neg h, if_neg (by omega)]

theorem readR_ten (x : Int) : readR [49, 48, x] = if plc ranksL 84 0 < 0 ∨ suF x < 0 then -1 else plc ranksL 84 0 * 4 + suF x := by
  unfold readR
  exact if_pos ⟨rfl, rfl⟩

theorem Read_any (s : ByteArray) (w : World) :
    Calls Try.prog 10 #[.string s] w fun e w' => e = .returned (rdVal (readR ((runesOf s).take 4))) ∧ Below w.heap.size w w' := by
  obtain ⟨R4, hR⟩ : ∃ R4, R4 = (runesOf s).take 4 := ⟨_, rfl⟩
  have bad : (∀ y x, R4 ≠ [y, x]) → (∀ x, R4 ≠ [49, 48, x]) → readR R4 = -1 → Calls Try.prog 10 #[.string s] w fun e w' => e = .returned (rdVal (readR R4)) ∧ Below w.heap.size w w' := fun h1 h2 h3 => by
    refine (Read_bad s w (by rw [← hR]; exact h1) (by rw [← hR]; exact h2)).mono fun e w' ⟨he, hb⟩ => ⟨?_, hb⟩
    rw [he, h3]; rfl
  rw [← hR]
  match R4, hR, bad with
  | [], _, bad => exact bad (by simp) (by simp) rfl
  | [_], _, bad => exact bad (by simp) (by simp) rfl
  | [y, x], hR, _ =>
    refine (Read_two s y x w hR.symm).mono fun e w' ⟨he, hb⟩ => ⟨?_, hb⟩
    rw [he, rdVal_of]; rfl
  | [a, b, x], hR, bad =>
    by_cases hab : a = 49 ∧ b = 48
    · obtain ⟨rfl, rfl⟩ := hab
      refine (Read_ten s x w hR.symm).mono fun e w' ⟨he, hb⟩ => ⟨?_, hb⟩
      rw [he, rdVal_of, readR_ten]
    · refine bad (by simp) (fun z e => hab ?_) (by simp only [readR]; rw [if_neg hab])
      simp only [List.cons.injEq, and_true] at e
      exact ⟨e.1, e.2.1⟩
  | _ :: _ :: _ :: _ :: _, _, bad => exact bad (by simp) (by simp) rfl

theorem below_call {w a b : World} (h : Below w.heap.size w a) (k : Below a.heap.size a b) : Below w.heap.size w b := h.trans (k.mono h.size)

theorem rdVal_no {r : Int} (h : r < 0) : rdVal r = .tuple #[.int .i64 0, .int .i64 1] := by unfold rdVal; rw [if_pos h]
theorem rdVal_yes {r : Int} (h : ¬ r < 0) : rdVal r = .tuple #[.int .i64 r, .int .i64 0] := by unfold rdVal; rw [if_neg h]

theorem txt_ne : ∀ c, c < 52 → ((txt c).toList != (txt c).toList) = false := fun c _ => by simp

set_option maxHeartbeats 1000000 in
theorem cards_any (card : Int) (s : ByteArray) (w : World) :
    Calls Try.prog 3 #[.int .i64 card, .string s] w fun e w' => e = .returned (.bool true) ∧ Below w.heap.size w w' := by
  have HR := hide (ref_read s)
  have HRD := hide (Read_any s)
  have hr1 : -1 ≤ readR ((runesOf s).take 4) ∧ readR ((runesOf s).take 4) < 52 := by
    rcases HR.out with ⟨c, hc, e, _⟩ | ⟨e, _⟩ <;> omega
  have HRC := hide (fun w => ReadCard_any s w _ HR.out)
  obtain ⟨hr1, hr2⟩ := hr1
  clear HR
  generalize readR ((runesOf s).take 4) = r at *
  by_cases hcard : card < 0 ∨ 51 < card
  · by_cases hc0 : card < 0
    · by_cases hr : r < 0
      · go_enter Try.func3, Try.ntmps3
        go_wp2_with fail
        refine (Show_no _ _ hcard).mono ?_
        rintro e w1 ⟨rfl, hw⟩
        subst w1
        have HB0 := hide (Below.refl w.heap.size w)
        go_wp2_with fail
        refine (HRD.out _).mono ?_
        rintro e w2 ⟨rfl, hB2⟩
        rw [rdVal_no hr]
        have HB2 := hide (below_call HB0.out hB2)
        clear hB2
        go_wp2_with fail
        refine (HRC.out _).mono ?_
        rintro e w3 ⟨rfl, hB3⟩
        have HB3 := hide (below_call HB2.out hB3)
        clear hB3
        go_wp2_with fail
        go_ret
        exact ⟨rfl, HB3.out⟩
      · go_enter Try.func3, Try.ntmps3
        go_wp2_with fail
        refine (Show_no _ _ hcard).mono ?_
        rintro e w1 ⟨rfl, hw⟩
        subst w1
        have HB0 := hide (Below.refl w.heap.size w)
        go_wp2_with fail
        refine (HRD.out _).mono ?_
        rintro e w2 ⟨rfl, hB2⟩
        rw [rdVal_yes (by omega)]
        have HB2 := hide (below_call HB0.out hB2)
        clear hB2
        go_wp2_with fail
        refine (HRC.out _).mono ?_
        rintro e w3 ⟨rfl, hB3⟩
        have HB3 := hide (below_call HB2.out hB3)
        clear hB3
        have hrr : (r == r) = true := by simp
        go_wp2_with fail
        go_ret
        exact ⟨rfl, HB3.out⟩
    · have hc1 : 51 < card := by omega
      by_cases hr : r < 0
      · go_enter Try.func3, Try.ntmps3
        go_wp2_with fail
        refine (Show_no _ _ hcard).mono ?_
        rintro e w1 ⟨rfl, hw⟩
        subst w1
        have HB0 := hide (Below.refl w.heap.size w)
        go_wp2_with fail
        refine (HRD.out _).mono ?_
        rintro e w2 ⟨rfl, hB2⟩
        rw [rdVal_no hr]
        have HB2 := hide (below_call HB0.out hB2)
        clear hB2
        go_wp2_with fail
        refine (HRC.out _).mono ?_
        rintro e w3 ⟨rfl, hB3⟩
        have HB3 := hide (below_call HB2.out hB3)
        clear hB3
        go_wp2_with fail
        go_ret
        exact ⟨rfl, HB3.out⟩
      · go_enter Try.func3, Try.ntmps3
        go_wp2_with fail
        refine (Show_no _ _ hcard).mono ?_
        rintro e w1 ⟨rfl, hw⟩
        subst w1
        have HB0 := hide (Below.refl w.heap.size w)
        go_wp2_with fail
        refine (HRD.out _).mono ?_
        rintro e w2 ⟨rfl, hB2⟩
        rw [rdVal_yes (by omega)]
        have HB2 := hide (below_call HB0.out hB2)
        clear hB2
        go_wp2_with fail
        refine (HRC.out _).mono ?_
        rintro e w3 ⟨rfl, hB3⟩
        have HB3 := hide (below_call HB2.out hB3)
        clear hB3
        have hrr : (r == r) = true := by simp
        go_wp2_with fail
        go_ret
        exact ⟨rfl, HB3.out⟩
  · obtain ⟨c, rfl⟩ := Int.eq_ofNat_of_zero_le (show 0 ≤ card by omega)
    have hc : c < 52 := by omega
    have hc1 : ¬ (51 : Int) < (c : Int) := by omega
    clear hcard
    by_cases hr : r < 0
    · go_enter Try.func3, Try.ntmps3
      go_wp2_with fail
      refine (Show_yes c _ hc).mono ?_
      rintro e w1 ⟨rfl, hB1⟩
      have HB0 := hide hB1
      clear hB1
      go_wp2_with fail
      refine (HRD.out _).mono ?_
      rintro e w2 ⟨rfl, hB2⟩
      rw [rdVal_no hr]
      have HB2 := hide (below_call HB0.out hB2)
      clear hB2
      go_wp2_with fail
      refine (CardText_any c hc _).mono ?_
      rintro e w5 ⟨rfl, hB5⟩
      replace HB2 := hide (below_call HB2.out hB5)
      clear hB5
      have htt := txt_ne c hc
      generalize txt c = T at *
      go_wp2_with fail
      refine (HRC.out _).mono ?_
      rintro e w3 ⟨rfl, hB3⟩
      have HB3 := hide (below_call HB2.out hB3)
      clear hB3
      go_wp2_with fail
      go_ret
      exact ⟨rfl, HB3.out⟩
    · go_enter Try.func3, Try.ntmps3
      go_wp2_with fail
      refine (Show_yes c _ hc).mono ?_
      rintro e w1 ⟨rfl, hB1⟩
      have HB0 := hide hB1
      clear hB1
      go_wp2_with fail
      refine (HRD.out _).mono ?_
      rintro e w2 ⟨rfl, hB2⟩
      rw [rdVal_yes (by omega)]
      have HB2 := hide (below_call HB0.out hB2)
      clear hB2
      go_wp2_with fail
      refine (CardText_any c hc _).mono ?_
      rintro e w5 ⟨rfl, hB5⟩
      replace HB2 := hide (below_call HB2.out hB5)
      clear hB5
      have htt := txt_ne c hc
      generalize txt c = T at *
      go_wp2_with fail
      refine (HRC.out _).mono ?_
      rintro e w3 ⟨rfl, hB3⟩
      have HB3 := hide (below_call HB2.out hB3)
      clear hB3
      have hrr : (r == r) = true := by simp
      go_wp2_with fail
      go_ret
      exact ⟨rfl, HB3.out⟩

end Go.Proofs.Ytdipbbcggccgcaa
