/-
  The law 'BridgeTricks': every way through it ends with true. No conditions beyond those that each theorem bears.
-/
import Derived.Test.YtiihnlpoagnkhaaTrM
namespace Go.Proofs.Ytiihnlpoagnkhaa
open Go.RowKit Go.Shelf

theorem cont_take (zs : List Int) (x : Int) (k : Nat) (hk : k < zs.length) : (zs.take (k + 1)).contains x = ((zs.take k).contains x || (zs.getD k 0 == x)) := by
  rw [List.take_succ_eq_append_getElem hk]
  rw [show (zs.take k ++ [zs[k]]).contains x = ((zs.take k).contains x || [zs[k]].contains x) by simp only [List.contains_eq_any_beq, List.any_append]]
  have : zs.getD k 0 = zs[k] := by simp [List.getD, hk]
  rw [this]
  by_cases h : zs[k] = x
  · simp [h]
  · have h' : ¬ x = zs[k] := fun e => h e.symm
    simp [h, h']

set_option maxRecDepth 100000 in
set_option maxHeartbeats 8000000 in
theorem tricks_any (a : Option Addr) (n c : Nat) (zs : List Int) (s : Int) (b : Option Addr) (m d : Nat) (ys : List Int) (led card : Int) (w : World) (h : Rd w a n c zs) (hr : n * 8 ≤ 140737488351232) (g : Rd w b m d ys) (hr2 : m * 8 ≤ 140737488351232) :
    Calls Try.prog 3 #[.slice a n c, .int .i64 s, .slice b m d, .int .i64 led, .int .i64 card] w fun e w' => e = .returned (.bool true) ∧ Below w.heap.size w w' := by
  have HH := hide h
  have HG := hide g
  have HL := hide g.len
  have hgm := g.max
  have hgc := g.cap
  unfold maxLen at hgm
  clear h g
  go_enter Try.func3, Try.ntmps3
  go_wp2_with fail
  refine (ints_any a n c zs w HH.out hr).mono ?_
  rintro e w1 ⟨a1, c1, rfl, hR1, hB1⟩
  have HR1 := hide hR1
  have HB1 := hide hB1
  clear hR1 hB1
  go_wp2_with fail
  refine (Trick_any a1 n c1 zs s w1 HR1.out).mono ?_
  rintro e w2 ⟨rfl, hB2⟩
  have HB2 := hide (HB1.out.trans (hB2.mono HB1.out.size))
  clear hB2 HB1 HR1
  go_wp2_with fail
  refine (ints_any b m d ys w2 (HG.out.mono HB2.out) hr2).mono ?_
  rintro e w3 ⟨a3, c3, rfl, hR3, hB3⟩
  have HR3 := hide hR3
  have HB3 := hide (HB2.out.trans (hB3.mono HB2.out.size))
  clear hR3 hB3 HB2
  go_wp2_with fail
  refine (May_any a3 m c3 ys led card hr2 w3 HR3.out).mono ?_
  rintro e w4 ⟨rfl, hB4⟩
  have HB4 := hide (HB3.out.trans (hB4.mono HB3.out.size))
  clear hB4 HB3 HR3
  -- what comes behind the trick
  by_cases h4 : n = 4
  · subst h4
    go_wp2_with fail
    refine (CardsMay_any a 4 c zs w4 (HH.out.mono HB4.out)).mono ?_
    rintro e w40 ⟨rfl, q, hw⟩
    have HB40 := hide (HB4.out.trans (drewN_below _ w4 q))
    rw [← hw] at HB40
    clear hw HB4
    by_cases hm : mayE zs = 0
    · rw [hm]
      by_cases hs : 0 ≤ s ∧ s < 5
      · have HTO : trkOut 4 zs s = (((wn (natL zs) s 4 : Nat) : Int), 0) := by simp [trkOut, hm, hs]
        simp only [HTO]
        have hti := toI_natL (mayE_zero hm).1
        have TW := hide (TrickWinner_any a c (natL zs) s w40 (by rw [hti]; exact HH.out.mono HB40.out))
        generalize wn (natL zs) s 4 = x at *
        have bx : ((x : Int) != (x : Int)) = false := by simp
        have s0 : decide (s < 0) = false := by simp; omega
        have s4 : decide (4 < s) = false := by simp; omega
        have s0' : ¬ s < 0 := by omega
        have s4' : ¬ 4 < s := by omega
        clear HTO hti hm hs
        go_wp2_with fail
        refine TW.out.mono ?_
        rintro e w5 ⟨rfl, q2, hw5⟩
        have HB5 := hide (HB40.out.trans (drewN_below _ w40 q2))
        rw [← hw5] at HB5
        clear hw5 HB40 TW
        go_wp2_with fail
        -- the second part
        refine (CardsMay_any b m d ys w5 (HG.out.mono HB5.out)).mono ?_
        rintro e w6 ⟨rfl, q6, hw6⟩
        have HB6 := hide (HB5.out.trans (drewN_below _ w5 q6))
        rw [← hw6] at HB6
        have HG6 := hide (HG.out.mono HB6.out)
        clear hw6 HB5 HG
        by_cases hbad : ¬ (0 ≤ card ∧ card < 52) ∨ (led ≠ -1 ∧ ¬ (0 ≤ led ∧ led < 52))
        · have HMO : mayOut ys led card = (false, 3) := by unfold mayOut; rw [if_pos hbad]
          simp only [HMO]
          clear HMO
          by_cases q1 : card < 0
          · have f1 : decide (card < 0) = true := by simp; omega
            go_wp2_with fail
            go_loop [16, 17] (fun x i => ∃ k : Nat, k ≤ m ∧ i = .int .i64 k ∧ x = .bool ((ys.take k).contains card)) (fun _ i => m - (intOf i).toNat)
            case atStart => exact ⟨0, by omega, rfl, rfl⟩
            case round =>
              obtain ⟨k, hk, rfl, rfl⟩ := hrel
              by_cases hlt : k < m
              · have hlt' : (k : Int) < (m : Int) := by omega
                obtain ⟨bb, off, hb, hc⟩ := HG6.out.cells (by omega)
                subst hb
                have r1 := hc k hlt
                have HS := hide (cont_take ys card k (by rw [HL.out]; exact hlt))
                clear hc
                obtain ⟨x, hx⟩ : ∃ x, ys.getD k 0 = x := ⟨_, rfl⟩
                rw [hx] at r1 HS
                clear hx
                cases hp : (ys.take k).contains card with
                | true =>
                  rw [hp] at HS
                  go_wp2
                  go_round
                  case rel => exact ⟨k + 1, by omega, by go_num, by rw [HS.out]; rfl⟩
                  case measure => simp [intOf]; omega
                | false =>
                  rw [hp] at HS
                  by_cases hxc : x = card
                  · subst hxc
                    go_wp2
                    go_round
                    case rel => exact ⟨k + 1, by omega, by go_num, by rw [HS.out]; simp⟩
                    case measure => simp [intOf]; omega
                  · have bx : (x == card) = false := by simpa using hxc
                    rw [bx] at HS
                    go_wp2
                    go_round
                    case rel => exact ⟨k + 1, by omega, by go_num, by rw [HS.out]; rfl⟩
                    case measure => simp [intOf]; omega
              · obtain rfl : k = m := by omega
                have hlt' : ¬ (k : Int) < (k : Int) := by omega
                have hta : ys.take k = ys := List.take_of_length_le (by rw [HL.out]; exact Nat.le_refl _)
                rw [hta]
                clear hta
                cases hp : ys.contains card with
                | true =>
                  go_wp2
                  go_ret
                  exact ⟨rfl, HB6.out⟩
                | false =>
                  go_wp2
                  go_ret
                  exact ⟨rfl, HB6.out⟩
          have f1 : decide (card < 0) = false := by simp; omega
          by_cases q2 : 51 < card
          · have f2 : decide (51 < card) = true := by simp; omega
            go_wp2_with fail
            go_loop [16, 17] (fun x i => ∃ k : Nat, k ≤ m ∧ i = .int .i64 k ∧ x = .bool ((ys.take k).contains card)) (fun _ i => m - (intOf i).toNat)
            case atStart => exact ⟨0, by omega, rfl, rfl⟩
            case round =>
              obtain ⟨k, hk, rfl, rfl⟩ := hrel
              by_cases hlt : k < m
              · have hlt' : (k : Int) < (m : Int) := by omega
                obtain ⟨bb, off, hb, hc⟩ := HG6.out.cells (by omega)
                subst hb
                have r1 := hc k hlt
                have HS := hide (cont_take ys card k (by rw [HL.out]; exact hlt))
                clear hc
                obtain ⟨x, hx⟩ : ∃ x, ys.getD k 0 = x := ⟨_, rfl⟩
                rw [hx] at r1 HS
                clear hx
                cases hp : (ys.take k).contains card with
                | true =>
                  rw [hp] at HS
                  go_wp2
                  go_round
                  case rel => exact ⟨k + 1, by omega, by go_num, by rw [HS.out]; rfl⟩
                  case measure => simp [intOf]; omega
                | false =>
                  rw [hp] at HS
                  by_cases hxc : x = card
                  · subst hxc
                    go_wp2
                    go_round
                    case rel => exact ⟨k + 1, by omega, by go_num, by rw [HS.out]; simp⟩
                    case measure => simp [intOf]; omega
                  · have bx : (x == card) = false := by simpa using hxc
                    rw [bx] at HS
                    go_wp2
                    go_round
                    case rel => exact ⟨k + 1, by omega, by go_num, by rw [HS.out]; rfl⟩
                    case measure => simp [intOf]; omega
              · obtain rfl : k = m := by omega
                have hlt' : ¬ (k : Int) < (k : Int) := by omega
                have hta : ys.take k = ys := List.take_of_length_le (by rw [HL.out]; exact Nat.le_refl _)
                rw [hta]
                clear hta
                cases hp : ys.contains card with
                | true =>
                  go_wp2
                  go_ret
                  exact ⟨rfl, HB6.out⟩
                | false =>
                  go_wp2
                  go_ret
                  exact ⟨rfl, HB6.out⟩
          have f2 : decide (51 < card) = false := by simp; omega
          by_cases q3 : led < -1
          · have f3 : decide (led < -1) = true := by simp; omega
            go_wp2_with fail
            go_loop [16, 17] (fun x i => ∃ k : Nat, k ≤ m ∧ i = .int .i64 k ∧ x = .bool ((ys.take k).contains card)) (fun _ i => m - (intOf i).toNat)
            case atStart => exact ⟨0, by omega, rfl, rfl⟩
            case round =>
              obtain ⟨k, hk, rfl, rfl⟩ := hrel
              by_cases hlt : k < m
              · have hlt' : (k : Int) < (m : Int) := by omega
                obtain ⟨bb, off, hb, hc⟩ := HG6.out.cells (by omega)
                subst hb
                have r1 := hc k hlt
                have HS := hide (cont_take ys card k (by rw [HL.out]; exact hlt))
                clear hc
                obtain ⟨x, hx⟩ : ∃ x, ys.getD k 0 = x := ⟨_, rfl⟩
                rw [hx] at r1 HS
                clear hx
                cases hp : (ys.take k).contains card with
                | true =>
                  rw [hp] at HS
                  go_wp2
                  go_round
                  case rel => exact ⟨k + 1, by omega, by go_num, by rw [HS.out]; rfl⟩
                  case measure => simp [intOf]; omega
                | false =>
                  rw [hp] at HS
                  by_cases hxc : x = card
                  · subst hxc
                    go_wp2
                    go_round
                    case rel => exact ⟨k + 1, by omega, by go_num, by rw [HS.out]; simp⟩
                    case measure => simp [intOf]; omega
                  · have bx : (x == card) = false := by simpa using hxc
                    rw [bx] at HS
                    go_wp2
                    go_round
                    case rel => exact ⟨k + 1, by omega, by go_num, by rw [HS.out]; rfl⟩
                    case measure => simp [intOf]; omega
              · obtain rfl : k = m := by omega
                have hlt' : ¬ (k : Int) < (k : Int) := by omega
                have hta : ys.take k = ys := List.take_of_length_le (by rw [HL.out]; exact Nat.le_refl _)
                rw [hta]
                clear hta
                cases hp : ys.contains card with
                | true =>
                  go_wp2
                  go_ret
                  exact ⟨rfl, HB6.out⟩
                | false =>
                  go_wp2
                  go_ret
                  exact ⟨rfl, HB6.out⟩
          have f3 : decide (led < -1) = false := by simp; omega
          have q4 : 51 < led := by omega
          have f4 : decide (51 < led) = true := by simp; omega
          go_wp2_with fail
          go_loop [16, 17] (fun x i => ∃ k : Nat, k ≤ m ∧ i = .int .i64 k ∧ x = .bool ((ys.take k).contains card)) (fun _ i => m - (intOf i).toNat)
          case atStart => exact ⟨0, by omega, rfl, rfl⟩
          case round =>
            obtain ⟨k, hk, rfl, rfl⟩ := hrel
            by_cases hlt : k < m
            · have hlt' : (k : Int) < (m : Int) := by omega
              obtain ⟨bb, off, hb, hc⟩ := HG6.out.cells (by omega)
              subst hb
              have r1 := hc k hlt
              have HS := hide (cont_take ys card k (by rw [HL.out]; exact hlt))
              clear hc
              obtain ⟨x, hx⟩ : ∃ x, ys.getD k 0 = x := ⟨_, rfl⟩
              rw [hx] at r1 HS
              clear hx
              cases hp : (ys.take k).contains card with
              | true =>
                rw [hp] at HS
                go_wp2
                go_round
                case rel => exact ⟨k + 1, by omega, by go_num, by rw [HS.out]; rfl⟩
                case measure => simp [intOf]; omega
              | false =>
                rw [hp] at HS
                by_cases hxc : x = card
                · subst hxc
                  go_wp2
                  go_round
                  case rel => exact ⟨k + 1, by omega, by go_num, by rw [HS.out]; simp⟩
                  case measure => simp [intOf]; omega
                · have bx : (x == card) = false := by simpa using hxc
                  rw [bx] at HS
                  go_wp2
                  go_round
                  case rel => exact ⟨k + 1, by omega, by go_num, by rw [HS.out]; rfl⟩
                  case measure => simp [intOf]; omega
            · obtain rfl : k = m := by omega
              have hlt' : ¬ (k : Int) < (k : Int) := by omega
              have hta : ys.take k = ys := List.take_of_length_le (by rw [HL.out]; exact Nat.le_refl _)
              rw [hta]
              clear hta
              cases hp : ys.contains card with
              | true =>
                go_wp2
                go_ret
                exact ⟨rfl, HB6.out⟩
              | false =>
                go_wp2
                go_ret
                exact ⟨rfl, HB6.out⟩
        · have f1 : decide (card < 0) = false := by simp; omega
          have f2 : decide (51 < card) = false := by simp; omega
          have f3 : decide (led < -1) = false := by simp; omega
          have f4 : decide (51 < led) = false := by simp; omega
          have q1 : ¬ card < 0 := by omega
          have q2 : ¬ 51 < card := by omega
          have q3 : ¬ led < -1 := by omega
          have q4 : ¬ 51 < led := by omega
          by_cases hme : mayE ys = 0
          · rw [hme]
            cases hco : ys.contains card with
            | false =>
              have HMO : mayOut ys led card = (false, 5) := by unfold mayOut; rw [if_neg hbad, if_neg (by omega), if_neg (by rw [hco]; simp)]
              simp only [HMO]
              have HCO := hide hco
              clear HMO hbad hme hco
              go_wp2_with fail
              go_loop [16, 17] (fun x i => ∃ k : Nat, k ≤ m ∧ i = .int .i64 k ∧ x = .bool ((ys.take k).contains card)) (fun _ i => m - (intOf i).toNat)
              case atStart => exact ⟨0, by omega, rfl, rfl⟩
              case round =>
                obtain ⟨k, hk, rfl, rfl⟩ := hrel
                by_cases hlt : k < m
                · have hlt' : (k : Int) < (m : Int) := by omega
                  obtain ⟨bb, off, hb, hc⟩ := HG6.out.cells (by omega)
                  subst hb
                  have r1 := hc k hlt
                  have HS := hide (cont_take ys card k (by rw [HL.out]; exact hlt))
                  clear hc
                  obtain ⟨x, hx⟩ : ∃ x, ys.getD k 0 = x := ⟨_, rfl⟩
                  rw [hx] at r1 HS
                  clear hx
                  cases hp : (ys.take k).contains card with
                  | true =>
                    rw [hp] at HS
                    go_wp2
                    go_round
                    case rel => exact ⟨k + 1, by omega, by go_num, by rw [HS.out]; rfl⟩
                    case measure => simp [intOf]; omega
                  | false =>
                    rw [hp] at HS
                    by_cases hxc : x = card
                    · subst hxc
                      go_wp2
                      go_round
                      case rel => exact ⟨k + 1, by omega, by go_num, by rw [HS.out]; simp⟩
                      case measure => simp [intOf]; omega
                    · have bx : (x == card) = false := by simpa using hxc
                      rw [bx] at HS
                      go_wp2
                      go_round
                      case rel => exact ⟨k + 1, by omega, by go_num, by rw [HS.out]; rfl⟩
                      case measure => simp [intOf]; omega
                · obtain rfl : k = m := by omega
                  have hlt' : ¬ (k : Int) < (k : Int) := by omega
                  have hta : ys.take k = ys := List.take_of_length_le (by rw [HL.out]; exact Nat.le_refl _)
                  rw [hta]
                  clear hta
                  rw [HCO.out]
                  go_wp2
                  go_ret
                  exact ⟨rfl, HB6.out⟩
            | true =>
              have HMO : mayOut ys led card = (pmB (natL ys) led card.toNat, 0) := by unfold mayOut; rw [if_neg hbad, if_neg (by omega), if_pos hco]
              simp only [HMO]
              have hti := toI_natL (mayE_zero hme).1
              have PM := hide (PlayMay_any b m d (natL ys) led card.toNat w6 (by rw [hti]; exact HG6.out))
              rw [show ((card.toNat : Nat) : Int) = card by omega] at PM
              change Hid (Calls Try.prog 12 _ w6 fun e w' => e = .returned (.bool (pmB (natL ys) led card.toNat)) ∧ w' = w6) at PM
              generalize pmB (natL ys) led card.toNat = P at *
              have bP : (P == P) = true := by simp
              have HCO := hide hco
              clear HMO hbad hme hco hti
              go_wp2_with fail
              go_loop [16, 17] (fun x i => ∃ k : Nat, k ≤ m ∧ i = .int .i64 k ∧ x = .bool ((ys.take k).contains card)) (fun _ i => m - (intOf i).toNat)
              case atStart => exact ⟨0, by omega, rfl, rfl⟩
              case round =>
                obtain ⟨k, hk, rfl, rfl⟩ := hrel
                by_cases hlt : k < m
                · have hlt' : (k : Int) < (m : Int) := by omega
                  obtain ⟨bb, off, hb, hc⟩ := HG6.out.cells (by omega)
                  subst hb
                  have r1 := hc k hlt
                  have HS := hide (cont_take ys card k (by rw [HL.out]; exact hlt))
                  clear hc
                  obtain ⟨x, hx⟩ : ∃ x, ys.getD k 0 = x := ⟨_, rfl⟩
                  rw [hx] at r1 HS
                  clear hx
                  cases hp : (ys.take k).contains card with
                  | true =>
                    rw [hp] at HS
                    go_wp2
                    go_round
                    case rel => exact ⟨k + 1, by omega, by go_num, by rw [HS.out]; rfl⟩
                    case measure => simp [intOf]; omega
                  | false =>
                    rw [hp] at HS
                    by_cases hxc : x = card
                    · subst hxc
                      go_wp2
                      go_round
                      case rel => exact ⟨k + 1, by omega, by go_num, by rw [HS.out]; simp⟩
                      case measure => simp [intOf]; omega
                    · have bx : (x == card) = false := by simpa using hxc
                      rw [bx] at HS
                      go_wp2
                      go_round
                      case rel => exact ⟨k + 1, by omega, by go_num, by rw [HS.out]; rfl⟩
                      case measure => simp [intOf]; omega
                · obtain rfl : k = m := by omega
                  have hlt' : ¬ (k : Int) < (k : Int) := by omega
                  have hta : ys.take k = ys := List.take_of_length_le (by rw [HL.out]; exact Nat.le_refl _)
                  rw [hta]
                  clear hta
                  rw [HCO.out]
                  go_wp2_with fail
                  refine PM.out.mono ?_
                  rintro e w7 ⟨rfl, hw7⟩
                  subst w7
                  go_wp2
                  go_ret
                  exact ⟨rfl, HB6.out⟩
          · have HMO : mayOut ys led card = (false, mayE ys) := by unfold mayOut; rw [if_neg hbad, if_pos hme]
            simp only [HMO]
            obtain ⟨E, hE⟩ : ∃ E, mayE ys = E := ⟨_, rfl⟩
            rw [hE] at hme ⊢
            have bE0 : (E == 0) = false := by simpa using hme
            have bE1 : (E != 0) = true := by simpa using hme
            have bEE : (E == E) = true := by simp
            clear HMO hbad hE
            go_wp2_with fail
            go_loop [16, 17] (fun x i => ∃ k : Nat, k ≤ m ∧ i = .int .i64 k ∧ x = .bool ((ys.take k).contains card)) (fun _ i => m - (intOf i).toNat)
            case atStart => exact ⟨0, by omega, rfl, rfl⟩
            case round =>
              obtain ⟨k, hk, rfl, rfl⟩ := hrel
              by_cases hlt : k < m
              · have hlt' : (k : Int) < (m : Int) := by omega
                obtain ⟨bb, off, hb, hc⟩ := HG6.out.cells (by omega)
                subst hb
                have r1 := hc k hlt
                have HS := hide (cont_take ys card k (by rw [HL.out]; exact hlt))
                clear hc
                obtain ⟨x, hx⟩ : ∃ x, ys.getD k 0 = x := ⟨_, rfl⟩
                rw [hx] at r1 HS
                clear hx
                cases hp : (ys.take k).contains card with
                | true =>
                  rw [hp] at HS
                  go_wp2
                  go_round
                  case rel => exact ⟨k + 1, by omega, by go_num, by rw [HS.out]; rfl⟩
                  case measure => simp [intOf]; omega
                | false =>
                  rw [hp] at HS
                  by_cases hxc : x = card
                  · subst hxc
                    go_wp2
                    go_round
                    case rel => exact ⟨k + 1, by omega, by go_num, by rw [HS.out]; simp⟩
                    case measure => simp [intOf]; omega
                  · have bx : (x == card) = false := by simpa using hxc
                    rw [bx] at HS
                    go_wp2
                    go_round
                    case rel => exact ⟨k + 1, by omega, by go_num, by rw [HS.out]; rfl⟩
                    case measure => simp [intOf]; omega
              · obtain rfl : k = m := by omega
                have hlt' : ¬ (k : Int) < (k : Int) := by omega
                have hta : ys.take k = ys := List.take_of_length_le (by rw [HL.out]; exact Nat.le_refl _)
                rw [hta]
                clear hta
                cases hp : ys.contains card with
                | true =>
                  go_wp2
                  go_ret
                  exact ⟨rfl, HB6.out⟩
                | false =>
                  go_wp2
                  go_ret
                  exact ⟨rfl, HB6.out⟩
      · have HTO : trkOut 4 zs s = (0, 4) := by simp only [trkOut, hm]; rw [if_neg (by omega), if_neg (by omega), if_neg hs]
        simp only [HTO]
        have HB5 := HB40
        obtain ⟨w5, hw5⟩ : ∃ w5, w40 = w5 := ⟨_, rfl⟩
        subst hw5
        clear HTO hm HB40
        by_cases hs0 : s < 0
        · have s0 : decide (s < 0) = true := by simp; omega
          go_wp2_with fail
          -- the second part
          refine (CardsMay_any b m d ys w40 (HG.out.mono HB5.out)).mono ?_
          rintro e w6 ⟨rfl, q6, hw6⟩
          have HB6 := hide (HB5.out.trans (drewN_below _ w40 q6))
          rw [← hw6] at HB6
          have HG6 := hide (HG.out.mono HB6.out)
          clear hw6 HB5 HG
          by_cases hbad : ¬ (0 ≤ card ∧ card < 52) ∨ (led ≠ -1 ∧ ¬ (0 ≤ led ∧ led < 52))
          · have HMO : mayOut ys led card = (false, 3) := by unfold mayOut; rw [if_pos hbad]
            simp only [HMO]
            clear HMO
            by_cases q1 : card < 0
            · have f1 : decide (card < 0) = true := by simp; omega
              go_wp2_with fail
              go_loop [16, 17] (fun x i => ∃ k : Nat, k ≤ m ∧ i = .int .i64 k ∧ x = .bool ((ys.take k).contains card)) (fun _ i => m - (intOf i).toNat)
              case atStart => exact ⟨0, by omega, rfl, rfl⟩
              case round =>
                obtain ⟨k, hk, rfl, rfl⟩ := hrel
                by_cases hlt : k < m
                · have hlt' : (k : Int) < (m : Int) := by omega
                  obtain ⟨bb, off, hb, hc⟩ := HG6.out.cells (by omega)
                  subst hb
                  have r1 := hc k hlt
                  have HS := hide (cont_take ys card k (by rw [HL.out]; exact hlt))
                  clear hc
                  obtain ⟨x, hx⟩ : ∃ x, ys.getD k 0 = x := ⟨_, rfl⟩
                  rw [hx] at r1 HS
                  clear hx
                  cases hp : (ys.take k).contains card with
                  | true =>
                    rw [hp] at HS
                    go_wp2
                    go_round
                    case rel => exact ⟨k + 1, by omega, by go_num, by rw [HS.out]; rfl⟩
                    case measure => simp [intOf]; omega
                  | false =>
                    rw [hp] at HS
                    by_cases hxc : x = card
                    · subst hxc
                      go_wp2
                      go_round
                      case rel => exact ⟨k + 1, by omega, by go_num, by rw [HS.out]; simp⟩
                      case measure => simp [intOf]; omega
                    · have bx : (x == card) = false := by simpa using hxc
                      rw [bx] at HS
                      go_wp2
                      go_round
                      case rel => exact ⟨k + 1, by omega, by go_num, by rw [HS.out]; rfl⟩
                      case measure => simp [intOf]; omega
                · obtain rfl : k = m := by omega
                  have hlt' : ¬ (k : Int) < (k : Int) := by omega
                  have hta : ys.take k = ys := List.take_of_length_le (by rw [HL.out]; exact Nat.le_refl _)
                  rw [hta]
                  clear hta
                  cases hp : ys.contains card with
                  | true =>
                    go_wp2
                    go_ret
                    exact ⟨rfl, HB6.out⟩
                  | false =>
                    go_wp2
                    go_ret
                    exact ⟨rfl, HB6.out⟩
            have f1 : decide (card < 0) = false := by simp; omega
            by_cases q2 : 51 < card
            · have f2 : decide (51 < card) = true := by simp; omega
              go_wp2_with fail
              go_loop [16, 17] (fun x i => ∃ k : Nat, k ≤ m ∧ i = .int .i64 k ∧ x = .bool ((ys.take k).contains card)) (fun _ i => m - (intOf i).toNat)
              case atStart => exact ⟨0, by omega, rfl, rfl⟩
              case round =>
                obtain ⟨k, hk, rfl, rfl⟩ := hrel
                by_cases hlt : k < m
                · have hlt' : (k : Int) < (m : Int) := by omega
                  obtain ⟨bb, off, hb, hc⟩ := HG6.out.cells (by omega)
                  subst hb
                  have r1 := hc k hlt
                  have HS := hide (cont_take ys card k (by rw [HL.out]; exact hlt))
                  clear hc
                  obtain ⟨x, hx⟩ : ∃ x, ys.getD k 0 = x := ⟨_, rfl⟩
                  rw [hx] at r1 HS
                  clear hx
                  cases hp : (ys.take k).contains card with
                  | true =>
                    rw [hp] at HS
                    go_wp2
                    go_round
                    case rel => exact ⟨k + 1, by omega, by go_num, by rw [HS.out]; rfl⟩
                    case measure => simp [intOf]; omega
                  | false =>
                    rw [hp] at HS
                    by_cases hxc : x = card
                    · subst hxc
                      go_wp2
                      go_round
                      case rel => exact ⟨k + 1, by omega, by go_num, by rw [HS.out]; simp⟩
                      case measure => simp [intOf]; omega
                    · have bx : (x == card) = false := by simpa using hxc
                      rw [bx] at HS
                      go_wp2
                      go_round
                      case rel => exact ⟨k + 1, by omega, by go_num, by rw [HS.out]; rfl⟩
                      case measure => simp [intOf]; omega
                · obtain rfl : k = m := by omega
                  have hlt' : ¬ (k : Int) < (k : Int) := by omega
                  have hta : ys.take k = ys := List.take_of_length_le (by rw [HL.out]; exact Nat.le_refl _)
                  rw [hta]
                  clear hta
                  cases hp : ys.contains card with
                  | true =>
                    go_wp2
                    go_ret
                    exact ⟨rfl, HB6.out⟩
                  | false =>
                    go_wp2
                    go_ret
                    exact ⟨rfl, HB6.out⟩
            have f2 : decide (51 < card) = false := by simp; omega
            by_cases q3 : led < -1
            · have f3 : decide (led < -1) = true := by simp; omega
              go_wp2_with fail
              go_loop [16, 17] (fun x i => ∃ k : Nat, k ≤ m ∧ i = .int .i64 k ∧ x = .bool ((ys.take k).contains card)) (fun _ i => m - (intOf i).toNat)
              case atStart => exact ⟨0, by omega, rfl, rfl⟩
              case round =>
                obtain ⟨k, hk, rfl, rfl⟩ := hrel
                by_cases hlt : k < m
                · have hlt' : (k : Int) < (m : Int) := by omega
                  obtain ⟨bb, off, hb, hc⟩ := HG6.out.cells (by omega)
                  subst hb
                  have r1 := hc k hlt
                  have HS := hide (cont_take ys card k (by rw [HL.out]; exact hlt))
                  clear hc
                  obtain ⟨x, hx⟩ : ∃ x, ys.getD k 0 = x := ⟨_, rfl⟩
                  rw [hx] at r1 HS
                  clear hx
                  cases hp : (ys.take k).contains card with
                  | true =>
                    rw [hp] at HS
                    go_wp2
                    go_round
                    case rel => exact ⟨k + 1, by omega, by go_num, by rw [HS.out]; rfl⟩
                    case measure => simp [intOf]; omega
                  | false =>
                    rw [hp] at HS
                    by_cases hxc : x = card
                    · subst hxc
                      go_wp2
                      go_round
                      case rel => exact ⟨k + 1, by omega, by go_num, by rw [HS.out]; simp⟩
                      case measure => simp [intOf]; omega
                    · have bx : (x == card) = false := by simpa using hxc
                      rw [bx] at HS
                      go_wp2
                      go_round
                      case rel => exact ⟨k + 1, by omega, by go_num, by rw [HS.out]; rfl⟩
                      case measure => simp [intOf]; omega
                · obtain rfl : k = m := by omega
                  have hlt' : ¬ (k : Int) < (k : Int) := by omega
                  have hta : ys.take k = ys := List.take_of_length_le (by rw [HL.out]; exact Nat.le_refl _)
                  rw [hta]
                  clear hta
                  cases hp : ys.contains card with
                  | true =>
                    go_wp2
                    go_ret
                    exact ⟨rfl, HB6.out⟩
                  | false =>
                    go_wp2
                    go_ret
                    exact ⟨rfl, HB6.out⟩
            have f3 : decide (led < -1) = false := by simp; omega
            have q4 : 51 < led := by omega
            have f4 : decide (51 < led) = true := by simp; omega
            go_wp2_with fail
            go_loop [16, 17] (fun x i => ∃ k : Nat, k ≤ m ∧ i = .int .i64 k ∧ x = .bool ((ys.take k).contains card)) (fun _ i => m - (intOf i).toNat)
            case atStart => exact ⟨0, by omega, rfl, rfl⟩
            case round =>
              obtain ⟨k, hk, rfl, rfl⟩ := hrel
              by_cases hlt : k < m
              · have hlt' : (k : Int) < (m : Int) := by omega
                obtain ⟨bb, off, hb, hc⟩ := HG6.out.cells (by omega)
                subst hb
                have r1 := hc k hlt
                have HS := hide (cont_take ys card k (by rw [HL.out]; exact hlt))
                clear hc
                obtain ⟨x, hx⟩ : ∃ x, ys.getD k 0 = x := ⟨_, rfl⟩
                rw [hx] at r1 HS
                clear hx
                cases hp : (ys.take k).contains card with
                | true =>
                  rw [hp] at HS
                  go_wp2
                  go_round
                  case rel => exact ⟨k + 1, by omega, by go_num, by rw [HS.out]; rfl⟩
                  case measure => simp [intOf]; omega
                | false =>
                  rw [hp] at HS
                  by_cases hxc : x = card
                  · subst hxc
                    go_wp2
                    go_round
                    case rel => exact ⟨k + 1, by omega, by go_num, by rw [HS.out]; simp⟩
                    case measure => simp [intOf]; omega
                  · have bx : (x == card) = false := by simpa using hxc
                    rw [bx] at HS
                    go_wp2
                    go_round
                    case rel => exact ⟨k + 1, by omega, by go_num, by rw [HS.out]; rfl⟩
                    case measure => simp [intOf]; omega
              · obtain rfl : k = m := by omega
                have hlt' : ¬ (k : Int) < (k : Int) := by omega
                have hta : ys.take k = ys := List.take_of_length_le (by rw [HL.out]; exact Nat.le_refl _)
                rw [hta]
                clear hta
                cases hp : ys.contains card with
                | true =>
                  go_wp2
                  go_ret
                  exact ⟨rfl, HB6.out⟩
                | false =>
                  go_wp2
                  go_ret
                  exact ⟨rfl, HB6.out⟩
          · have f1 : decide (card < 0) = false := by simp; omega
            have f2 : decide (51 < card) = false := by simp; omega
            have f3 : decide (led < -1) = false := by simp; omega
            have f4 : decide (51 < led) = false := by simp; omega
            have q1 : ¬ card < 0 := by omega
            have q2 : ¬ 51 < card := by omega
            have q3 : ¬ led < -1 := by omega
            have q4 : ¬ 51 < led := by omega
            by_cases hme : mayE ys = 0
            · rw [hme]
              cases hco : ys.contains card with
              | false =>
                have HMO : mayOut ys led card = (false, 5) := by unfold mayOut; rw [if_neg hbad, if_neg (by omega), if_neg (by rw [hco]; simp)]
                simp only [HMO]
                have HCO := hide hco
                clear HMO hbad hme hco
                go_wp2_with fail
                go_loop [16, 17] (fun x i => ∃ k : Nat, k ≤ m ∧ i = .int .i64 k ∧ x = .bool ((ys.take k).contains card)) (fun _ i => m - (intOf i).toNat)
                case atStart => exact ⟨0, by omega, rfl, rfl⟩
                case round =>
                  obtain ⟨k, hk, rfl, rfl⟩ := hrel
                  by_cases hlt : k < m
                  · have hlt' : (k : Int) < (m : Int) := by omega
                    obtain ⟨bb, off, hb, hc⟩ := HG6.out.cells (by omega)
                    subst hb
                    have r1 := hc k hlt
                    have HS := hide (cont_take ys card k (by rw [HL.out]; exact hlt))
                    clear hc
                    obtain ⟨x, hx⟩ : ∃ x, ys.getD k 0 = x := ⟨_, rfl⟩
                    rw [hx] at r1 HS
                    clear hx
                    cases hp : (ys.take k).contains card with
                    | true =>
                      rw [hp] at HS
                      go_wp2
                      go_round
                      case rel => exact ⟨k + 1, by omega, by go_num, by rw [HS.out]; rfl⟩
                      case measure => simp [intOf]; omega
                    | false =>
                      rw [hp] at HS
                      by_cases hxc : x = card
                      · subst hxc
                        go_wp2
                        go_round
                        case rel => exact ⟨k + 1, by omega, by go_num, by rw [HS.out]; simp⟩
                        case measure => simp [intOf]; omega
                      · have bx : (x == card) = false := by simpa using hxc
                        rw [bx] at HS
                        go_wp2
                        go_round
                        case rel => exact ⟨k + 1, by omega, by go_num, by rw [HS.out]; rfl⟩
                        case measure => simp [intOf]; omega
                  · obtain rfl : k = m := by omega
                    have hlt' : ¬ (k : Int) < (k : Int) := by omega
                    have hta : ys.take k = ys := List.take_of_length_le (by rw [HL.out]; exact Nat.le_refl _)
                    rw [hta]
                    clear hta
                    rw [HCO.out]
                    go_wp2
                    go_ret
                    exact ⟨rfl, HB6.out⟩
              | true =>
                have HMO : mayOut ys led card = (pmB (natL ys) led card.toNat, 0) := by unfold mayOut; rw [if_neg hbad, if_neg (by omega), if_pos hco]
                simp only [HMO]
                have hti := toI_natL (mayE_zero hme).1
                have PM := hide (PlayMay_any b m d (natL ys) led card.toNat w6 (by rw [hti]; exact HG6.out))
                rw [show ((card.toNat : Nat) : Int) = card by omega] at PM
                change Hid (Calls Try.prog 12 _ w6 fun e w' => e = .returned (.bool (pmB (natL ys) led card.toNat)) ∧ w' = w6) at PM
                generalize pmB (natL ys) led card.toNat = P at *
                have bP : (P == P) = true := by simp
                have HCO := hide hco
                clear HMO hbad hme hco hti
                go_wp2_with fail
                go_loop [16, 17] (fun x i => ∃ k : Nat, k ≤ m ∧ i = .int .i64 k ∧ x = .bool ((ys.take k).contains card)) (fun _ i => m - (intOf i).toNat)
                case atStart => exact ⟨0, by omega, rfl, rfl⟩
                case round =>
                  obtain ⟨k, hk, rfl, rfl⟩ := hrel
                  by_cases hlt : k < m
                  · have hlt' : (k : Int) < (m : Int) := by omega
                    obtain ⟨bb, off, hb, hc⟩ := HG6.out.cells (by omega)
                    subst hb
                    have r1 := hc k hlt
                    have HS := hide (cont_take ys card k (by rw [HL.out]; exact hlt))
                    clear hc
                    obtain ⟨x, hx⟩ : ∃ x, ys.getD k 0 = x := ⟨_, rfl⟩
                    rw [hx] at r1 HS
                    clear hx
                    cases hp : (ys.take k).contains card with
                    | true =>
                      rw [hp] at HS
                      go_wp2
                      go_round
                      case rel => exact ⟨k + 1, by omega, by go_num, by rw [HS.out]; rfl⟩
                      case measure => simp [intOf]; omega
                    | false =>
                      rw [hp] at HS
                      by_cases hxc : x = card
                      · subst hxc
                        go_wp2
                        go_round
                        case rel => exact ⟨k + 1, by omega, by go_num, by rw [HS.out]; simp⟩
                        case measure => simp [intOf]; omega
                      · have bx : (x == card) = false := by simpa using hxc
                        rw [bx] at HS
                        go_wp2
                        go_round
                        case rel => exact ⟨k + 1, by omega, by go_num, by rw [HS.out]; rfl⟩
                        case measure => simp [intOf]; omega
                  · obtain rfl : k = m := by omega
                    have hlt' : ¬ (k : Int) < (k : Int) := by omega
                    have hta : ys.take k = ys := List.take_of_length_le (by rw [HL.out]; exact Nat.le_refl _)
                    rw [hta]
                    clear hta
                    rw [HCO.out]
                    go_wp2_with fail
                    refine PM.out.mono ?_
                    rintro e w7 ⟨rfl, hw7⟩
                    subst w7
                    go_wp2
                    go_ret
                    exact ⟨rfl, HB6.out⟩
            · have HMO : mayOut ys led card = (false, mayE ys) := by unfold mayOut; rw [if_neg hbad, if_pos hme]
              simp only [HMO]
              obtain ⟨E, hE⟩ : ∃ E, mayE ys = E := ⟨_, rfl⟩
              rw [hE] at hme ⊢
              have bE0 : (E == 0) = false := by simpa using hme
              have bE1 : (E != 0) = true := by simpa using hme
              have bEE : (E == E) = true := by simp
              clear HMO hbad hE
              go_wp2_with fail
              go_loop [16, 17] (fun x i => ∃ k : Nat, k ≤ m ∧ i = .int .i64 k ∧ x = .bool ((ys.take k).contains card)) (fun _ i => m - (intOf i).toNat)
              case atStart => exact ⟨0, by omega, rfl, rfl⟩
              case round =>
                obtain ⟨k, hk, rfl, rfl⟩ := hrel
                by_cases hlt : k < m
                · have hlt' : (k : Int) < (m : Int) := by omega
                  obtain ⟨bb, off, hb, hc⟩ := HG6.out.cells (by omega)
                  subst hb
                  have r1 := hc k hlt
                  have HS := hide (cont_take ys card k (by rw [HL.out]; exact hlt))
                  clear hc
                  obtain ⟨x, hx⟩ : ∃ x, ys.getD k 0 = x := ⟨_, rfl⟩
                  rw [hx] at r1 HS
                  clear hx
                  cases hp : (ys.take k).contains card with
                  | true =>
                    rw [hp] at HS
                    go_wp2
                    go_round
                    case rel => exact ⟨k + 1, by omega, by go_num, by rw [HS.out]; rfl⟩
                    case measure => simp [intOf]; omega
                  | false =>
                    rw [hp] at HS
                    by_cases hxc : x = card
                    · subst hxc
                      go_wp2
                      go_round
                      case rel => exact ⟨k + 1, by omega, by go_num, by rw [HS.out]; simp⟩
                      case measure => simp [intOf]; omega
                    · have bx : (x == card) = false := by simpa using hxc
                      rw [bx] at HS
                      go_wp2
                      go_round
                      case rel => exact ⟨k + 1, by omega, by go_num, by rw [HS.out]; rfl⟩
                      case measure => simp [intOf]; omega
                · obtain rfl : k = m := by omega
                  have hlt' : ¬ (k : Int) < (k : Int) := by omega
                  have hta : ys.take k = ys := List.take_of_length_le (by rw [HL.out]; exact Nat.le_refl _)
                  rw [hta]
                  clear hta
                  cases hp : ys.contains card with
                  | true =>
                    go_wp2
                    go_ret
                    exact ⟨rfl, HB6.out⟩
                  | false =>
                    go_wp2
                    go_ret
                    exact ⟨rfl, HB6.out⟩
        · have s0 : decide (s < 0) = false := by simp; omega
          have hs4 : 4 < s := by omega
          have s4 : decide (4 < s) = true := by simp; omega
          go_wp2_with fail
          -- the second part
          refine (CardsMay_any b m d ys w40 (HG.out.mono HB5.out)).mono ?_
          rintro e w6 ⟨rfl, q6, hw6⟩
          have HB6 := hide (HB5.out.trans (drewN_below _ w40 q6))
          rw [← hw6] at HB6
          have HG6 := hide (HG.out.mono HB6.out)
          clear hw6 HB5 HG
          by_cases hbad : ¬ (0 ≤ card ∧ card < 52) ∨ (led ≠ -1 ∧ ¬ (0 ≤ led ∧ led < 52))
          · have HMO : mayOut ys led card = (false, 3) := by unfold mayOut; rw [if_pos hbad]
            simp only [HMO]
            clear HMO
            by_cases q1 : card < 0
            · have f1 : decide (card < 0) = true := by simp; omega
              go_wp2_with fail
              go_loop [16, 17] (fun x i => ∃ k : Nat, k ≤ m ∧ i = .int .i64 k ∧ x = .bool ((ys.take k).contains card)) (fun _ i => m - (intOf i).toNat)
              case atStart => exact ⟨0, by omega, rfl, rfl⟩
              case round =>
                obtain ⟨k, hk, rfl, rfl⟩ := hrel
                by_cases hlt : k < m
                · have hlt' : (k : Int) < (m : Int) := by omega
                  obtain ⟨bb, off, hb, hc⟩ := HG6.out.cells (by omega)
                  subst hb
                  have r1 := hc k hlt
                  have HS := hide (cont_take ys card k (by rw [HL.out]; exact hlt))
                  clear hc
                  obtain ⟨x, hx⟩ : ∃ x, ys.getD k 0 = x := ⟨_, rfl⟩
                  rw [hx] at r1 HS
                  clear hx
                  cases hp : (ys.take k).contains card with
                  | true =>
                    rw [hp] at HS
                    go_wp2
                    go_round
                    case rel => exact ⟨k + 1, by omega, by go_num, by rw [HS.out]; rfl⟩
                    case measure => simp [intOf]; omega
                  | false =>
                    rw [hp] at HS
                    by_cases hxc : x = card
                    · subst hxc
                      go_wp2
                      go_round
                      case rel => exact ⟨k + 1, by omega, by go_num, by rw [HS.out]; simp⟩
                      case measure => simp [intOf]; omega
                    · have bx : (x == card) = false := by simpa using hxc
                      rw [bx] at HS
                      go_wp2
                      go_round
                      case rel => exact ⟨k + 1, by omega, by go_num, by rw [HS.out]; rfl⟩
                      case measure => simp [intOf]; omega
                · obtain rfl : k = m := by omega
                  have hlt' : ¬ (k : Int) < (k : Int) := by omega
                  have hta : ys.take k = ys := List.take_of_length_le (by rw [HL.out]; exact Nat.le_refl _)
                  rw [hta]
                  clear hta
                  cases hp : ys.contains card with
                  | true =>
                    go_wp2
                    go_ret
                    exact ⟨rfl, HB6.out⟩
                  | false =>
                    go_wp2
                    go_ret
                    exact ⟨rfl, HB6.out⟩
            have f1 : decide (card < 0) = false := by simp; omega
            by_cases q2 : 51 < card
            · have f2 : decide (51 < card) = true := by simp; omega
              go_wp2_with fail
              go_loop [16, 17] (fun x i => ∃ k : Nat, k ≤ m ∧ i = .int .i64 k ∧ x = .bool ((ys.take k).contains card)) (fun _ i => m - (intOf i).toNat)
              case atStart => exact ⟨0, by omega, rfl, rfl⟩
              case round =>
                obtain ⟨k, hk, rfl, rfl⟩ := hrel
                by_cases hlt : k < m
                · have hlt' : (k : Int) < (m : Int) := by omega
                  obtain ⟨bb, off, hb, hc⟩ := HG6.out.cells (by omega)
                  subst hb
                  have r1 := hc k hlt
                  have HS := hide (cont_take ys card k (by rw [HL.out]; exact hlt))
                  clear hc
                  obtain ⟨x, hx⟩ : ∃ x, ys.getD k 0 = x := ⟨_, rfl⟩
                  rw [hx] at r1 HS
                  clear hx
                  cases hp : (ys.take k).contains card with
                  | true =>
                    rw [hp] at HS
                    go_wp2
                    go_round
                    case rel => exact ⟨k + 1, by omega, by go_num, by rw [HS.out]; rfl⟩
                    case measure => simp [intOf]; omega
                  | false =>
                    rw [hp] at HS
                    by_cases hxc : x = card
                    · subst hxc
                      go_wp2
                      go_round
                      case rel => exact ⟨k + 1, by omega, by go_num, by rw [HS.out]; simp⟩
                      case measure => simp [intOf]; omega
                    · have bx : (x == card) = false := by simpa using hxc
                      rw [bx] at HS
                      go_wp2
                      go_round
                      case rel => exact ⟨k + 1, by omega, by go_num, by rw [HS.out]; rfl⟩
                      case measure => simp [intOf]; omega
                · obtain rfl : k = m := by omega
                  have hlt' : ¬ (k : Int) < (k : Int) := by omega
                  have hta : ys.take k = ys := List.take_of_length_le (by rw [HL.out]; exact Nat.le_refl _)
                  rw [hta]
                  clear hta
                  cases hp : ys.contains card with
                  | true =>
                    go_wp2
                    go_ret
                    exact ⟨rfl, HB6.out⟩
                  | false =>
                    go_wp2
                    go_ret
                    exact ⟨rfl, HB6.out⟩
            have f2 : decide (51 < card) = false := by simp; omega
            by_cases q3 : led < -1
            · have f3 : decide (led < -1) = true := by simp; omega
              go_wp2_with fail
              go_loop [16, 17] (fun x i => ∃ k : Nat, k ≤ m ∧ i = .int .i64 k ∧ x = .bool ((ys.take k).contains card)) (fun _ i => m - (intOf i).toNat)
              case atStart => exact ⟨0, by omega, rfl, rfl⟩
              case round =>
                obtain ⟨k, hk, rfl, rfl⟩ := hrel
                by_cases hlt : k < m
                · have hlt' : (k : Int) < (m : Int) := by omega
                  obtain ⟨bb, off, hb, hc⟩ := HG6.out.cells (by omega)
                  subst hb
                  have r1 := hc k hlt
                  have HS := hide (cont_take ys card k (by rw [HL.out]; exact hlt))
                  clear hc
                  obtain ⟨x, hx⟩ : ∃ x, ys.getD k 0 = x := ⟨_, rfl⟩
                  rw [hx] at r1 HS
                  clear hx
                  cases hp : (ys.take k).contains card with
                  | true =>
                    rw [hp] at HS
                    go_wp2
                    go_round
                    case rel => exact ⟨k + 1, by omega, by go_num, by rw [HS.out]; rfl⟩
                    case measure => simp [intOf]; omega
                  | false =>
                    rw [hp] at HS
                    by_cases hxc : x = card
                    · subst hxc
                      go_wp2
                      go_round
                      case rel => exact ⟨k + 1, by omega, by go_num, by rw [HS.out]; simp⟩
                      case measure => simp [intOf]; omega
                    · have bx : (x == card) = false := by simpa using hxc
                      rw [bx] at HS
                      go_wp2
                      go_round
                      case rel => exact ⟨k + 1, by omega, by go_num, by rw [HS.out]; rfl⟩
                      case measure => simp [intOf]; omega
                · obtain rfl : k = m := by omega
                  have hlt' : ¬ (k : Int) < (k : Int) := by omega
                  have hta : ys.take k = ys := List.take_of_length_le (by rw [HL.out]; exact Nat.le_refl _)
                  rw [hta]
                  clear hta
                  cases hp : ys.contains card with
                  | true =>
                    go_wp2
                    go_ret
                    exact ⟨rfl, HB6.out⟩
                  | false =>
                    go_wp2
                    go_ret
                    exact ⟨rfl, HB6.out⟩
            have f3 : decide (led < -1) = false := by simp; omega
            have q4 : 51 < led := by omega
            have f4 : decide (51 < led) = true := by simp; omega
            go_wp2_with fail
            go_loop [16, 17] (fun x i => ∃ k : Nat, k ≤ m ∧ i = .int .i64 k ∧ x = .bool ((ys.take k).contains card)) (fun _ i => m - (intOf i).toNat)
            case atStart => exact ⟨0, by omega, rfl, rfl⟩
            case round =>
              obtain ⟨k, hk, rfl, rfl⟩ := hrel
              by_cases hlt : k < m
              · have hlt' : (k : Int) < (m : Int) := by omega
                obtain ⟨bb, off, hb, hc⟩ := HG6.out.cells (by omega)
                subst hb
                have r1 := hc k hlt
                have HS := hide (cont_take ys card k (by rw [HL.out]; exact hlt))
                clear hc
                obtain ⟨x, hx⟩ : ∃ x, ys.getD k 0 = x := ⟨_, rfl⟩
                rw [hx] at r1 HS
                clear hx
                cases hp : (ys.take k).contains card with
                | true =>
                  rw [hp] at HS
                  go_wp2
                  go_round
                  case rel => exact ⟨k + 1, by omega, by go_num, by rw [HS.out]; rfl⟩
                  case measure => simp [intOf]; omega
                | false =>
                  rw [hp] at HS
                  by_cases hxc : x = card
                  · subst hxc
                    go_wp2
                    go_round
                    case rel => exact ⟨k + 1, by omega, by go_num, by rw [HS.out]; simp⟩
                    case measure => simp [intOf]; omega
                  · have bx : (x == card) = false := by simpa using hxc
                    rw [bx] at HS
                    go_wp2
                    go_round
                    case rel => exact ⟨k + 1, by omega, by go_num, by rw [HS.out]; rfl⟩
                    case measure => simp [intOf]; omega
              · obtain rfl : k = m := by omega
                have hlt' : ¬ (k : Int) < (k : Int) := by omega
                have hta : ys.take k = ys := List.take_of_length_le (by rw [HL.out]; exact Nat.le_refl _)
                rw [hta]
                clear hta
                cases hp : ys.contains card with
                | true =>
                  go_wp2
                  go_ret
                  exact ⟨rfl, HB6.out⟩
                | false =>
                  go_wp2
                  go_ret
                  exact ⟨rfl, HB6.out⟩
          · have f1 : decide (card < 0) = false := by simp; omega
            have f2 : decide (51 < card) = false := by simp; omega
            have f3 : decide (led < -1) = false := by simp; omega
            have f4 : decide (51 < led) = false := by simp; omega
            have q1 : ¬ card < 0 := by omega
            have q2 : ¬ 51 < card := by omega
            have q3 : ¬ led < -1 := by omega
            have q4 : ¬ 51 < led := by omega
            by_cases hme : mayE ys = 0
            · rw [hme]
              cases hco : ys.contains card with
              | false =>
                have HMO : mayOut ys led card = (false, 5) := by unfold mayOut; rw [if_neg hbad, if_neg (by omega), if_neg (by rw [hco]; simp)]
                simp only [HMO]
                have HCO := hide hco
                clear HMO hbad hme hco
                go_wp2_with fail
                go_loop [16, 17] (fun x i => ∃ k : Nat, k ≤ m ∧ i = .int .i64 k ∧ x = .bool ((ys.take k).contains card)) (fun _ i => m - (intOf i).toNat)
                case atStart => exact ⟨0, by omega, rfl, rfl⟩
                case round =>
                  obtain ⟨k, hk, rfl, rfl⟩ := hrel
                  by_cases hlt : k < m
                  · have hlt' : (k : Int) < (m : Int) := by omega
                    obtain ⟨bb, off, hb, hc⟩ := HG6.out.cells (by omega)
                    subst hb
                    have r1 := hc k hlt
                    have HS := hide (cont_take ys card k (by rw [HL.out]; exact hlt))
                    clear hc
                    obtain ⟨x, hx⟩ : ∃ x, ys.getD k 0 = x := ⟨_, rfl⟩
                    rw [hx] at r1 HS
                    clear hx
                    cases hp : (ys.take k).contains card with
                    | true =>
                      rw [hp] at HS
                      go_wp2
                      go_round
                      case rel => exact ⟨k + 1, by omega, by go_num, by rw [HS.out]; rfl⟩
                      case measure => simp [intOf]; omega
                    | false =>
                      rw [hp] at HS
                      by_cases hxc : x = card
                      · subst hxc
                        go_wp2
                        go_round
                        case rel => exact ⟨k + 1, by omega, by go_num, by rw [HS.out]; simp⟩
                        case measure => simp [intOf]; omega
                      · have bx : (x == card) = false := by simpa using hxc
                        rw [bx] at HS
                        go_wp2
                        go_round
                        case rel => exact ⟨k + 1, by omega, by go_num, by rw [HS.out]; rfl⟩
                        case measure => simp [intOf]; omega
                  · obtain rfl : k = m := by omega
                    have hlt' : ¬ (k : Int) < (k : Int) := by omega
                    have hta : ys.take k = ys := List.take_of_length_le (by rw [HL.out]; exact Nat.le_refl _)
                    rw [hta]
                    clear hta
                    rw [HCO.out]
                    go_wp2
                    go_ret
                    exact ⟨rfl, HB6.out⟩
              | true =>
                have HMO : mayOut ys led card = (pmB (natL ys) led card.toNat, 0) := by unfold mayOut; rw [if_neg hbad, if_neg (by omega), if_pos hco]
                simp only [HMO]
                have hti := toI_natL (mayE_zero hme).1
                have PM := hide (PlayMay_any b m d (natL ys) led card.toNat w6 (by rw [hti]; exact HG6.out))
                rw [show ((card.toNat : Nat) : Int) = card by omega] at PM
                change Hid (Calls Try.prog 12 _ w6 fun e w' => e = .returned (.bool (pmB (natL ys) led card.toNat)) ∧ w' = w6) at PM
                generalize pmB (natL ys) led card.toNat = P at *
                have bP : (P == P) = true := by simp
                have HCO := hide hco
                clear HMO hbad hme hco hti
                go_wp2_with fail
                go_loop [16, 17] (fun x i => ∃ k : Nat, k ≤ m ∧ i = .int .i64 k ∧ x = .bool ((ys.take k).contains card)) (fun _ i => m - (intOf i).toNat)
                case atStart => exact ⟨0, by omega, rfl, rfl⟩
                case round =>
                  obtain ⟨k, hk, rfl, rfl⟩ := hrel
                  by_cases hlt : k < m
                  · have hlt' : (k : Int) < (m : Int) := by omega
                    obtain ⟨bb, off, hb, hc⟩ := HG6.out.cells (by omega)
                    subst hb
                    have r1 := hc k hlt
                    have HS := hide (cont_take ys card k (by rw [HL.out]; exact hlt))
                    clear hc
                    obtain ⟨x, hx⟩ : ∃ x, ys.getD k 0 = x := ⟨_, rfl⟩
                    rw [hx] at r1 HS
                    clear hx
                    cases hp : (ys.take k).contains card with
                    | true =>
                      rw [hp] at HS
                      go_wp2
                      go_round
                      case rel => exact ⟨k + 1, by omega, by go_num, by rw [HS.out]; rfl⟩
                      case measure => simp [intOf]; omega
                    | false =>
                      rw [hp] at HS
                      by_cases hxc : x = card
                      · subst hxc
                        go_wp2
                        go_round
                        case rel => exact ⟨k + 1, by omega, by go_num, by rw [HS.out]; simp⟩
                        case measure => simp [intOf]; omega
                      · have bx : (x == card) = false := by simpa using hxc
                        rw [bx] at HS
                        go_wp2
                        go_round
                        case rel => exact ⟨k + 1, by omega, by go_num, by rw [HS.out]; rfl⟩
                        case measure => simp [intOf]; omega
                  · obtain rfl : k = m := by omega
                    have hlt' : ¬ (k : Int) < (k : Int) := by omega
                    have hta : ys.take k = ys := List.take_of_length_le (by rw [HL.out]; exact Nat.le_refl _)
                    rw [hta]
                    clear hta
                    rw [HCO.out]
                    go_wp2_with fail
                    refine PM.out.mono ?_
                    rintro e w7 ⟨rfl, hw7⟩
                    subst w7
                    go_wp2
                    go_ret
                    exact ⟨rfl, HB6.out⟩
            · have HMO : mayOut ys led card = (false, mayE ys) := by unfold mayOut; rw [if_neg hbad, if_pos hme]
              simp only [HMO]
              obtain ⟨E, hE⟩ : ∃ E, mayE ys = E := ⟨_, rfl⟩
              rw [hE] at hme ⊢
              have bE0 : (E == 0) = false := by simpa using hme
              have bE1 : (E != 0) = true := by simpa using hme
              have bEE : (E == E) = true := by simp
              clear HMO hbad hE
              go_wp2_with fail
              go_loop [16, 17] (fun x i => ∃ k : Nat, k ≤ m ∧ i = .int .i64 k ∧ x = .bool ((ys.take k).contains card)) (fun _ i => m - (intOf i).toNat)
              case atStart => exact ⟨0, by omega, rfl, rfl⟩
              case round =>
                obtain ⟨k, hk, rfl, rfl⟩ := hrel
                by_cases hlt : k < m
                · have hlt' : (k : Int) < (m : Int) := by omega
                  obtain ⟨bb, off, hb, hc⟩ := HG6.out.cells (by omega)
                  subst hb
                  have r1 := hc k hlt
                  have HS := hide (cont_take ys card k (by rw [HL.out]; exact hlt))
                  clear hc
                  obtain ⟨x, hx⟩ : ∃ x, ys.getD k 0 = x := ⟨_, rfl⟩
                  rw [hx] at r1 HS
                  clear hx
                  cases hp : (ys.take k).contains card with
                  | true =>
                    rw [hp] at HS
                    go_wp2
                    go_round
                    case rel => exact ⟨k + 1, by omega, by go_num, by rw [HS.out]; rfl⟩
                    case measure => simp [intOf]; omega
                  | false =>
                    rw [hp] at HS
                    by_cases hxc : x = card
                    · subst hxc
                      go_wp2
                      go_round
                      case rel => exact ⟨k + 1, by omega, by go_num, by rw [HS.out]; simp⟩
                      case measure => simp [intOf]; omega
                    · have bx : (x == card) = false := by simpa using hxc
                      rw [bx] at HS
                      go_wp2
                      go_round
                      case rel => exact ⟨k + 1, by omega, by go_num, by rw [HS.out]; rfl⟩
                      case measure => simp [intOf]; omega
                · obtain rfl : k = m := by omega
                  have hlt' : ¬ (k : Int) < (k : Int) := by omega
                  have hta : ys.take k = ys := List.take_of_length_le (by rw [HL.out]; exact Nat.le_refl _)
                  rw [hta]
                  clear hta
                  cases hp : ys.contains card with
                  | true =>
                    go_wp2
                    go_ret
                    exact ⟨rfl, HB6.out⟩
                  | false =>
                    go_wp2
                    go_ret
                    exact ⟨rfl, HB6.out⟩
    · have HTO : trkOut 4 zs s = (0, mayE zs) := by simp [trkOut, hm]
      simp only [HTO]
      obtain ⟨F, hF⟩ : ∃ F, mayE zs = F := ⟨_, rfl⟩
      rw [hF] at hm ⊢
      have bF0 : (F == 0) = false := by simpa using hm
      have bF1 : (F != 0) = true := by simpa using hm
      have bFF : (F != F) = false := by simp
      have HB5 := HB40
      clear HTO hF HB40
      go_wp2_with fail
      -- the second part
      refine (CardsMay_any b m d ys w40 (HG.out.mono HB5.out)).mono ?_
      rintro e w6 ⟨rfl, q6, hw6⟩
      have HB6 := hide (HB5.out.trans (drewN_below _ w40 q6))
      rw [← hw6] at HB6
      have HG6 := hide (HG.out.mono HB6.out)
      clear hw6 HB5 HG
      by_cases hbad : ¬ (0 ≤ card ∧ card < 52) ∨ (led ≠ -1 ∧ ¬ (0 ≤ led ∧ led < 52))
      · have HMO : mayOut ys led card = (false, 3) := by unfold mayOut; rw [if_pos hbad]
        simp only [HMO]
        clear HMO
        by_cases q1 : card < 0
        · have f1 : decide (card < 0) = true := by simp; omega
          go_wp2_with fail
          go_loop [16, 17] (fun x i => ∃ k : Nat, k ≤ m ∧ i = .int .i64 k ∧ x = .bool ((ys.take k).contains card)) (fun _ i => m - (intOf i).toNat)
          case atStart => exact ⟨0, by omega, rfl, rfl⟩
          case round =>
            obtain ⟨k, hk, rfl, rfl⟩ := hrel
            by_cases hlt : k < m
            · have hlt' : (k : Int) < (m : Int) := by omega
              obtain ⟨bb, off, hb, hc⟩ := HG6.out.cells (by omega)
              subst hb
              have r1 := hc k hlt
              have HS := hide (cont_take ys card k (by rw [HL.out]; exact hlt))
              clear hc
              obtain ⟨x, hx⟩ : ∃ x, ys.getD k 0 = x := ⟨_, rfl⟩
              rw [hx] at r1 HS
              clear hx
              cases hp : (ys.take k).contains card with
              | true =>
                rw [hp] at HS
                go_wp2
                go_round
                case rel => exact ⟨k + 1, by omega, by go_num, by rw [HS.out]; rfl⟩
                case measure => simp [intOf]; omega
              | false =>
                rw [hp] at HS
                by_cases hxc : x = card
                · subst hxc
                  go_wp2
                  go_round
                  case rel => exact ⟨k + 1, by omega, by go_num, by rw [HS.out]; simp⟩
                  case measure => simp [intOf]; omega
                · have bx : (x == card) = false := by simpa using hxc
                  rw [bx] at HS
                  go_wp2
                  go_round
                  case rel => exact ⟨k + 1, by omega, by go_num, by rw [HS.out]; rfl⟩
                  case measure => simp [intOf]; omega
            · obtain rfl : k = m := by omega
              have hlt' : ¬ (k : Int) < (k : Int) := by omega
              have hta : ys.take k = ys := List.take_of_length_le (by rw [HL.out]; exact Nat.le_refl _)
              rw [hta]
              clear hta
              cases hp : ys.contains card with
              | true =>
                go_wp2
                go_ret
                exact ⟨rfl, HB6.out⟩
              | false =>
                go_wp2
                go_ret
                exact ⟨rfl, HB6.out⟩
        have f1 : decide (card < 0) = false := by simp; omega
        by_cases q2 : 51 < card
        · have f2 : decide (51 < card) = true := by simp; omega
          go_wp2_with fail
          go_loop [16, 17] (fun x i => ∃ k : Nat, k ≤ m ∧ i = .int .i64 k ∧ x = .bool ((ys.take k).contains card)) (fun _ i => m - (intOf i).toNat)
          case atStart => exact ⟨0, by omega, rfl, rfl⟩
          case round =>
            obtain ⟨k, hk, rfl, rfl⟩ := hrel
            by_cases hlt : k < m
            · have hlt' : (k : Int) < (m : Int) := by omega
              obtain ⟨bb, off, hb, hc⟩ := HG6.out.cells (by omega)
              subst hb
              have r1 := hc k hlt
              have HS := hide (cont_take ys card k (by rw [HL.out]; exact hlt))
              clear hc
              obtain ⟨x, hx⟩ : ∃ x, ys.getD k 0 = x := ⟨_, rfl⟩
              rw [hx] at r1 HS
              clear hx
              cases hp : (ys.take k).contains card with
              | true =>
                rw [hp] at HS
                go_wp2
                go_round
                case rel => exact ⟨k + 1, by omega, by go_num, by rw [HS.out]; rfl⟩
                case measure => simp [intOf]; omega
              | false =>
                rw [hp] at HS
                by_cases hxc : x = card
                · subst hxc
                  go_wp2
                  go_round
                  case rel => exact ⟨k + 1, by omega, by go_num, by rw [HS.out]; simp⟩
                  case measure => simp [intOf]; omega
                · have bx : (x == card) = false := by simpa using hxc
                  rw [bx] at HS
                  go_wp2
                  go_round
                  case rel => exact ⟨k + 1, by omega, by go_num, by rw [HS.out]; rfl⟩
                  case measure => simp [intOf]; omega
            · obtain rfl : k = m := by omega
              have hlt' : ¬ (k : Int) < (k : Int) := by omega
              have hta : ys.take k = ys := List.take_of_length_le (by rw [HL.out]; exact Nat.le_refl _)
              rw [hta]
              clear hta
              cases hp : ys.contains card with
              | true =>
                go_wp2
                go_ret
                exact ⟨rfl, HB6.out⟩
              | false =>
                go_wp2
                go_ret
                exact ⟨rfl, HB6.out⟩
        have f2 : decide (51 < card) = false := by simp; omega
        by_cases q3 : led < -1
        · have f3 : decide (led < -1) = true := by simp; omega
          go_wp2_with fail
          go_loop [16, 17] (fun x i => ∃ k : Nat, k ≤ m ∧ i = .int .i64 k ∧ x = .bool ((ys.take k).contains card)) (fun _ i => m - (intOf i).toNat)
          case atStart => exact ⟨0, by omega, rfl, rfl⟩
          case round =>
            obtain ⟨k, hk, rfl, rfl⟩ := hrel
            by_cases hlt : k < m
            · have hlt' : (k : Int) < (m : Int) := by omega
              obtain ⟨bb, off, hb, hc⟩ := HG6.out.cells (by omega)
              subst hb
              have r1 := hc k hlt
              have HS := hide (cont_take ys card k (by rw [HL.out]; exact hlt))
              clear hc
              obtain ⟨x, hx⟩ : ∃ x, ys.getD k 0 = x := ⟨_, rfl⟩
              rw [hx] at r1 HS
              clear hx
              cases hp : (ys.take k).contains card with
              | true =>
                rw [hp] at HS
                go_wp2
                go_round
                case rel => exact ⟨k + 1, by omega, by go_num, by rw [HS.out]; rfl⟩
                case measure => simp [intOf]; omega
              | false =>
                rw [hp] at HS
                by_cases hxc : x = card
                · subst hxc
                  go_wp2
                  go_round
                  case rel => exact ⟨k + 1, by omega, by go_num, by rw [HS.out]; simp⟩
                  case measure => simp [intOf]; omega
                · have bx : (x == card) = false := by simpa using hxc
                  rw [bx] at HS
                  go_wp2
                  go_round
                  case rel => exact ⟨k + 1, by omega, by go_num, by rw [HS.out]; rfl⟩
                  case measure => simp [intOf]; omega
            · obtain rfl : k = m := by omega
              have hlt' : ¬ (k : Int) < (k : Int) := by omega
              have hta : ys.take k = ys := List.take_of_length_le (by rw [HL.out]; exact Nat.le_refl _)
              rw [hta]
              clear hta
              cases hp : ys.contains card with
              | true =>
                go_wp2
                go_ret
                exact ⟨rfl, HB6.out⟩
              | false =>
                go_wp2
                go_ret
                exact ⟨rfl, HB6.out⟩
        have f3 : decide (led < -1) = false := by simp; omega
        have q4 : 51 < led := by omega
        have f4 : decide (51 < led) = true := by simp; omega
        go_wp2_with fail
        go_loop [16, 17] (fun x i => ∃ k : Nat, k ≤ m ∧ i = .int .i64 k ∧ x = .bool ((ys.take k).contains card)) (fun _ i => m - (intOf i).toNat)
        case atStart => exact ⟨0, by omega, rfl, rfl⟩
        case round =>
          obtain ⟨k, hk, rfl, rfl⟩ := hrel
          by_cases hlt : k < m
          · have hlt' : (k : Int) < (m : Int) := by omega
            obtain ⟨bb, off, hb, hc⟩ := HG6.out.cells (by omega)
            subst hb
            have r1 := hc k hlt
            have HS := hide (cont_take ys card k (by rw [HL.out]; exact hlt))
            clear hc
            obtain ⟨x, hx⟩ : ∃ x, ys.getD k 0 = x := ⟨_, rfl⟩
            rw [hx] at r1 HS
            clear hx
            cases hp : (ys.take k).contains card with
            | true =>
              rw [hp] at HS
              go_wp2
              go_round
              case rel => exact ⟨k + 1, by omega, by go_num, by rw [HS.out]; rfl⟩
              case measure => simp [intOf]; omega
            | false =>
              rw [hp] at HS
              by_cases hxc : x = card
              · subst hxc
                go_wp2
                go_round
                case rel => exact ⟨k + 1, by omega, by go_num, by rw [HS.out]; simp⟩
                case measure => simp [intOf]; omega
              · have bx : (x == card) = false := by simpa using hxc
                rw [bx] at HS
                go_wp2
                go_round
                case rel => exact ⟨k + 1, by omega, by go_num, by rw [HS.out]; rfl⟩
                case measure => simp [intOf]; omega
          · obtain rfl : k = m := by omega
            have hlt' : ¬ (k : Int) < (k : Int) := by omega
            have hta : ys.take k = ys := List.take_of_length_le (by rw [HL.out]; exact Nat.le_refl _)
            rw [hta]
            clear hta
            cases hp : ys.contains card with
            | true =>
              go_wp2
              go_ret
              exact ⟨rfl, HB6.out⟩
            | false =>
              go_wp2
              go_ret
              exact ⟨rfl, HB6.out⟩
      · have f1 : decide (card < 0) = false := by simp; omega
        have f2 : decide (51 < card) = false := by simp; omega
        have f3 : decide (led < -1) = false := by simp; omega
        have f4 : decide (51 < led) = false := by simp; omega
        have q1 : ¬ card < 0 := by omega
        have q2 : ¬ 51 < card := by omega
        have q3 : ¬ led < -1 := by omega
        have q4 : ¬ 51 < led := by omega
        by_cases hme : mayE ys = 0
        · rw [hme]
          cases hco : ys.contains card with
          | false =>
            have HMO : mayOut ys led card = (false, 5) := by unfold mayOut; rw [if_neg hbad, if_neg (by omega), if_neg (by rw [hco]; simp)]
            simp only [HMO]
            have HCO := hide hco
            clear HMO hbad hme hco
            go_wp2_with fail
            go_loop [16, 17] (fun x i => ∃ k : Nat, k ≤ m ∧ i = .int .i64 k ∧ x = .bool ((ys.take k).contains card)) (fun _ i => m - (intOf i).toNat)
            case atStart => exact ⟨0, by omega, rfl, rfl⟩
            case round =>
              obtain ⟨k, hk, rfl, rfl⟩ := hrel
              by_cases hlt : k < m
              · have hlt' : (k : Int) < (m : Int) := by omega
                obtain ⟨bb, off, hb, hc⟩ := HG6.out.cells (by omega)
                subst hb
                have r1 := hc k hlt
                have HS := hide (cont_take ys card k (by rw [HL.out]; exact hlt))
                clear hc
                obtain ⟨x, hx⟩ : ∃ x, ys.getD k 0 = x := ⟨_, rfl⟩
                rw [hx] at r1 HS
                clear hx
                cases hp : (ys.take k).contains card with
                | true =>
                  rw [hp] at HS
                  go_wp2
                  go_round
                  case rel => exact ⟨k + 1, by omega, by go_num, by rw [HS.out]; rfl⟩
                  case measure => simp [intOf]; omega
                | false =>
                  rw [hp] at HS
                  by_cases hxc : x = card
                  · subst hxc
                    go_wp2
                    go_round
                    case rel => exact ⟨k + 1, by omega, by go_num, by rw [HS.out]; simp⟩
                    case measure => simp [intOf]; omega
                  · have bx : (x == card) = false := by simpa using hxc
                    rw [bx] at HS
                    go_wp2
                    go_round
                    case rel => exact ⟨k + 1, by omega, by go_num, by rw [HS.out]; rfl⟩
                    case measure => simp [intOf]; omega
              · obtain rfl : k = m := by omega
                have hlt' : ¬ (k : Int) < (k : Int) := by omega
                have hta : ys.take k = ys := List.take_of_length_le (by rw [HL.out]; exact Nat.le_refl _)
                rw [hta]
                clear hta
                rw [HCO.out]
                go_wp2
                go_ret
                exact ⟨rfl, HB6.out⟩
          | true =>
            have HMO : mayOut ys led card = (pmB (natL ys) led card.toNat, 0) := by unfold mayOut; rw [if_neg hbad, if_neg (by omega), if_pos hco]
            simp only [HMO]
            have hti := toI_natL (mayE_zero hme).1
            have PM := hide (PlayMay_any b m d (natL ys) led card.toNat w6 (by rw [hti]; exact HG6.out))
            rw [show ((card.toNat : Nat) : Int) = card by omega] at PM
            change Hid (Calls Try.prog 12 _ w6 fun e w' => e = .returned (.bool (pmB (natL ys) led card.toNat)) ∧ w' = w6) at PM
            generalize pmB (natL ys) led card.toNat = P at *
            have bP : (P == P) = true := by simp
            have HCO := hide hco
            clear HMO hbad hme hco hti
            go_wp2_with fail
            go_loop [16, 17] (fun x i => ∃ k : Nat, k ≤ m ∧ i = .int .i64 k ∧ x = .bool ((ys.take k).contains card)) (fun _ i => m - (intOf i).toNat)
            case atStart => exact ⟨0, by omega, rfl, rfl⟩
            case round =>
              obtain ⟨k, hk, rfl, rfl⟩ := hrel
              by_cases hlt : k < m
              · have hlt' : (k : Int) < (m : Int) := by omega
                obtain ⟨bb, off, hb, hc⟩ := HG6.out.cells (by omega)
                subst hb
                have r1 := hc k hlt
                have HS := hide (cont_take ys card k (by rw [HL.out]; exact hlt))
                clear hc
                obtain ⟨x, hx⟩ : ∃ x, ys.getD k 0 = x := ⟨_, rfl⟩
                rw [hx] at r1 HS
                clear hx
                cases hp : (ys.take k).contains card with
                | true =>
                  rw [hp] at HS
                  go_wp2
                  go_round
                  case rel => exact ⟨k + 1, by omega, by go_num, by rw [HS.out]; rfl⟩
                  case measure => simp [intOf]; omega
                | false =>
                  rw [hp] at HS
                  by_cases hxc : x = card
                  · subst hxc
                    go_wp2
                    go_round
                    case rel => exact ⟨k + 1, by omega, by go_num, by rw [HS.out]; simp⟩
                    case measure => simp [intOf]; omega
                  · have bx : (x == card) = false := by simpa using hxc
                    rw [bx] at HS
                    go_wp2
                    go_round
                    case rel => exact ⟨k + 1, by omega, by go_num, by rw [HS.out]; rfl⟩
                    case measure => simp [intOf]; omega
              · obtain rfl : k = m := by omega
                have hlt' : ¬ (k : Int) < (k : Int) := by omega
                have hta : ys.take k = ys := List.take_of_length_le (by rw [HL.out]; exact Nat.le_refl _)
                rw [hta]
                clear hta
                rw [HCO.out]
                go_wp2_with fail
                refine PM.out.mono ?_
                rintro e w7 ⟨rfl, hw7⟩
                subst w7
                go_wp2
                go_ret
                exact ⟨rfl, HB6.out⟩
        · have HMO : mayOut ys led card = (false, mayE ys) := by unfold mayOut; rw [if_neg hbad, if_pos hme]
          simp only [HMO]
          obtain ⟨E, hE⟩ : ∃ E, mayE ys = E := ⟨_, rfl⟩
          rw [hE] at hme ⊢
          have bE0 : (E == 0) = false := by simpa using hme
          have bE1 : (E != 0) = true := by simpa using hme
          have bEE : (E == E) = true := by simp
          clear HMO hbad hE
          go_wp2_with fail
          go_loop [16, 17] (fun x i => ∃ k : Nat, k ≤ m ∧ i = .int .i64 k ∧ x = .bool ((ys.take k).contains card)) (fun _ i => m - (intOf i).toNat)
          case atStart => exact ⟨0, by omega, rfl, rfl⟩
          case round =>
            obtain ⟨k, hk, rfl, rfl⟩ := hrel
            by_cases hlt : k < m
            · have hlt' : (k : Int) < (m : Int) := by omega
              obtain ⟨bb, off, hb, hc⟩ := HG6.out.cells (by omega)
              subst hb
              have r1 := hc k hlt
              have HS := hide (cont_take ys card k (by rw [HL.out]; exact hlt))
              clear hc
              obtain ⟨x, hx⟩ : ∃ x, ys.getD k 0 = x := ⟨_, rfl⟩
              rw [hx] at r1 HS
              clear hx
              cases hp : (ys.take k).contains card with
              | true =>
                rw [hp] at HS
                go_wp2
                go_round
                case rel => exact ⟨k + 1, by omega, by go_num, by rw [HS.out]; rfl⟩
                case measure => simp [intOf]; omega
              | false =>
                rw [hp] at HS
                by_cases hxc : x = card
                · subst hxc
                  go_wp2
                  go_round
                  case rel => exact ⟨k + 1, by omega, by go_num, by rw [HS.out]; simp⟩
                  case measure => simp [intOf]; omega
                · have bx : (x == card) = false := by simpa using hxc
                  rw [bx] at HS
                  go_wp2
                  go_round
                  case rel => exact ⟨k + 1, by omega, by go_num, by rw [HS.out]; rfl⟩
                  case measure => simp [intOf]; omega
            · obtain rfl : k = m := by omega
              have hlt' : ¬ (k : Int) < (k : Int) := by omega
              have hta : ys.take k = ys := List.take_of_length_le (by rw [HL.out]; exact Nat.le_refl _)
              rw [hta]
              clear hta
              cases hp : ys.contains card with
              | true =>
                go_wp2
                go_ret
                exact ⟨rfl, HB6.out⟩
              | false =>
                go_wp2
                go_ret
                exact ⟨rfl, HB6.out⟩
  · have HTO : trkOut n zs s = (0, 11) := by simp [trkOut, h4]
    simp only [HTO]
    have b4 : ((n : Int) == 4) = false := by simp; omega
    have HB5 := HB4
    clear HTO HB4
    go_wp2_with fail
    -- the second part
    refine (CardsMay_any b m d ys w4 (HG.out.mono HB5.out)).mono ?_
    rintro e w6 ⟨rfl, q6, hw6⟩
    have HB6 := hide (HB5.out.trans (drewN_below _ w4 q6))
    rw [← hw6] at HB6
    have HG6 := hide (HG.out.mono HB6.out)
    clear hw6 HB5 HG
    by_cases hbad : ¬ (0 ≤ card ∧ card < 52) ∨ (led ≠ -1 ∧ ¬ (0 ≤ led ∧ led < 52))
    · have HMO : mayOut ys led card = (false, 3) := by unfold mayOut; rw [if_pos hbad]
      simp only [HMO]
      clear HMO
      by_cases q1 : card < 0
      · have f1 : decide (card < 0) = true := by simp; omega
        go_wp2_with fail
        go_loop [16, 17] (fun x i => ∃ k : Nat, k ≤ m ∧ i = .int .i64 k ∧ x = .bool ((ys.take k).contains card)) (fun _ i => m - (intOf i).toNat)
        case atStart => exact ⟨0, by omega, rfl, rfl⟩
        case round =>
          obtain ⟨k, hk, rfl, rfl⟩ := hrel
          by_cases hlt : k < m
          · have hlt' : (k : Int) < (m : Int) := by omega
            obtain ⟨bb, off, hb, hc⟩ := HG6.out.cells (by omega)
            subst hb
            have r1 := hc k hlt
            have HS := hide (cont_take ys card k (by rw [HL.out]; exact hlt))
            clear hc
            obtain ⟨x, hx⟩ : ∃ x, ys.getD k 0 = x := ⟨_, rfl⟩
            rw [hx] at r1 HS
            clear hx
            cases hp : (ys.take k).contains card with
            | true =>
              rw [hp] at HS
              go_wp2
              go_round
              case rel => exact ⟨k + 1, by omega, by go_num, by rw [HS.out]; rfl⟩
              case measure => simp [intOf]; omega
            | false =>
              rw [hp] at HS
              by_cases hxc : x = card
              · subst hxc
                go_wp2
                go_round
                case rel => exact ⟨k + 1, by omega, by go_num, by rw [HS.out]; simp⟩
                case measure => simp [intOf]; omega
              · have bx : (x == card) = false := by simpa using hxc
                rw [bx] at HS
                go_wp2
                go_round
                case rel => exact ⟨k + 1, by omega, by go_num, by rw [HS.out]; rfl⟩
                case measure => simp [intOf]; omega
          · obtain rfl : k = m := by omega
            have hlt' : ¬ (k : Int) < (k : Int) := by omega
            have hta : ys.take k = ys := List.take_of_length_le (by rw [HL.out]; exact Nat.le_refl _)
            rw [hta]
            clear hta
            cases hp : ys.contains card with
            | true =>
              go_wp2
              go_ret
              exact ⟨rfl, HB6.out⟩
            | false =>
              go_wp2
              go_ret
              exact ⟨rfl, HB6.out⟩
      have f1 : decide (card < 0) = false := by simp; omega
      by_cases q2 : 51 < card
      · have f2 : decide (51 < card) = true := by simp; omega
        go_wp2_with fail
        go_loop [16, 17] (fun x i => ∃ k : Nat, k ≤ m ∧ i = .int .i64 k ∧ x = .bool ((ys.take k).contains card)) (fun _ i => m - (intOf i).toNat)
        case atStart => exact ⟨0, by omega, rfl, rfl⟩
        case round =>
          obtain ⟨k, hk, rfl, rfl⟩ := hrel
          by_cases hlt : k < m
          · have hlt' : (k : Int) < (m : Int) := by omega
            obtain ⟨bb, off, hb, hc⟩ := HG6.out.cells (by omega)
            subst hb
            have r1 := hc k hlt
            have HS := hide (cont_take ys card k (by rw [HL.out]; exact hlt))
            clear hc
            obtain ⟨x, hx⟩ : ∃ x, ys.getD k 0 = x := ⟨_, rfl⟩
            rw [hx] at r1 HS
            clear hx
            cases hp : (ys.take k).contains card with
            | true =>
              rw [hp] at HS
              go_wp2
              go_round
              case rel => exact ⟨k + 1, by omega, by go_num, by rw [HS.out]; rfl⟩
              case measure => simp [intOf]; omega
            | false =>
              rw [hp] at HS
              by_cases hxc : x = card
              · subst hxc
                go_wp2
                go_round
                case rel => exact ⟨k + 1, by omega, by go_num, by rw [HS.out]; simp⟩
                case measure => simp [intOf]; omega
              · have bx : (x == card) = false := by simpa using hxc
                rw [bx] at HS
                go_wp2
                go_round
                case rel => exact ⟨k + 1, by omega, by go_num, by rw [HS.out]; rfl⟩
                case measure => simp [intOf]; omega
          · obtain rfl : k = m := by omega
            have hlt' : ¬ (k : Int) < (k : Int) := by omega
            have hta : ys.take k = ys := List.take_of_length_le (by rw [HL.out]; exact Nat.le_refl _)
            rw [hta]
            clear hta
            cases hp : ys.contains card with
            | true =>
              go_wp2
              go_ret
              exact ⟨rfl, HB6.out⟩
            | false =>
              go_wp2
              go_ret
              exact ⟨rfl, HB6.out⟩
      have f2 : decide (51 < card) = false := by simp; omega
      by_cases q3 : led < -1
      · have f3 : decide (led < -1) = true := by simp; omega
        go_wp2_with fail
        go_loop [16, 17] (fun x i => ∃ k : Nat, k ≤ m ∧ i = .int .i64 k ∧ x = .bool ((ys.take k).contains card)) (fun _ i => m - (intOf i).toNat)
        case atStart => exact ⟨0, by omega, rfl, rfl⟩
        case round =>
          obtain ⟨k, hk, rfl, rfl⟩ := hrel
          by_cases hlt : k < m
          · have hlt' : (k : Int) < (m : Int) := by omega
            obtain ⟨bb, off, hb, hc⟩ := HG6.out.cells (by omega)
            subst hb
            have r1 := hc k hlt
            have HS := hide (cont_take ys card k (by rw [HL.out]; exact hlt))
            clear hc
            obtain ⟨x, hx⟩ : ∃ x, ys.getD k 0 = x := ⟨_, rfl⟩
            rw [hx] at r1 HS
            clear hx
            cases hp : (ys.take k).contains card with
            | true =>
              rw [hp] at HS
              go_wp2
              go_round
              case rel => exact ⟨k + 1, by omega, by go_num, by rw [HS.out]; rfl⟩
              case measure => simp [intOf]; omega
            | false =>
              rw [hp] at HS
              by_cases hxc : x = card
              · subst hxc
                go_wp2
                go_round
                case rel => exact ⟨k + 1, by omega, by go_num, by rw [HS.out]; simp⟩
                case measure => simp [intOf]; omega
              · have bx : (x == card) = false := by simpa using hxc
                rw [bx] at HS
                go_wp2
                go_round
                case rel => exact ⟨k + 1, by omega, by go_num, by rw [HS.out]; rfl⟩
                case measure => simp [intOf]; omega
          · obtain rfl : k = m := by omega
            have hlt' : ¬ (k : Int) < (k : Int) := by omega
            have hta : ys.take k = ys := List.take_of_length_le (by rw [HL.out]; exact Nat.le_refl _)
            rw [hta]
            clear hta
            cases hp : ys.contains card with
            | true =>
              go_wp2
              go_ret
              exact ⟨rfl, HB6.out⟩
            | false =>
              go_wp2
              go_ret
              exact ⟨rfl, HB6.out⟩
      have f3 : decide (led < -1) = false := by simp; omega
      have q4 : 51 < led := by omega
      have f4 : decide (51 < led) = true := by simp; omega
      go_wp2_with fail
      go_loop [16, 17] (fun x i => ∃ k : Nat, k ≤ m ∧ i = .int .i64 k ∧ x = .bool ((ys.take k).contains card)) (fun _ i => m - (intOf i).toNat)
      case atStart => exact ⟨0, by omega, rfl, rfl⟩
      case round =>
        obtain ⟨k, hk, rfl, rfl⟩ := hrel
        by_cases hlt : k < m
        · have hlt' : (k : Int) < (m : Int) := by omega
          obtain ⟨bb, off, hb, hc⟩ := HG6.out.cells (by omega)
          subst hb
          have r1 := hc k hlt
          have HS := hide (cont_take ys card k (by rw [HL.out]; exact hlt))
          clear hc
          obtain ⟨x, hx⟩ : ∃ x, ys.getD k 0 = x := ⟨_, rfl⟩
          rw [hx] at r1 HS
          clear hx
          cases hp : (ys.take k).contains card with
          | true =>
            rw [hp] at HS
            go_wp2
            go_round
            case rel => exact ⟨k + 1, by omega, by go_num, by rw [HS.out]; rfl⟩
            case measure => simp [intOf]; omega
          | false =>
            rw [hp] at HS
            by_cases hxc : x = card
            · subst hxc
              go_wp2
              go_round
              case rel => exact ⟨k + 1, by omega, by go_num, by rw [HS.out]; simp⟩
              case measure => simp [intOf]; omega
            · have bx : (x == card) = false := by simpa using hxc
              rw [bx] at HS
              go_wp2
              go_round
              case rel => exact ⟨k + 1, by omega, by go_num, by rw [HS.out]; rfl⟩
              case measure => simp [intOf]; omega
        · obtain rfl : k = m := by omega
          have hlt' : ¬ (k : Int) < (k : Int) := by omega
          have hta : ys.take k = ys := List.take_of_length_le (by rw [HL.out]; exact Nat.le_refl _)
          rw [hta]
          clear hta
          cases hp : ys.contains card with
          | true =>
            go_wp2
            go_ret
            exact ⟨rfl, HB6.out⟩
          | false =>
            go_wp2
            go_ret
            exact ⟨rfl, HB6.out⟩
    · have f1 : decide (card < 0) = false := by simp; omega
      have f2 : decide (51 < card) = false := by simp; omega
      have f3 : decide (led < -1) = false := by simp; omega
      have f4 : decide (51 < led) = false := by simp; omega
      have q1 : ¬ card < 0 := by omega
      have q2 : ¬ 51 < card := by omega
      have q3 : ¬ led < -1 := by omega
      have q4 : ¬ 51 < led := by omega
      by_cases hme : mayE ys = 0
      · rw [hme]
        cases hco : ys.contains card with
        | false =>
          have HMO : mayOut ys led card = (false, 5) := by unfold mayOut; rw [if_neg hbad, if_neg (by omega), if_neg (by rw [hco]; simp)]
          simp only [HMO]
          have HCO := hide hco
          clear HMO hbad hme hco
          go_wp2_with fail
          go_loop [16, 17] (fun x i => ∃ k : Nat, k ≤ m ∧ i = .int .i64 k ∧ x = .bool ((ys.take k).contains card)) (fun _ i => m - (intOf i).toNat)
          case atStart => exact ⟨0, by omega, rfl, rfl⟩
          case round =>
            obtain ⟨k, hk, rfl, rfl⟩ := hrel
            by_cases hlt : k < m
            · have hlt' : (k : Int) < (m : Int) := by omega
              obtain ⟨bb, off, hb, hc⟩ := HG6.out.cells (by omega)
              subst hb
              have r1 := hc k hlt
              have HS := hide (cont_take ys card k (by rw [HL.out]; exact hlt))
              clear hc
              obtain ⟨x, hx⟩ : ∃ x, ys.getD k 0 = x := ⟨_, rfl⟩
              rw [hx] at r1 HS
              clear hx
              cases hp : (ys.take k).contains card with
              | true =>
                rw [hp] at HS
                go_wp2
                go_round
                case rel => exact ⟨k + 1, by omega, by go_num, by rw [HS.out]; rfl⟩
                case measure => simp [intOf]; omega
              | false =>
                rw [hp] at HS
                by_cases hxc : x = card
                · subst hxc
                  go_wp2
                  go_round
                  case rel => exact ⟨k + 1, by omega, by go_num, by rw [HS.out]; simp⟩
                  case measure => simp [intOf]; omega
                · have bx : (x == card) = false := by simpa using hxc
                  rw [bx] at HS
                  go_wp2
                  go_round
                  case rel => exact ⟨k + 1, by omega, by go_num, by rw [HS.out]; rfl⟩
                  case measure => simp [intOf]; omega
            · obtain rfl : k = m := by omega
              have hlt' : ¬ (k : Int) < (k : Int) := by omega
              have hta : ys.take k = ys := List.take_of_length_le (by rw [HL.out]; exact Nat.le_refl _)
              rw [hta]
              clear hta
              rw [HCO.out]
              go_wp2
              go_ret
              exact ⟨rfl, HB6.out⟩
        | true =>
          have HMO : mayOut ys led card = (pmB (natL ys) led card.toNat, 0) := by unfold mayOut; rw [if_neg hbad, if_neg (by omega), if_pos hco]
          simp only [HMO]
          have hti := toI_natL (mayE_zero hme).1
          have PM := hide (PlayMay_any b m d (natL ys) led card.toNat w6 (by rw [hti]; exact HG6.out))
          rw [show ((card.toNat : Nat) : Int) = card by omega] at PM
          change Hid (Calls Try.prog 12 _ w6 fun e w' => e = .returned (.bool (pmB (natL ys) led card.toNat)) ∧ w' = w6) at PM
          generalize pmB (natL ys) led card.toNat = P at *
          have bP : (P == P) = true := by simp
          have HCO := hide hco
          clear HMO hbad hme hco hti
          go_wp2_with fail
          go_loop [16, 17] (fun x i => ∃ k : Nat, k ≤ m ∧ i = .int .i64 k ∧ x = .bool ((ys.take k).contains card)) (fun _ i => m - (intOf i).toNat)
          case atStart => exact ⟨0, by omega, rfl, rfl⟩
          case round =>
            obtain ⟨k, hk, rfl, rfl⟩ := hrel
            by_cases hlt : k < m
            · have hlt' : (k : Int) < (m : Int) := by omega
              obtain ⟨bb, off, hb, hc⟩ := HG6.out.cells (by omega)
              subst hb
              have r1 := hc k hlt
              have HS := hide (cont_take ys card k (by rw [HL.out]; exact hlt))
              clear hc
              obtain ⟨x, hx⟩ : ∃ x, ys.getD k 0 = x := ⟨_, rfl⟩
              rw [hx] at r1 HS
              clear hx
              cases hp : (ys.take k).contains card with
              | true =>
                rw [hp] at HS
                go_wp2
                go_round
                case rel => exact ⟨k + 1, by omega, by go_num, by rw [HS.out]; rfl⟩
                case measure => simp [intOf]; omega
              | false =>
                rw [hp] at HS
                by_cases hxc : x = card
                · subst hxc
                  go_wp2
                  go_round
                  case rel => exact ⟨k + 1, by omega, by go_num, by rw [HS.out]; simp⟩
                  case measure => simp [intOf]; omega
                · have bx : (x == card) = false := by simpa using hxc
                  rw [bx] at HS
                  go_wp2
                  go_round
                  case rel => exact ⟨k + 1, by omega, by go_num, by rw [HS.out]; rfl⟩
                  case measure => simp [intOf]; omega
            · obtain rfl : k = m := by omega
              have hlt' : ¬ (k : Int) < (k : Int) := by omega
              have hta : ys.take k = ys := List.take_of_length_le (by rw [HL.out]; exact Nat.le_refl _)
              rw [hta]
              clear hta
              rw [HCO.out]
              go_wp2_with fail
              refine PM.out.mono ?_
              rintro e w7 ⟨rfl, hw7⟩
              subst w7
              go_wp2
              go_ret
              exact ⟨rfl, HB6.out⟩
      · have HMO : mayOut ys led card = (false, mayE ys) := by unfold mayOut; rw [if_neg hbad, if_pos hme]
        simp only [HMO]
        obtain ⟨E, hE⟩ : ∃ E, mayE ys = E := ⟨_, rfl⟩
        rw [hE] at hme ⊢
        have bE0 : (E == 0) = false := by simpa using hme
        have bE1 : (E != 0) = true := by simpa using hme
        have bEE : (E == E) = true := by simp
        clear HMO hbad hE
        go_wp2_with fail
        go_loop [16, 17] (fun x i => ∃ k : Nat, k ≤ m ∧ i = .int .i64 k ∧ x = .bool ((ys.take k).contains card)) (fun _ i => m - (intOf i).toNat)
        case atStart => exact ⟨0, by omega, rfl, rfl⟩
        case round =>
          obtain ⟨k, hk, rfl, rfl⟩ := hrel
          by_cases hlt : k < m
          · have hlt' : (k : Int) < (m : Int) := by omega
            obtain ⟨bb, off, hb, hc⟩ := HG6.out.cells (by omega)
            subst hb
            have r1 := hc k hlt
            have HS := hide (cont_take ys card k (by rw [HL.out]; exact hlt))
            clear hc
            obtain ⟨x, hx⟩ : ∃ x, ys.getD k 0 = x := ⟨_, rfl⟩
            rw [hx] at r1 HS
            clear hx
            cases hp : (ys.take k).contains card with
            | true =>
              rw [hp] at HS
              go_wp2
              go_round
              case rel => exact ⟨k + 1, by omega, by go_num, by rw [HS.out]; rfl⟩
              case measure => simp [intOf]; omega
            | false =>
              rw [hp] at HS
              by_cases hxc : x = card
              · subst hxc
                go_wp2
                go_round
                case rel => exact ⟨k + 1, by omega, by go_num, by rw [HS.out]; simp⟩
                case measure => simp [intOf]; omega
              · have bx : (x == card) = false := by simpa using hxc
                rw [bx] at HS
                go_wp2
                go_round
                case rel => exact ⟨k + 1, by omega, by go_num, by rw [HS.out]; rfl⟩
                case measure => simp [intOf]; omega
          · obtain rfl : k = m := by omega
            have hlt' : ¬ (k : Int) < (k : Int) := by omega
            have hta : ys.take k = ys := List.take_of_length_le (by rw [HL.out]; exact Nat.le_refl _)
            rw [hta]
            clear hta
            cases hp : ys.contains card with
            | true =>
              go_wp2
              go_ret
              exact ⟨rfl, HB6.out⟩
            | false =>
              go_wp2
              go_ret
              exact ⟨rfl, HB6.out⟩

end Go.Proofs.Ytiihnlpoagnkhaa
