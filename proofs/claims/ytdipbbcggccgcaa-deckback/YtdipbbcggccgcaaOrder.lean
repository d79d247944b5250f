/-
  What package deck's Order answers, for every n and in: how often the riffle must be done until all is back, or the error. No conditions beyond those that each theorem bears.
-/
import Derived.Test.YtdipbbcggccgcaaOrd
namespace Go.Proofs.Ytdipbbcggccgcaa
open Go.RowKit

theorem ident_step (n : Nat) (L : List Int) (k : Nat) (hL : L.length = n) (hk : k < n) (H : ∀ p, p < k → L.getD p 0 = (p : Int)) : ∀ p, p < k + 1 → (L.set k (k : Int)).getD p 0 = (p : Int) := by
  intro p hp
  rw [getD_set _ _ _ _ (by omega)]
  by_cases h : p = k
  · subst h; rw [if_pos rfl]
  · rw [if_neg h]; exact H p (by omega)

theorem eq_ident (n : Nat) (L : List Int) (hL : L.length = n) (H : ∀ p, p < n → L.getD p 0 = (p : Int)) : L = ident n := by
  apply List.ext_getElem (by rw [hL, ident_length])
  intro p h1 h2
  have := H p (by omega)
  rw [← ident_get n p (by omega)] at this
  simpa [List.getD, h1, h2] using this

set_option maxHeartbeats 400000 in
theorem rising_any (n : Nat) (w : World) (hn : n ≤ 104) :
    Calls Try.prog 37 #[.int .i64 n] w fun e w' => ∃ a' c', e = .returned (.slice a' n c') ∧ w'.ownsRow w.heap.size 3 1 (.slice a' n c') n ((ident n).map (Value.int .i64)) ∧ Below w.heap.size w w' := by
  obtain ⟨i0, hi, hz0, hz1, hz2⟩ := info_parts Try.info3
  have hmm : n ≤ maxLen := by unfold maxLen; omega
  have hby : i0.bytes * n ≤ 281474976710656 := by rw [hz2]; omega
  go_enter Try.func37, Try.ntmps37
  go_wp2_with (at_make; refine wpList_make_full w rfl _ _ 30 rfl w.heap.size 3 i0 (.int .i64 0) 1 Try.underlying30 hi hz0 hz1 _ _ _ _ n rfl rfl (by omega) (by omega) hby hmm (Nat.le_refl _) ?_)
  intro w1 hown hgrow
  have hb1 : Below w.heap.size w w1 := (Below.refl _ _).grown hgrow (Nat.le_refl _) (fun k hk => by simp at hk)
  rw [made_ints] at hown
  clear hgrow
  go_wp2
  go_loopw [8] (fun i wr => ∃ (k : Nat) (L : List Int), k ≤ n ∧ i = .int .i64 k ∧ wr.ownsRow w.heap.size 3 1 (.slice (some ⟨w.heap.size, 0, none⟩) n n) n (L.map (Value.int .i64)) ∧ Below w.heap.size w wr ∧ Hid (∀ p, p < k → L.getD p 0 = (p : Int))) (fun i _ => n - (intOf i).toNat)
  case atStart => exact ⟨0, _, by omega, rfl, hown, hb1, fun p hp => absurd hp (by omega)⟩
  case round =>
    clear hown hb1
    obtain ⟨k, L, hk, rfl, hown, hbel, HL⟩ := hrel
    have hLl : Hid (L.length = n) := hide (by simpa using hown.1)
    by_cases hlt : k < n
    · obtain ⟨c1, f1⟩ := own_cell hown k hlt
      have HO := hide (own_set hown k (k : Int))
      have HB := hide hbel
      have HS := hide (ident_step n L k hLl.out hlt HL.out)
      clear hown hbel
      go_wp2
      go_roundw
      case rel => exact ⟨k + 1, _, by omega, by go_num, HO.out, HB.out.setCell (Nat.le_refl _) _, HS.out⟩
      case measure => simp [intOf]; omega
    · obtain rfl : k = n := by omega
      have hlt' : ¬ (k : Int) < (k : Int) := by omega
      go_wp2
      go_ret
      refine ⟨_, _, rfl, ?_, hbel⟩
      rw [← eq_ident k L hLl.out HL.out]
      exact hown

theorem isId_step (n : Nat) (zs : List Int) (k : Nat) (_hk : k < n) (h : zs.getD k 0 = (k : Int)) (H : ∀ p, p < k → zs.getD p 0 = (p : Int)) : ∀ p, p < k + 1 → zs.getD p 0 = (p : Int) := by
  intro p hp
  by_cases e : p = k
  · subst e; exact h
  · exact H p (by omega)

set_option maxHeartbeats 400000 in
theorem isRising_any (a : Option Addr) (n c : Nat) (zs : List Int) (w : World) (h : Rd w a n c zs) :
    Calls Try.prog 38 #[.slice a n c] w fun e w' => e = .returned (.bool (decide (zs = ident n))) ∧ w' = w := by
  have hcm := h.max
  have hcn := h.cap
  unfold maxLen at hcm
  go_enter Try.func38, Try.ntmps38
  go_wp2
  go_loop [7] (fun i => ∃ k : Nat, k ≤ n ∧ i = .int .i64 k ∧ Hid (∀ p, p < k → zs.getD p 0 = (p : Int))) (fun i => n - (intOf i).toNat)
  case atStart => exact ⟨0, by omega, rfl, fun p hp => absurd hp (by omega)⟩
  case round =>
    obtain ⟨k, hk, rfl, HL⟩ := hrel
    by_cases hlt : k < n
    · obtain ⟨b, off, rfl, hc⟩ := h.cells (by omega)
      have r1 := hc k hlt
      have HLEN := hide h.len
      clear hc h
      by_cases hv : zs.getD k 0 = (k : Int)
      · have hb : (zs[k]?.getD 0 != (k : Int)) = false := by simpa using hv
        have HS := hide (isId_step n zs k hlt hv HL.out)
        clear hv
        go_wp2
        go_round
        case rel => exact ⟨k + 1, by omega, by go_num, HS.out⟩
        case measure => simp [intOf]; omega
      · have hb : (zs[k]?.getD 0 != (k : Int)) = true := by simpa using hv
        have HV := hide hv
        clear hv
        go_wp2
        go_ret
        refine ⟨ret_bool ?_, rfl⟩
        symm
        rw [decide_eq_false_iff_not]
        intro e
        exact HV.out (by rw [e]; exact ident_get n k hlt)
    · obtain rfl : k = n := by omega
      have hlt' : ¬ (k : Int) < (k : Int) := by omega
      go_wp2
      go_ret
      refine ⟨ret_bool ?_, rfl⟩
      symm
      rw [decide_eq_true_iff]
      exact eq_ident k zs h.len HL.out

set_option maxHeartbeats 400000 in
theorem Order_no (n : Int) (b : Bool) (w : World) (h : n < 0 ∨ 104 < n ∨ n % 2 = 1) :
    Calls Try.prog 18 #[.int .i64 n, .bool b] w fun e w' => e = .returned (.tuple #[.int .i64 0, .int .i64 2]) ∧ w' = w := by
  have hd : decide (0 ≤ n ∧ n ≤ 104 ∧ n % 2 = 0) = false := by simp; omega
  go_enter Try.func18, Try.ntmps18
  go_wp2_with fail
  refine (mayBe_any _ _).mono ?_
  rintro e w' ⟨rfl, rfl⟩
  rw [hd]
  go_wp2_with fail
  go_ret2
  exact ⟨rfl, rfl⟩

set_option maxHeartbeats 400000 in
theorem Order_yes (n : Nat) (b : Bool) (w : World) (hev : n % 2 = 0) (hn : n ≤ 104) :
    Calls Try.prog 18 #[.int .i64 n, .bool b] w fun e w' => e = .returned (.tuple #[.int .i64 (KK n b), .int .i64 0]) ∧ Below w.heap.size w w' := by
  have hd : decide (0 ≤ (n : Int) ∧ (n : Int) ≤ 104 ∧ (n : Int) % 2 = 0) = true := by simp; omega
  have hT1 := (tab n b hev hn).one
  have hT2 := (tab n b hev hn).le
  have HBK := hide (R_back n b hev hn)
  have HNO := hide (R_not n b hev hn)
  obtain ⟨K, hK⟩ : ∃ K, K = KK n b := ⟨_, rfl⟩
  rw [← hK] at HBK HNO hT1 hT2 ⊢
  clear hK
  go_enter Try.func18, Try.ntmps18
  go_wp2_with fail
  refine (mayBe_any _ _).mono ?_
  rintro e w' ⟨rfl, hw'⟩
  subst w'
  rw [hd]
  go_wp2_with fail
  refine (rising_any n _ hn).mono ?_
  rintro e w1 ⟨a1, c1, rfl, hO1, hB1⟩
  have hR1 := Rd.of_own hO1
  clear hO1
  go_wp2_with fail
  refine (riffled_any _ n _ (ident n) b _ hR1 hev hn).mono ?_
  rintro e w2 ⟨a2, c2, rfl, hR2, hB2⟩
  have hB3 := hB1.trans (hB2.mono hB1.size)
  clear hR1 hB1 hB2
  go_wp2_with fail
  go_loopw [6, 7] (fun t l wr => ∃ (k : Nat) (a : Option Addr) (c : Nat), 1 ≤ k ∧ k ≤ K ∧ t = .int .i64 k ∧ l = .slice a n c ∧ Rd wr a n c (R n b k) ∧ Below w.heap.size w wr) (fun t _ _ => K - (intOf t).toNat)
  case atStart => exact ⟨1, _, _, by omega, hT1, rfl, rfl, hR2, hB3⟩
  case round =>
    clear hR2 hB3
    obtain ⟨k, a, c, hk1, hk2, rfl, rfl, hR, hB⟩ := hrel
    by_cases hlt : k < K
    · have hdec : decide (R n b k = ident n) = false := by rw [decide_eq_false_iff_not]; exact HNO.out k hk1 hlt
      go_wp2_with fail
      refine (isRising_any _ _ _ _ _ hR).mono ?_
      rintro e wx ⟨rfl, rfl⟩
      rw [hdec]
      go_wp2_with fail
      refine (riffled_any _ n _ _ b _ hR hev hn).mono ?_
      rintro e w3 ⟨a3, c3, rfl, hR3, hB3⟩
      have HB := hide (hB.trans (hB3.mono hB.size))
      have HR := hide hR3
      clear hR hB hB3 hR3
      go_wp2_with fail
      go_roundw
      case rel => exact ⟨k + 1, _, _, by omega, by omega, by go_num, rfl, HR.out, HB.out⟩
      case measure => simp [intOf]; omega
    · obtain rfl : k = K := by omega
      have hdec : decide (R n b k = ident n) = true := by rw [decide_eq_true_iff]; exact HBK.out
      go_wp2_with fail
      refine (isRising_any _ _ _ _ _ hR).mono ?_
      rintro e wx ⟨rfl, rfl⟩
      rw [hdec]
      go_wp2_with fail
      go_ret2
      exact ⟨rfl, hB⟩

end Go.Proofs.Ytdipbbcggccgcaa
