/-
  The law 'CribPegs': every way through it ends with true. No conditions beyond those that each theorem bears.
-/
import Derived.Test.YtneafmjbekafmaaPegRef
namespace Go.Proofs.Ytneafmjbekafmaa
open Go.RowKit Go.Shelf

set_option maxRecDepth 100000 in
set_option maxHeartbeats 4000000 in
theorem pegs_any (a : Option Addr) (n c : Nat) (zs : List Int) (w : World) (h : Rd w a n c zs) (hr : n * 8 ≤ 140737488351232) :
    Calls Try.prog 5 #[.slice a n c] w fun e w' => e = .returned (.bool true) ∧ Below w.heap.size w w' := by
  have hlen := h.len
  have HH := hide h
  have HL := hide hlen
  clear h hlen
  go_enter Try.func5, Try.ntmps5
  go_wp2_with fail
  refine (ints_any a n c zs w HH.out hr).mono ?_
  rintro e w1 ⟨a1, c1, rfl, hR1, hB1⟩
  have HR1 := hide hR1
  have HB1 := hide hB1
  clear hR1 hB1
  go_wp2_with fail
  refine (Peg_any a1 n c1 zs w1 HR1.out).mono ?_
  rintro e w2 ⟨V, E, hPO, rfl, hB2⟩
  have HB2 := hide (HB1.out.trans (hB2.mono HB1.out.size))
  have HH2 := hide (HH.out.mono HB2.out)
  have PO := hide hPO
  clear hB2 HB1 HR1 hPO
  by_cases hb : 1 ≤ n ∧ n ≤ 13
  · obtain ⟨h1, h13⟩ := hb
    have h1' : (1 : Int) ≤ (n : Int) := by omega
    have h13' : (n : Int) ≤ 13 := by omega
    have d1 : decide ((1 : Int) ≤ (n : Int)) = true := by simp; omega
    go_wp2_with fail
    refine (CardsMay_any a n c zs w2 HH2.out).mono ?_
    rintro e w3 ⟨rfl, q, hw3⟩
    subst hw3
    by_cases hm : mayE zs = 0
    · obtain ⟨hlt, hti, hnd⟩ := may_cards hm
      have HM := hide hm
      rw [hm]
      have PR := hide (PegOf_any a n c (natL zs) hlt hnd h1 h13 (w2.drewN q) (by rw [hti]; exact HH2.out.mono (drewN_below _ _ _)))
      clear hm hlt hti hnd
      go_wp2_with fail
      refine PR.out.mono ?_
      rintro e w4 ⟨X, hX, rfl, hB4⟩
      have HB4 := hide (HB2.out.trans (((drewN_below w2.heap.size w2 q).trans (hB4.mono (Nat.le_refl _))).mono HB2.out.size))
      clear hB4 PR
      by_cases h31 : 31 < sumP (natL zs) n
      · have hX1 := hX.1 h31
        obtain ⟨hE, hV⟩ := PO.out.over h1 h13 HM.out h31
        subst hX1 hE hV
        clear hX PO
        go_wp2
        go_ret
        exact ⟨rfl, HB4.out⟩
      · obtain ⟨K, hK, hXv⟩ := hX.2 (by omega)
        obtain ⟨hE, K', hK', hV⟩ := PO.out.ok h1 h13 HM.out (by omega)
        have hKK := hK.unique hK'
        subst hKK
        rw [← hXv] at hV
        obtain ⟨y, hy⟩ : ∃ y : Nat, X = y := ⟨_, hXv⟩
        subst hE hV hy
        have hy0 : ¬ ((y : Nat) : Int) < 0 := by omega
        clear hX PO hXv hK hK'
        go_wp2
        go_ret
        exact ⟨rfl, HB4.out⟩
    · obtain ⟨hE, hV⟩ := PO.out.may h1 h13 hm
      obtain ⟨x, hx⟩ : ∃ x, mayE zs = x := ⟨_, rfl⟩
      rw [hx] at hm hE ⊢
      subst hE hV
      have hee : (E == E) = true := by simp
      clear hx PO
      go_wp2
      go_ret
      exact ⟨rfl, HB2.out.trans ((drewN_below _ _ _))⟩
  · obtain ⟨hE, hV⟩ := PO.out.bad hb
    subst hE hV
    clear PO
    by_cases h1 : 1 ≤ n
    · have h1' : (1 : Int) ≤ (n : Int) := by omega
      have d1 : decide ((1 : Int) ≤ (n : Int)) = true := by simp; omega
      have h13' : ¬ (n : Int) ≤ 13 := by omega
      go_wp2
      go_ret
      exact ⟨rfl, HB2.out⟩
    · have h1' : ¬ (1 : Int) ≤ (n : Int) := by omega
      have d1 : decide ((1 : Int) ≤ (n : Int)) = false := by simp; omega
      go_wp2
      go_ret
      exact ⟨rfl, HB2.out⟩

end Go.Proofs.Ytneafmjbekafmaa
