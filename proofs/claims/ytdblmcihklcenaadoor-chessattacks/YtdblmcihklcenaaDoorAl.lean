/-
  Chess: Attackers, Check and Material beside what the document says: the law, walked. No conditions beyond those that each theorem bears.
-/
import Derived.Test.YtdblmcihklcenaaDoorFa
import Derived.Test.YtdblmcihklcenaaDoorCm2
import Derived.Test.YtdblmcihklcenaaDoorMr
namespace Go.Proofs.YtdblmcihklcenaaDoor
open Go.RowKit Go.Shelf

attribute [local irreducible] mS tl chk atL MayC

set_option maxRecDepth 100000 in
set_option maxHeartbeats 16000000 in
theorem attacks_law (a : Option Addr) (n c : Nat) (Z : List Int) (t k e h f p b : Int) (he1 : -9223372036854775808 ≤ e) (he2 : e ≤ 9223372036854775807) (w : World) (hz : Rd w a n c Z) (hr : n * 8 ≤ 140737488351232) (hT : Tabs w) :
    Calls Tryd.prog 3 #[.agg (chA a n c t k e h f), .int .i64 p, .int .i64 b] w fun r w' => r = .returned (.bool true) ∧ Below w.heap.size w w' := by
  obtain ⟨w1, hw1⟩ : ∃ w1, w.alloc (.cells (chA a n c t k e h f) 24) = w1 := ⟨_, rfl⟩
  have B1 : Below w.heap.size w w1 := by rw [← hw1]; exact (Below.refl _ w).alloc (Nat.le_refl _) _
  have C1 : Ch w1 w.heap.size a n c t k e h f := by rw [← hw1]; exact Ch.new w a n c t k e h f
  have HB0 := hide B1
  have HCH : Hid (∀ W, Below w1.heap.size w1 W → Ch W w.heap.size a n c t k e h f) := hide (fun W hb => C1.below hb C1.lt)
  have HZW : Hid (∀ W, Below w1.heap.size w1 W → Rd W a n c Z) := hide (fun W hb => (hz.mono B1).mono hb)
  have HTW : Hid (∀ W, Below w1.heap.size w1 W → Tabs W) := hide (fun W hb => (hT.mono B1).mono hb)
  have HOF : Hid (∀ W, Below w1.heap.size w1 W → Calls Tryd.prog 5 #[.agg (chA a n c t k e h f)] W fun r w' => ∃ a' c', r = .returned (.agg (chA a' n c' t k e h f)) ∧ Rd w' a' n c' Z ∧ Below W.heap.size W w') := hide (fun W hb => ChessOf_any a n c Z t k e h f W (HZW.out W hb) hr)
  have HCM : Hid (∀ W, Below w1.heap.size w1 W → Calls Tryd.prog 8 #[.agg (chA a n c t k e h f)] W fun r w' => r = .returned (.bool (dB (MayC Z t k e h f))) ∧ Below W.heap.size W w') := hide (fun W hb => ChessMay_any a n c Z t k e h f he1 he2 W (HZW.out W hb))
  have HB1 : Hid (Below w1.heap.size w1 w1) := hide (Below.refl _ _)
  have hch := C1
  clear hz hT B1 C1
  by_cases hM : MayC Z t k e h f
  · rw [dB_t hM] at HCM
    have hn : n = 64 := by have := (HZW.out w1 HB1.out).len; have := hM.std.1; omega
    subst hn
    obtain ⟨tn, htn, htb⟩ : ∃ tn : Nat, t = (tn : Int) ∧ tn ≤ 1 := by
      have hts : t = 0 ∨ t = 1 := by have := hM; unfold MayC at this; exact this.2.1
      rcases hts with h | h
      · exact ⟨0, by omega, by omega⟩
      · exact ⟨1, by omega, by omega⟩
    have hS := hM.std
    have HMO : Hid (∀ W, Below w1.heap.size w1 W → Calls Tryd.prog 9 #[.agg (chA a 64 c t k e h f)] W fun r w' => r = .returned (.tuple #[.int .i64 (mS Z 64), .bool (tl Z)]) ∧ Below W.heap.size W w') := hide (fun W hb => MaterialOf_any a c Z t k e h f hS.pz W (HZW.out W hb))
    have HIC : Hid (∀ W, Below w1.heap.size w1 W → Calls Tryd.prog 10 #[.slice a 64 c, .int .i64 t] W fun r w' => r = .returned (.bool (chk Z tn)) ∧ Below W.heap.size W w') := hide (fun W hb => by rw [htn]; exact InCheck_std a c Z tn htb hS W (HZW.out W hb))
    have HTN := hide htn
    clear htn
    by_cases hR : 0 ≤ p ∧ p ≤ 63 ∧ (b = 0 ∨ b = 1)
    · obtain ⟨pn, rfl⟩ := Int.eq_ofNat_of_zero_le hR.1
      obtain ⟨bn, hbn, hbb⟩ : ∃ bn : Nat, b = (bn : Int) ∧ bn ≤ 1 := ⟨b.toNat, by omega, by omega⟩
      subst hbn
      have hp : pn < 64 := by omega
      have HAO : Hid (∀ W, Below w1.heap.size w1 W → Calls Tryd.prog 12 #[.slice a 64 c, .int .i64 pn, .int .i64 bn] W fun e w' => ∃ a' c', e = .returned (.slice a' (atL Z pn bn).length c') ∧ Rd w' a' (atL Z pn bn).length c' (toI (atL Z pn bn)) ∧ Below W.heap.size W w') := hide (fun W hb => AttackersOf_any a c Z pn bn hp hS.pz W (HZW.out W hb))
      have HSI := hide sameIntsL_any
      clear hR hS
      go_enter Tryd.func3, Tryd.ntmps3
      go_upto_region 1 with fail
      clear hw1
      go_wp2_with (refine wpList_load_ch rfl (.tmp 3) rfl w.heap.size rfl hch ?_)
      refine (HOF.out w1 HB1.out).mono ?_
      rintro r w2 ⟨a2, c2, rfl, hR, hb⟩
      have HB2 : Hid (Below w1.heap.size w1 w2) := hide (HB1.out.trans (hb.mono HB1.out.size))
      have hch := HCH.out w2 HB2.out
      have HR2 := hide hR
      clear hR
      clear hb
      go_wp2_with fail
      refine (Attackers_yes a2 64 c2 Z t k e h f he1 he2 w2 HR2.out (HTW.out w2 HB2.out) pn bn hM hp hbb).mono ?_
      rintro r w3 ⟨a3, m3, c3, rfl, hL, hb⟩
      have HB3 : Hid (Below w1.heap.size w1 w3) := hide (HB2.out.trans (hb.mono HB2.out.size))
      have hch := HCH.out w3 HB3.out
      have HL3X : Hid (∀ W, Below w3.heap.size w3 W → Rd W a3 m3 c3 (toI (atL Z pn bn))) := hide (fun W hb => hL.mono hb)
      have HQ3 : Hid (Below w3.heap.size w3 w3) := hide (Below.refl _ _)
      clear hL
      clear hb
      go_wp2_with (refine wpList_load_ch rfl (.tmp 3) rfl w.heap.size rfl hch ?_)
      refine (HOF.out w3 HB3.out).mono ?_
      rintro r w4 ⟨a4, c4, rfl, hR, hb⟩
      have HB4 : Hid (Below w1.heap.size w1 w4) := hide (HB3.out.trans (hb.mono HB3.out.size))
      have hch := HCH.out w4 HB4.out
      have HR4 := hide hR
      clear hR
      have HQ4 : Hid (Below w3.heap.size w3 w4) := hide (HQ3.out.trans (hb.mono HQ3.out.size))
      clear hb
      go_wp2_with fail
      refine (Check_yes a4 64 c4 Z t k e h f he1 he2 w4 HR4.out (HTW.out w4 HB4.out) tn HTN.out htb hM).mono ?_
      rintro r w5 ⟨rfl, hb⟩
      have HB5 : Hid (Below w1.heap.size w1 w5) := hide (HB4.out.trans (hb.mono HB4.out.size))
      have hch := HCH.out w5 HB5.out
      have HQ5 : Hid (Below w3.heap.size w3 w5) := hide (HQ4.out.trans (hb.mono HQ4.out.size))
      clear hb
      go_wp2_with (refine wpList_load_ch rfl (.tmp 3) rfl w.heap.size rfl hch ?_)
      refine (HOF.out w5 HB5.out).mono ?_
      rintro r w6 ⟨a6, c6, rfl, hR, hb⟩
      have HB6 : Hid (Below w1.heap.size w1 w6) := hide (HB5.out.trans (hb.mono HB5.out.size))
      have hch := HCH.out w6 HB6.out
      have HR6 := hide hR
      clear hR
      have HQ6 : Hid (Below w3.heap.size w3 w6) := hide (HQ5.out.trans (hb.mono HQ5.out.size))
      clear hb
      go_wp2_with fail
      refine (Material_yes a6 64 c6 Z t k e h f he1 he2 w6 HR6.out (HTW.out w6 HB6.out) hM).mono ?_
      rintro r w7 ⟨rfl, hb⟩
      have HB7 : Hid (Below w1.heap.size w1 w7) := hide (HB6.out.trans (hb.mono HB6.out.size))
      have hch := HCH.out w7 HB7.out
      have HQ7 : Hid (Below w3.heap.size w3 w7) := hide (HQ6.out.trans (hb.mono HQ6.out.size))
      clear hb
      go_wp2_with (refine wpList_load_ch rfl (.tmp 3) rfl w.heap.size rfl hch ?_)
      refine (HCM.out w7 HB7.out).mono ?_
      rintro r w8 ⟨rfl, hb⟩
      have HB8 : Hid (Below w1.heap.size w1 w8) := hide (HB7.out.trans (hb.mono HB7.out.size))
      have hch := HCH.out w8 HB8.out
      have HQ8 : Hid (Below w3.heap.size w3 w8) := hide (HQ7.out.trans (hb.mono HQ7.out.size))
      clear hb
      go_wp2_with (refine wpList_load_ch rfl (.tmp 3) rfl w.heap.size rfl hch ?_)
      refine (HMO.out w8 HB8.out).mono ?_
      rintro r w9 ⟨rfl, hb⟩
      have HB9 : Hid (Below w1.heap.size w1 w9) := hide (HB8.out.trans (hb.mono HB8.out.size))
      have hch := HCH.out w9 HB9.out
      have HQ9 : Hid (Below w3.heap.size w3 w9) := hide (HQ8.out.trans (hb.mono HQ8.out.size))
      clear hb
      obtain ⟨g0, g1, -, -, -, -⟩ := (HCH.out w9 HB9.out).cells
      go_wp2_with fail
      refine (HIC.out w9 HB9.out).mono ?_
      rintro r w10 ⟨rfl, hb⟩
      have HB10 : Hid (Below w1.heap.size w1 w10) := hide (HB9.out.trans (hb.mono HB9.out.size))
      have hch := HCH.out w10 HB10.out
      have HQ10 : Hid (Below w3.heap.size w3 w10) := hide (HQ9.out.trans (hb.mono HQ9.out.size))
      clear hb
      obtain ⟨g0, g1, -, -, -, -⟩ := (HCH.out w10 HB10.out).cells
      go_wp2_with fail
      refine (HAO.out w10 HB10.out).mono ?_
      rintro r w11 ⟨a11, c11, rfl, hL11, hb⟩
      have HB11 : Hid (Below w1.heap.size w1 w11) := hide (HB10.out.trans (hb.mono HB10.out.size))
      have HS11 := hide (HSI.out _ _ _ _ _ _ _ _ w11 (HL3X.out w11 (HQ10.out.trans (hb.mono HQ10.out.size))) hL11)
      rw [decide_eq_true rfl] at HS11
      clear hb hL11
      go_wp2_with fail
      refine HS11.out.mono ?_
      rintro r w12 ⟨rfl, q, hq⟩
      have HB12 : Hid (Below w1.heap.size w1 w12) := hide (by rw [hq]; exact HB11.out.trans (drewN_below _ _ _))
      clear hq
      go_wp2_with fail
      go_ret
      exact ⟨rfl, HB0.out.trans (HB12.out.mono HB0.out.size)⟩
    · clear hS
      go_enter Tryd.func3, Tryd.ntmps3
      go_upto_region 1 with fail
      clear hw1
      go_wp2_with (refine wpList_load_ch rfl (.tmp 3) rfl w.heap.size rfl hch ?_)
      refine (HOF.out w1 HB1.out).mono ?_
      rintro r w2 ⟨a2, c2, rfl, hR, hb⟩
      have HB2 : Hid (Below w1.heap.size w1 w2) := hide (HB1.out.trans (hb.mono HB1.out.size))
      have hch := HCH.out w2 HB2.out
      have HR2 := hide hR
      clear hR
      clear hb
      go_wp2_with fail
      refine (Attackers_range a2 64 c2 Z t k e h f he1 he2 w2 HR2.out (HTW.out w2 HB2.out) p b hM hR).mono ?_
      rintro r w3 ⟨rfl, hb⟩
      have HB3 : Hid (Below w1.heap.size w1 w3) := hide (HB2.out.trans (hb.mono HB2.out.size))
      have hch := HCH.out w3 HB3.out
      clear hb
      go_wp2_with (refine wpList_load_ch rfl (.tmp 3) rfl w.heap.size rfl hch ?_)
      refine (HOF.out w3 HB3.out).mono ?_
      rintro r w4 ⟨a4, c4, rfl, hR, hb⟩
      have HB4 : Hid (Below w1.heap.size w1 w4) := hide (HB3.out.trans (hb.mono HB3.out.size))
      have hch := HCH.out w4 HB4.out
      have HR4 := hide hR
      clear hR
      clear hb
      go_wp2_with fail
      refine (Check_yes a4 64 c4 Z t k e h f he1 he2 w4 HR4.out (HTW.out w4 HB4.out) tn HTN.out htb hM).mono ?_
      rintro r w5 ⟨rfl, hb⟩
      have HB5 : Hid (Below w1.heap.size w1 w5) := hide (HB4.out.trans (hb.mono HB4.out.size))
      have hch := HCH.out w5 HB5.out
      clear hb
      go_wp2_with (refine wpList_load_ch rfl (.tmp 3) rfl w.heap.size rfl hch ?_)
      refine (HOF.out w5 HB5.out).mono ?_
      rintro r w6 ⟨a6, c6, rfl, hR, hb⟩
      have HB6 : Hid (Below w1.heap.size w1 w6) := hide (HB5.out.trans (hb.mono HB5.out.size))
      have hch := HCH.out w6 HB6.out
      have HR6 := hide hR
      clear hR
      clear hb
      go_wp2_with fail
      refine (Material_yes a6 64 c6 Z t k e h f he1 he2 w6 HR6.out (HTW.out w6 HB6.out) hM).mono ?_
      rintro r w7 ⟨rfl, hb⟩
      have HB7 : Hid (Below w1.heap.size w1 w7) := hide (HB6.out.trans (hb.mono HB6.out.size))
      have hch := HCH.out w7 HB7.out
      clear hb
      go_wp2_with (refine wpList_load_ch rfl (.tmp 3) rfl w.heap.size rfl hch ?_)
      refine (HCM.out w7 HB7.out).mono ?_
      rintro r w8 ⟨rfl, hb⟩
      have HB8 : Hid (Below w1.heap.size w1 w8) := hide (HB7.out.trans (hb.mono HB7.out.size))
      have hch := HCH.out w8 HB8.out
      clear hb
      go_wp2_with (refine wpList_load_ch rfl (.tmp 3) rfl w.heap.size rfl hch ?_)
      refine (HMO.out w8 HB8.out).mono ?_
      rintro r w9 ⟨rfl, hb⟩
      have HB9 : Hid (Below w1.heap.size w1 w9) := hide (HB8.out.trans (hb.mono HB8.out.size))
      have hch := HCH.out w9 HB9.out
      clear hb
      obtain ⟨g0, g1, -, -, -, -⟩ := (HCH.out w9 HB9.out).cells
      go_wp2_with fail
      refine (HIC.out w9 HB9.out).mono ?_
      rintro r w10 ⟨rfl, hb⟩
      have HB10 : Hid (Below w1.heap.size w1 w10) := hide (HB9.out.trans (hb.mono HB9.out.size))
      have hch := HCH.out w10 HB10.out
      clear hb
      obtain ⟨g0, g1, -, -, -, -⟩ := (HCH.out w10 HB10.out).cells
      have hR3 : p < 0 ∨ (¬ p < 0 ∧ 63 < p) ∨ (¬ p < 0 ∧ ¬ 63 < p ∧ b < 0) ∨ (¬ p < 0 ∧ ¬ 63 < p ∧ ¬ b < 0 ∧ 1 < b) := by omega
      clear hR
      rcases hR3 with q | ⟨q, q2⟩ | ⟨q, q2, q3⟩ | ⟨q, q2, q3, q4⟩
      · go_wp2_with fail
        go_ret
        exact ⟨rfl, HB0.out.trans (HB10.out.mono HB0.out.size)⟩
      · go_wp2_with fail
        go_ret
        exact ⟨rfl, HB0.out.trans (HB10.out.mono HB0.out.size)⟩
      · go_wp2_with fail
        go_ret
        exact ⟨rfl, HB0.out.trans (HB10.out.mono HB0.out.size)⟩
      · go_wp2_with fail
        go_ret
        exact ⟨rfl, HB0.out.trans (HB10.out.mono HB0.out.size)⟩
  · rw [dB_f hM] at HCM
    go_enter Tryd.func3, Tryd.ntmps3
    go_upto_region 1 with fail
    clear hw1
    go_wp2_with (refine wpList_load_ch rfl (.tmp 3) rfl w.heap.size rfl hch ?_)
    refine (HOF.out w1 HB1.out).mono ?_
    rintro r w2 ⟨a2, c2, rfl, hR, hb⟩
    have HB2 : Hid (Below w1.heap.size w1 w2) := hide (HB1.out.trans (hb.mono HB1.out.size))
    have hch := HCH.out w2 HB2.out
    have HR2 := hide hR
    clear hR
    clear hb
    go_wp2_with fail
    refine (Attackers_no a2 n c2 Z t k e h f he1 he2 w2 HR2.out (HTW.out w2 HB2.out) p b hM).mono ?_
    rintro r w3 ⟨rfl, hb⟩
    have HB3 : Hid (Below w1.heap.size w1 w3) := hide (HB2.out.trans (hb.mono HB2.out.size))
    have hch := HCH.out w3 HB3.out
    clear hb
    go_wp2_with (refine wpList_load_ch rfl (.tmp 3) rfl w.heap.size rfl hch ?_)
    refine (HOF.out w3 HB3.out).mono ?_
    rintro r w4 ⟨a4, c4, rfl, hR, hb⟩
    have HB4 : Hid (Below w1.heap.size w1 w4) := hide (HB3.out.trans (hb.mono HB3.out.size))
    have hch := HCH.out w4 HB4.out
    have HR4 := hide hR
    clear hR
    clear hb
    go_wp2_with fail
    refine (Check_no a4 n c4 Z t k e h f he1 he2 w4 HR4.out (HTW.out w4 HB4.out) hM).mono ?_
    rintro r w5 ⟨rfl, hb⟩
    have HB5 : Hid (Below w1.heap.size w1 w5) := hide (HB4.out.trans (hb.mono HB4.out.size))
    have hch := HCH.out w5 HB5.out
    clear hb
    go_wp2_with (refine wpList_load_ch rfl (.tmp 3) rfl w.heap.size rfl hch ?_)
    refine (HOF.out w5 HB5.out).mono ?_
    rintro r w6 ⟨a6, c6, rfl, hR, hb⟩
    have HB6 : Hid (Below w1.heap.size w1 w6) := hide (HB5.out.trans (hb.mono HB5.out.size))
    have hch := HCH.out w6 HB6.out
    have HR6 := hide hR
    clear hR
    clear hb
    go_wp2_with fail
    refine (Material_no a6 n c6 Z t k e h f he1 he2 w6 HR6.out (HTW.out w6 HB6.out) hM).mono ?_
    rintro r w7 ⟨rfl, hb⟩
    have HB7 : Hid (Below w1.heap.size w1 w7) := hide (HB6.out.trans (hb.mono HB6.out.size))
    have hch := HCH.out w7 HB7.out
    clear hb
    go_wp2_with (refine wpList_load_ch rfl (.tmp 3) rfl w.heap.size rfl hch ?_)
    refine (HCM.out w7 HB7.out).mono ?_
    rintro r w8 ⟨rfl, hb⟩
    have HB8 : Hid (Below w1.heap.size w1 w8) := hide (HB7.out.trans (hb.mono HB7.out.size))
    have hch := HCH.out w8 HB8.out
    clear hb
    go_wp2_with fail
    go_ret
    exact ⟨rfl, HB0.out.trans (HB8.out.mono HB0.out.size)⟩

end Go.Proofs.YtdblmcihklcenaaDoor
