/-
  Chess: Count beside what the document says: the law, walked. No conditions beyond those that each theorem bears.
-/
import Derived.Test.YtbhlafdfpoacjaaDoorQ46
import Derived.Test.YtbhlafdfpoacjaaDoorQ38
import Derived.Test.YtbhlafdfpoacjaaDoorQ16
import Derived.Test.YtbhlafdfpoacjaaDoorQ39
namespace Go.Proofs.YtbhlafdfpoacjaaDoor
open Go.RowKit Go.Shelf

attribute [local irreducible] cnP MayC mvs

set_option maxRecDepth 100000 in
set_option maxHeartbeats 16000000 in
theorem counts_law (a : Option Addr) (n c : Nat) (Z : List Int) (t k e h f x : Int) (he1 : -9223372036854775808 ≤ e) (he2 : e ≤ 9223372036854775807) (w : World) (hz : Rd w a n c Z) (hr : n * 8 ≤ 140737488351232) (hT : Tabs w) :
    Calls Tryd.prog 4 #[.agg (chA a n c t k e h f), .int .i64 x] w fun r w' => r = .returned (.bool true) ∧ Below w.heap.size w w' := by
  obtain ⟨w1, hw1⟩ : ∃ w1, w.alloc (.cells (chA a n c t k e h f) 24) = w1 := ⟨_, rfl⟩
  have B1 : Below w.heap.size w w1 := by rw [← hw1]; exact (Below.refl _ w).alloc (Nat.le_refl _) _
  have C1 : Ch w1 w.heap.size a n c t k e h f := by rw [← hw1]; exact Ch.new w a n c t k e h f
  have HB0 := hide B1
  have HCH : Hid (∀ W, Below w1.heap.size w1 W → Ch W w.heap.size a n c t k e h f) := hide (fun W hb => C1.below hb C1.lt)
  have HZW : Hid (∀ W, Below w1.heap.size w1 W → Rd W a n c Z) := hide (fun W hb => (hz.mono B1).mono hb)
  have HTW : Hid (∀ W, Below w1.heap.size w1 W → Tabs W) := hide (fun W hb => (hT.mono B1).mono hb)
  have HOF : Hid (∀ W, Below w1.heap.size w1 W → Calls Tryd.prog 7 #[.agg (chA a n c t k e h f)] W fun r w' => ∃ a' c', r = .returned (.agg (chA a' n c' t k e h f)) ∧ Rd w' a' n c' Z ∧ Below W.heap.size W w') := hide (fun W hb => ChessOf_any a n c Z t k e h f W (HZW.out W hb) hr)
  have HCM : Hid (∀ W, Below w1.heap.size w1 W → Calls Tryd.prog 10 #[.agg (chA a n c t k e h f)] W fun r w' => r = .returned (.bool (dB (MayC Z t k e h f))) ∧ Below W.heap.size W w') := hide (fun W hb => ChessMay_any a n c Z t k e h f he1 he2 W (HZW.out W hb))
  have HB1 : Hid (Below w1.heap.size w1 w1) := hide (Below.refl _ _)
  have hch := C1
  clear hz hT B1 C1
  by_cases hM : MayC Z t k e h f
  · rw [dB_t hM] at HCM
    have hn : n = 64 := by have := (HZW.out w1 HB1.out).len; have := hM.std.1; omega
    subst hn
    obtain ⟨p, hMp, rfl, rfl, rfl, rfl, rfl, rfl⟩ := ps_of hM
    clear hM
    by_cases hR : 0 ≤ x ∧ x ≤ 3
    · obtain ⟨xn, rfl⟩ := Int.eq_ofNat_of_zero_le hR.1
      have hx3 : xn ≤ 3 := by omega
      have hn0 : ¬ ((xn : Nat) : Int) < 0 := by omega
      have hn3 : ¬ ((xn : Nat) : Int) > 3 := by omega
      clear hR
      go_enter Tryd.func4, Tryd.ntmps4
      go_upto_region 1 with fail
      clear hw1
      go_wp2_with (refine wpList_load_ch rfl (.tmp 2) rfl w.heap.size rfl hch ?_)
      refine (HOF.out w1 HB1.out).mono ?_
      rintro r w2 ⟨a2, c2, rfl, hR, hb⟩
      have HB2 : Hid (Below w1.heap.size w1 w2) := hide (HB1.out.trans (hb.mono HB1.out.size))
      clear hch hb
      have HR2 := hide hR
      clear hR
      go_wp2_with fail
      refine (Count_yes a2 c2 p hMp w2 HR2.out (HTW.out w2 HB2.out) xn hx3).mono ?_
      rintro r w3 ⟨rfl, hb⟩
      have HB3 : Hid (Below w1.heap.size w1 w3) := hide (HB2.out.trans (hb.mono HB2.out.size))
      have hch := HCH.out w3 HB3.out
      clear hb
      go_wp2_with (refine wpList_load_ch rfl (.tmp 2) rfl w.heap.size rfl hch ?_)
      refine (HCM.out w3 HB3.out).mono ?_
      rintro r w4 ⟨rfl, hb⟩
      have HB4 : Hid (Below w1.heap.size w1 w4) := hide (HB3.out.trans (hb.mono HB3.out.size))
      clear hb hch
      have hch := HCH.out w4 HB4.out
      have HCR := hide (CountRows_any xn hx3 p hMp a c w4 (HZW.out w4 HB4.out))
      generalize cnP xn p = cv at *
      go_wp2_with (refine wpList_load_ch rfl (.tmp 2) rfl w.heap.size rfl hch ?_)
      refine HCR.out.mono ?_
      rintro r w5 ⟨rfl, hb⟩
      have HB5 : Hid (Below w1.heap.size w1 w5) := hide (HB4.out.trans (hb.mono HB4.out.size))
      clear hb hch
      go_wp2_with fail
      go_ret
      exact ⟨by simp, HB0.out.trans (HB5.out.mono HB0.out.size)⟩
    · have hxr : x < 0 ∨ 3 < x := by omega
      clear hR
      go_enter Tryd.func4, Tryd.ntmps4
      go_upto_region 1 with fail
      clear hw1
      go_wp2_with (refine wpList_load_ch rfl (.tmp 2) rfl w.heap.size rfl hch ?_)
      refine (HOF.out w1 HB1.out).mono ?_
      rintro r w2 ⟨a2, c2, rfl, hR, hb⟩
      have HB2 : Hid (Below w1.heap.size w1 w2) := hide (HB1.out.trans (hb.mono HB1.out.size))
      clear hch hb
      have HR2 := hide hR
      clear hR
      go_wp2_with fail
      refine (Count_range a2 c2 p hMp w2 HR2.out (HTW.out w2 HB2.out) x hxr).mono ?_
      rintro r w3 ⟨rfl, hb⟩
      have HB3 : Hid (Below w1.heap.size w1 w3) := hide (HB2.out.trans (hb.mono HB2.out.size))
      have hch := HCH.out w3 HB3.out
      clear hb
      go_wp2_with (refine wpList_load_ch rfl (.tmp 2) rfl w.heap.size rfl hch ?_)
      refine (HCM.out w3 HB3.out).mono ?_
      rintro r w4 ⟨rfl, hb⟩
      have HB4 : Hid (Below w1.heap.size w1 w4) := hide (HB3.out.trans (hb.mono HB3.out.size))
      clear hb hch
      rcases hxr with h0 | h3
      · go_wp2_with fail
        go_ret
        exact ⟨rfl, HB0.out.trans (HB4.out.mono HB0.out.size)⟩
      · by_cases h0 : x < 0
        · go_wp2_with fail
          go_ret
          exact ⟨rfl, HB0.out.trans (HB4.out.mono HB0.out.size)⟩
        · go_wp2_with fail
          go_ret
          exact ⟨rfl, HB0.out.trans (HB4.out.mono HB0.out.size)⟩
  · rw [dB_f hM] at HCM
    go_enter Tryd.func4, Tryd.ntmps4
    go_upto_region 1 with fail
    clear hw1
    go_wp2_with (refine wpList_load_ch rfl (.tmp 2) rfl w.heap.size rfl hch ?_)
    refine (HOF.out w1 HB1.out).mono ?_
    rintro r w2 ⟨a2, c2, rfl, hR, hb⟩
    have HB2 : Hid (Below w1.heap.size w1 w2) := hide (HB1.out.trans (hb.mono HB1.out.size))
    clear hch hb
    have HR2 := hide hR
    clear hR
    go_wp2_with fail
    refine (Count_no a2 n c2 Z t k e h f he1 he2 w2 HR2.out (HTW.out w2 HB2.out) x hM).mono ?_
    rintro r w3 ⟨rfl, hb⟩
    have HB3 : Hid (Below w1.heap.size w1 w3) := hide (HB2.out.trans (hb.mono HB2.out.size))
    have hch := HCH.out w3 HB3.out
    clear hb
    go_wp2_with (refine wpList_load_ch rfl (.tmp 2) rfl w.heap.size rfl hch ?_)
    refine (HCM.out w3 HB3.out).mono ?_
    rintro r w4 ⟨rfl, hb⟩
    have HB4 : Hid (Below w1.heap.size w1 w4) := hide (HB3.out.trans (hb.mono HB3.out.size))
    clear hb hch
    go_wp2_with fail
    go_ret
    exact ⟨rfl, HB0.out.trans (HB4.out.mono HB0.out.size)⟩

end Go.Proofs.YtbhlafdfpoacjaaDoor
