/-
  The law of stones put: what the program answers is what the document says. No conditions beyond those that each theorem bears.
-/
import Derived.Test.YtafiaimlmdflnaaPs
import Derived.Test.YtafiaimlmdflnaaGm
import Derived.Test.YtafiaimlmdflnaaSm
namespace Go.Proofs.Ytafiaimlmdflnaa
open Go.RowKit Go.Shelf

attribute [local irreducible] D4 spr rgs rgsU lib goneU gone clr grp pz pt pE bl yes fq

theorem own_form {w : World} {base n c : Nat} {a : Option Addr} {xs : List Value} (h : w.ownsRow base 3 1 (.slice a n c) n xs) (hn : 0 < n) : ∃ g, a = some ⟨g, 0, none⟩ := by
  obtain ⟨g, cc, hv, _⟩ := own_some h hn
  simp only [Value.slice.injEq] at hv
  exact ⟨g, hv.1⟩

set_option maxRecDepth 100000 in
set_option maxHeartbeats 16000000 in
theorem puts_state (W H : Int) (a : Option Addr) (n c : Nat) (zs : List Int) (who x : Int) (w : World) (h : Rd w a n c zs) (hr : n * 8 ≤ 140737488351232) (hm : ¬ mayP W H zs) :
    Calls Try.prog 3 #[.agg (gdA W H a n c), .int .i64 who, .int .i64 x] w fun e w' => e = .returned (.bool true) ∧ Below w.heap.size w w' := by
  obtain ⟨w1, hw1⟩ : ∃ w1, w.alloc (.cells (gdA W H a n c) 24) = w1 := ⟨_, rfl⟩
  have B1 : Below w.heap.size w w1 := by rw [← hw1]; exact (Below.refl _ _).alloc (Nat.le_refl _) _
  have G1 : Gd w1 w.heap.size W H a n c := by rw [← hw1]; exact Gd.new w W H a n c
  have HGO := hide (fun W4 (hb : Below w.heap.size w W4) => GridOf_own W H a n c zs W4 (h.mono hb) hr)
  have HGM := hide (fun W4 (hb : Below w.heap.size w W4) => GridMay_any W H a n c zs W4 (h.mono hb))
  rw [mayG_no hm] at HGM
  have HGS := hide (fun a' c' W4 (hr' : Rd W4 a' n c' zs) => Group_state W H a' n c' zs x W4 hr' hm)
  have HPF := hide (fun a' c' W4 (hr' : Rd W4 a' n c' zs) => Put_fault W H a' n c' zs who x 12 W4 hr' (by rw [if_neg hm]; rfl) (by omega))
  have HB1 := hide B1
  have HG1 := hide G1
  clear B1 h hm
  go_enter Try.func3, Try.ntmps3
  go_upto_region 1 with fail
  clear hw1
  go_wp2_with (first | (refine wpList_load_gd rfl (.tmp 3) rfl w.heap.size rfl G1 ?_) | fail)
  refine (HGO.out _ HB1.out).mono ?_
  rintro e w2 ⟨a2, c2, rfl, hO2, hb2⟩
  have HB2 : Hid (Below w.heap.size w w2) := hide (HB1.out.trans (hb2.mono HB1.out.size))
  have HG2 := hide (HG1.out.below hb2 HG1.out.lt)
  have HR2 := hide (Rd.of_own hO2)
  clear hO2 hb2 G1
  go_wp2_with fail
  refine (HGS.out a2 c2 _ HR2.out).mono ?_
  rintro e w3 ⟨rfl, hb3⟩
  have HB3 : Hid (Below w.heap.size w w3) := hide (HB2.out.trans (hb3.mono HB2.out.size))
  have hG3 := HG2.out.below hb3 HG2.out.lt
  have HG3 := hide hG3
  clear hb3
  go_wp2_with (first | (refine wpList_load_gd rfl (.tmp 3) rfl w.heap.size rfl hG3 ?_) | fail)
  refine (HGO.out _ HB3.out).mono ?_
  rintro e w4 ⟨a4, c4, rfl, hO4, hb4⟩
  have HB4 : Hid (Below w.heap.size w w4) := hide (HB3.out.trans (hb4.mono HB3.out.size))
  have HG4 := hide (HG3.out.below hb4 HG3.out.lt)
  have HR4 := hide (Rd.of_own hO4)
  clear hO4 hb4 hG3
  go_wp2_with fail
  refine (HPF.out a4 c4 _ HR4.out).mono ?_
  rintro e w5 ⟨rfl, hb5⟩
  have HB5 : Hid (Below w.heap.size w w5) := hide (HB4.out.trans (hb5.mono HB4.out.size))
  have HG5 := hide (HG4.out.below hb5 HG4.out.lt)
  clear hb5
  obtain ⟨w6, hw6⟩ : ∃ w6, w5.alloc (.cells (gdA 0 0 none 0 0) 24) = w6 := ⟨_, rfl⟩
  have B6 : Below w5.heap.size w5 w6 := by rw [← hw6]; exact (Below.refl _ _).alloc (Nat.le_refl _) _
  have HX6 : Hid (Gd w6 w5.heap.size 0 0 none 0 0) := hide (by rw [← hw6]; exact Gd.new w5 0 0 none 0 0)
  have hG6 := HG5.out.below B6 HG5.out.lt
  have HB6 : Hid (Below w.heap.size w w6) := hide (HB5.out.trans (B6.mono HB5.out.size))
  have HW6 := hide hw6
  clear hw6 B6
  go_upto_region 3 with fail
  rw [HW6.out]
  clear HW6
  go_wp2_with (first | (refine wpList_load_gd rfl (.tmp 3) rfl w.heap.size rfl hG6 ?_) | fail)
  refine (HGM.out _ HB6.out).mono ?_
  rintro e w7 ⟨rfl, hb7⟩
  have HB7 : Hid (Below w.heap.size w w7) := hide (HB6.out.trans (hb7.mono HB6.out.size))
  have hX7 := HX6.out.below hb7 HX6.out.lt
  clear hb7 hG6
  go_wp2_with (first | (refine wpList_load_gd rfl (.tmp 10) rfl w5.heap.size rfl hX7 ?_) | fail)
  refine (noGrid_zero _).mono ?_
  rintro e w8 ⟨rfl, hb8⟩
  have HB8 : Hid (Below w.heap.size w w8) := hide (HB7.out.trans (hb8.mono HB7.out.size))
  clear hb8 hX7
  go_wp2_with fail
  go_ret
  exact ⟨rfl, HB8.out⟩

end Go.Proofs.Ytafiaimlmdflnaa
