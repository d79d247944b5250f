/-
  The law of stones put, at a place beyond all. No conditions beyond those that each theorem bears.
-/
import Derived.Test.YtafiaimlmdflnaaPl0
namespace Go.Proofs.Ytafiaimlmdflnaa
open Go.RowKit Go.Shelf

attribute [local irreducible] D4 spr rgs rgsU lib goneU gone clr grp pz pt pE bl yes fq

set_option maxRecDepth 100000 in
set_option maxHeartbeats 16000000 in
theorem puts_big (W H cb co n c : Nat) (x : Int) (zs : List Int) (who : Int) (w : World) (h : Rd w (some ⟨cb, co, none⟩) n c zs) (hm : mayP W H zs) (hx : (n : Int) ≤ x) :
    Calls Try.prog 3 #[.agg (gdA W H (some ⟨cb, co, none⟩) n c), .int .i64 who, .int .i64 x] w fun e w' => e = .returned (.bool true) ∧ Below w.heap.size w w' := by
  obtain ⟨A, B', e1, e2, hW, hH, hN, -⟩ := may_nat hm h.len
  obtain rfl : W = A := by omega
  obtain rfl : H = B' := by omega
  have hn100 : n ≤ 100 := by rw [← hN]; exact Nat.mul_le_mul hW.2 hH.2
  have hn1 : 0 < n := by rw [← hN]; exact Nat.mul_pos (by omega) (by omega)
  have hcap := h.cap
  have hmx : c ≤ 9223372036854775807 := by have := h.max; unfold maxLen at this; omega
  obtain ⟨w1, hw1⟩ : ∃ w1, w.alloc (.cells (gdA W H (some ⟨cb, co, none⟩) n c) 24) = w1 := ⟨_, rfl⟩
  have B1 : Below w.heap.size w w1 := by rw [← hw1]; exact (Below.refl _ _).alloc (Nat.le_refl _) _
  have G1 : Gd w1 w.heap.size W H (some ⟨cb, co, none⟩) n c := by rw [← hw1]; exact Gd.new w W H _ n c
  have HGO := hide (fun W4 (hb : Below w.heap.size w W4) => GridOf_own W H (some ⟨cb, co, none⟩) n c zs W4 (h.mono hb) (by omega))
  have HGM := hide (fun W4 (hb : Below w.heap.size w W4) => GridMay_any W H (some ⟨cb, co, none⟩) n c zs W4 (h.mono hb))
  rw [mayG_yes hm] at HGM
  have HRR : Hid (∀ W4, Below w.heap.size w W4 → Rd W4 (some ⟨cb, co, none⟩) n c zs) := hide (fun W4 hb => h.mono hb)
  have hx' : ¬ (x < 0) := by omega
  have HGS := hide (fun g' c' W4 (hr' : Rd W4 (some ⟨g', 0, none⟩) n c' zs) => Group_range W H (some ⟨g', 0, none⟩) n c' zs x W4 hr' hm (by omega))
  have HPF := hide (fun (hw : ¬ (who = 1 ∨ who = 2)) g' c' W4 (hr' : Rd W4 (some ⟨g', 0, none⟩) n c' zs) => Put_fault W H (some ⟨g', 0, none⟩) n c' zs who x 4 W4 hr' (by rw [if_pos hm, if_neg hw]; rfl) (by omega))
  have HPY := hide (fun m (hw : m = 1 ∨ m = 2) g' c' W4 (hr' : Rd W4 (some ⟨g', 0, none⟩) n c' zs) => Put_yes W H g' 0 n c' m x zs W4 hr' hm hw)
  have HPS := hide (fun m (hw : m = 1 ∨ m = 2) W4 (hb : Below w.heap.size w W4) => PutStone_all W H n c cb co m x zs W4 hW hH hN hw (h.mono hb))
  have HB1 := hide B1
  have HG1 := hide G1
  have HPE : Hid (∀ m, pE W H zs m x ≤ 8) := hide (fun m => by
    rw [pE]
    split
    · split
      · split <;> omega
      · omega
    · omega)
  have HPT : Hid (∀ m q, pt W H zs m q ≤ 100) := hide (fun m q => by
    rw [pt, gone]
    exact Nat.le_trans (goneU_len (List.prefix_refl _)) (Nat.mul_le_mul hW.2 hH.2))
  clear B1 h hm e1 e2 hN
  go_enter Try.func3, Try.ntmps3
  go_upto_region 1 with fail
  clear hw1
  go_wp2_with (first | (refine wpList_load_gd rfl (.tmp 3) rfl w.heap.size rfl G1 ?_) | fail)
  refine (HGO.out _ HB1.out).mono ?_
  rintro e w2 ⟨a2, c2, rfl, hO2, hb2⟩
  obtain ⟨g2, rfl⟩ := own_form hO2 hn1
  have HB2 : Hid (Below w.heap.size w w2) := hide (HB1.out.trans (hb2.mono HB1.out.size))
  have HG2 := hide (HG1.out.below hb2 HG1.out.lt)
  have HR2 := hide (Rd.of_own hO2)
  clear hO2 hb2 G1
  go_wp2_with fail
  refine (HGS.out g2 c2 _ HR2.out).mono ?_
  rintro e w3 ⟨rfl, hb3⟩
  have HB3 : Hid (Below w.heap.size w w3) := hide (HB2.out.trans (hb3.mono HB2.out.size))
  have hG3 := HG2.out.below hb3 HG2.out.lt
  have HG3 := hide hG3
  clear hb3
  go_wp2_with (first | (refine wpList_load_gd rfl (.tmp 3) rfl w.heap.size rfl hG3 ?_) | fail)
  refine (HGO.out _ HB3.out).mono ?_
  rintro e w4 ⟨a4, c4, rfl, hO4, hb4⟩
  obtain ⟨g4, rfl⟩ := own_form hO4 hn1
  have HB4 : Hid (Below w.heap.size w w4) := hide (HB3.out.trans (hb4.mono HB3.out.size))
  have HG4 := hide (HG3.out.below hb4 HG3.out.lt)
  have HR4 := hide (Rd.of_own hO4)
  clear hO4 hb4 hG3
  by_cases hw : who = 1 ∨ who = 2
  · obtain ⟨m, rfl⟩ : ∃ m : Nat, who = (m : Int) := ⟨who.toNat, by omega⟩
    have hm' : m = 1 ∨ m = 2 := by omega
    have HC := hide (HPY.out m hm' g4 c4 _ HR4.out)
    have HPS2 := hide (HPS.out m hm')
    have hpe := HPE.out m
    have hpt := HPT.out m x.toNat
    have HM' := hide hm'
    clear hw hm' HPY HPS HPF HPE HPT
    have hmb : m ≤ 2 := by have := HM'.out; omega
    go_wp2_with fail
    refine HC.out.mono ?_
    rintro e w5 ⟨hb5, h5⟩
    have HB5 : Hid (Below w.heap.size w w5) := hide (HB4.out.trans (hb5.mono HB4.out.size))
    have HG5 := hide (HG4.out.below hb5 HG4.out.lt)
    clear hb5 HC
    rcases h5 with ⟨h51, h52, xg, xc, rfl, hBw, hxg⟩ | ⟨h51, rfl⟩
    · have HX0 := hide hBw.rd
      have H51 := hide h51
      have hxcap := hBw.rd.cap
      clear h51 h52 hBw hxg
      obtain ⟨PT, hPTe⟩ : ∃ PT, pt W H zs m x.toNat = PT := ⟨_, rfl⟩
      rw [hPTe] at hpt ⊢
      have HPTe := hide hPTe
      clear hPTe
      obtain ⟨w6, hw6⟩ : ∃ w6, w5.alloc (.cells (gdA W H (some ⟨xg, 0, none⟩) n xc) 24) = w6 := ⟨_, rfl⟩
      have B6 : Below w5.heap.size w5 w6 := by rw [← hw6]; exact (Below.refl _ _).alloc (Nat.le_refl _) _
      have HX6 : Hid (Gd w6 w5.heap.size W H (some ⟨xg, 0, none⟩) n xc) := hide (by rw [← hw6]; exact Gd.new w5 _ _ _ _ _)
      have hG6 := HG5.out.below B6 HG5.out.lt
      have HG6 := hide hG6
      have HB6 : Hid (Below w.heap.size w w6) := hide (HB5.out.trans (B6.mono HB5.out.size))
      have HX06 := hide (HX0.out.mono B6)
      have HW6 := hide hw6
      clear hw6 B6
      go_upto_region 3 with fail
      rw [HW6.out]
      clear HW6
      go_wp2_with (first | (refine wpList_load_gd rfl (.tmp 3) rfl w.heap.size rfl hG6 ?_) | fail)
      refine (HGM.out _ HB6.out).mono ?_
      rintro e w7 ⟨rfl, hb7⟩
      have HB7 : Hid (Below w.heap.size w w7) := hide (HB6.out.trans (hb7.mono HB6.out.size))
      have HX7 := hide (HX6.out.below hb7 HX6.out.lt)
      have hG7 := HG6.out.below hb7 HG6.out.lt
      have HG7 := hide hG7
      obtain ⟨-, -, q2⟩ := hG7.cells
      have HX07 := hide (HX06.out.mono hb7)
      clear hb7 hG6
      have HBz := HB7
      have HXz := HX7
      have HGz := HG7
      have HX0z := HX07
      have hGz := HGz.out
      rcases HM'.out with rfl | rfl
      · go_wp2_with (first | (refine wpList_load_gd rfl (.tmp 3) rfl w.heap.size rfl hGz ?_) | fail)
        refine (HPS2.out _ HBz.out).mono ?_
        rintro e w9 ⟨hb9, h9⟩
        rcases h9 with ⟨h91, h92, yg, yc, rfl, hBw9, h93⟩ | ⟨h91, rfl⟩
        · have HBw9 := hide hBw9.rd
          clear h91 h92 h93 hBw9
          rw [HPTe.out]
          obtain ⟨wa, hwa⟩ : ∃ wa, w9.alloc (.cells (gdA W H (some ⟨yg, 0, none⟩) n yc) 24) = wa := ⟨_, rfl⟩
          have Ba : Below w9.heap.size w9 wa := by rw [← hwa]; exact (Below.refl _ _).alloc (Nat.le_refl _) _
          have hYa : Gd wa w9.heap.size W H (some ⟨yg, 0, none⟩) n yc := by rw [← hwa]; exact Gd.new w9 _ _ _ _ _
          have hXa := (HXz.out.below hb9 HXz.out.lt).below Ba (Nat.lt_of_lt_of_le HXz.out.lt hb9.size)
          have HBa : Hid (Below w.heap.size w wa) := hide ((HBz.out.trans (hb9.mono HBz.out.size)).trans (Ba.mono (Nat.le_trans HBz.out.size hb9.size)))
          have HSG := hide (SameGrid_yes W H (some ⟨xg, 0, none⟩) (some ⟨yg, 0, none⟩) n xc yc _ wa ((HX0z.out.mono hb9).mono Ba) (HBw9.out.mono Ba))
          have HWa := hide hwa
          clear hwa Ba hb9 hGz
          go_upto_region 17 with fail
          rw [HWa.out]
          clear HWa
          go_wp2_with (first
            | refine wpList_load_gd rfl (.tmp 10) rfl w5.heap.size rfl hXa ?_
            | refine wpList_load_gd rfl (.tmp 15) rfl w9.heap.size rfl hYa ?_
            | fail)
          refine HSG.out.mono ?_
          rintro e wb ⟨rfl, hbb⟩
          have HBb : Hid (Below w.heap.size w wb) := hide (HBa.out.trans (hbb.mono HBa.out.size))
          clear hbb hXa hYa
          go_wp2_with fail
          go_ret
          exact ⟨rfl, HBb.out⟩
        · exact absurd H51.out h91
      · go_wp2_with (first | (refine wpList_load_gd rfl (.tmp 3) rfl w.heap.size rfl hGz ?_) | fail)
        refine (HPS2.out _ HBz.out).mono ?_
        rintro e w9 ⟨hb9, h9⟩
        rcases h9 with ⟨h91, h92, yg, yc, rfl, hBw9, h93⟩ | ⟨h91, rfl⟩
        · have HBw9 := hide hBw9.rd
          clear h91 h92 h93 hBw9
          rw [HPTe.out]
          obtain ⟨wa, hwa⟩ : ∃ wa, w9.alloc (.cells (gdA W H (some ⟨yg, 0, none⟩) n yc) 24) = wa := ⟨_, rfl⟩
          have Ba : Below w9.heap.size w9 wa := by rw [← hwa]; exact (Below.refl _ _).alloc (Nat.le_refl _) _
          have hYa : Gd wa w9.heap.size W H (some ⟨yg, 0, none⟩) n yc := by rw [← hwa]; exact Gd.new w9 _ _ _ _ _
          have hXa := (HXz.out.below hb9 HXz.out.lt).below Ba (Nat.lt_of_lt_of_le HXz.out.lt hb9.size)
          have HBa : Hid (Below w.heap.size w wa) := hide ((HBz.out.trans (hb9.mono HBz.out.size)).trans (Ba.mono (Nat.le_trans HBz.out.size hb9.size)))
          have HSG := hide (SameGrid_yes W H (some ⟨xg, 0, none⟩) (some ⟨yg, 0, none⟩) n xc yc _ wa ((HX0z.out.mono hb9).mono Ba) (HBw9.out.mono Ba))
          have HWa := hide hwa
          clear hwa Ba hb9 hGz
          go_upto_region 17 with fail
          rw [HWa.out]
          clear HWa
          go_wp2_with (first
            | refine wpList_load_gd rfl (.tmp 10) rfl w5.heap.size rfl hXa ?_
            | refine wpList_load_gd rfl (.tmp 15) rfl w9.heap.size rfl hYa ?_
            | fail)
          refine HSG.out.mono ?_
          rintro e wb ⟨rfl, hbb⟩
          have HBb : Hid (Below w.heap.size w wb) := hide (HBa.out.trans (hbb.mono HBa.out.size))
          clear hbb hXa hYa
          go_wp2_with fail
          go_ret
          exact ⟨rfl, HBb.out⟩
        · exact absurd H51.out h91
    · have H51 := hide h51
      clear h51
      obtain ⟨PE, hPEe⟩ : ∃ PE, pE W H zs m x = PE := ⟨_, rfl⟩
      rw [hPEe] at hpe ⊢
      have HPEe := hide hPEe
      clear hPEe
      obtain ⟨w6, hw6⟩ : ∃ w6, w5.alloc (.cells (gdA 0 0 none 0 0) 24) = w6 := ⟨_, rfl⟩
      have B6 : Below w5.heap.size w5 w6 := by rw [← hw6]; exact (Below.refl _ _).alloc (Nat.le_refl _) _
      have HX6 : Hid (Gd w6 w5.heap.size 0 0 none 0 0) := hide (by rw [← hw6]; exact Gd.new w5 _ _ _ _ _)
      have hG6 := HG5.out.below B6 HG5.out.lt
      have HG6 := hide hG6
      have HB6 : Hid (Below w.heap.size w w6) := hide (HB5.out.trans (B6.mono HB5.out.size))
      have HW6 := hide hw6
      clear hw6 B6
      go_upto_region 3 with fail
      rw [HW6.out]
      clear HW6
      go_wp2_with (first | (refine wpList_load_gd rfl (.tmp 3) rfl w.heap.size rfl hG6 ?_) | fail)
      refine (HGM.out _ HB6.out).mono ?_
      rintro e w7 ⟨rfl, hb7⟩
      have HB7 : Hid (Below w.heap.size w w7) := hide (HB6.out.trans (hb7.mono HB6.out.size))
      have HX7 := hide (HX6.out.below hb7 HX6.out.lt)
      have hG7 := HG6.out.below hb7 HG6.out.lt
      have HG7 := hide hG7
      obtain ⟨-, -, q2⟩ := hG7.cells
      clear hb7 hG6
      have HBz := HB7
      have HXz := HX7
      have HGz := HG7
      have hGz := HGz.out
      rcases HM'.out with rfl | rfl
      · go_wp2_with (first | (refine wpList_load_gd rfl (.tmp 3) rfl w.heap.size rfl hGz ?_) | fail)
        refine (HPS2.out _ HBz.out).mono ?_
        rintro e w9 ⟨hb9, h9⟩
        rcases h9 with ⟨h91, h92, yg, yc, rfl, hBw9, h93⟩ | ⟨h91, rfl⟩
        · exact absurd h91 H51.out
        · clear h91
          rw [HPEe.out]
          obtain ⟨wa, hwa⟩ : ∃ wa, w9.alloc (.cells (gdA 0 0 none 0 0) 24) = wa := ⟨_, rfl⟩
          have Ba : Below w9.heap.size w9 wa := by rw [← hwa]; exact (Below.refl _ _).alloc (Nat.le_refl _) _
          have hYa : Gd wa w9.heap.size 0 0 none 0 0 := by rw [← hwa]; exact Gd.new w9 _ _ _ _ _
          have hXa := (HXz.out.below hb9 HXz.out.lt).below Ba (Nat.lt_of_lt_of_le HXz.out.lt hb9.size)
          have HBa : Hid (Below w.heap.size w wa) := hide ((HBz.out.trans (hb9.mono HBz.out.size)).trans (Ba.mono (Nat.le_trans HBz.out.size hb9.size)))
          have HSG := hide (SameGrid_yes 0 0 none none 0 0 0 [] wa (Rd.of_nil _) (Rd.of_nil _))
          have HWa := hide hwa
          clear hwa Ba hb9 hGz
          go_upto_region 17 with fail
          rw [HWa.out]
          clear HWa
          go_wp2_with (first
            | refine wpList_load_gd rfl (.tmp 10) rfl w5.heap.size rfl hXa ?_
            | refine wpList_load_gd rfl (.tmp 15) rfl w9.heap.size rfl hYa ?_
            | fail)
          refine HSG.out.mono ?_
          rintro e wb ⟨rfl, hbb⟩
          have HBb : Hid (Below w.heap.size w wb) := hide (HBa.out.trans (hbb.mono HBa.out.size))
          clear hbb hXa hYa
          go_wp2_with fail
          go_ret
          exact ⟨rfl, HBb.out⟩
      · go_wp2_with (first | (refine wpList_load_gd rfl (.tmp 3) rfl w.heap.size rfl hGz ?_) | fail)
        refine (HPS2.out _ HBz.out).mono ?_
        rintro e w9 ⟨hb9, h9⟩
        rcases h9 with ⟨h91, h92, yg, yc, rfl, hBw9, h93⟩ | ⟨h91, rfl⟩
        · exact absurd h91 H51.out
        · clear h91
          rw [HPEe.out]
          obtain ⟨wa, hwa⟩ : ∃ wa, w9.alloc (.cells (gdA 0 0 none 0 0) 24) = wa := ⟨_, rfl⟩
          have Ba : Below w9.heap.size w9 wa := by rw [← hwa]; exact (Below.refl _ _).alloc (Nat.le_refl _) _
          have hYa : Gd wa w9.heap.size 0 0 none 0 0 := by rw [← hwa]; exact Gd.new w9 _ _ _ _ _
          have hXa := (HXz.out.below hb9 HXz.out.lt).below Ba (Nat.lt_of_lt_of_le HXz.out.lt hb9.size)
          have HBa : Hid (Below w.heap.size w wa) := hide ((HBz.out.trans (hb9.mono HBz.out.size)).trans (Ba.mono (Nat.le_trans HBz.out.size hb9.size)))
          have HSG := hide (SameGrid_yes 0 0 none none 0 0 0 [] wa (Rd.of_nil _) (Rd.of_nil _))
          have HWa := hide hwa
          clear hwa Ba hb9 hGz
          go_upto_region 17 with fail
          rw [HWa.out]
          clear HWa
          go_wp2_with (first
            | refine wpList_load_gd rfl (.tmp 10) rfl w5.heap.size rfl hXa ?_
            | refine wpList_load_gd rfl (.tmp 15) rfl w9.heap.size rfl hYa ?_
            | fail)
          refine HSG.out.mono ?_
          rintro e wb ⟨rfl, hbb⟩
          have HBb : Hid (Below w.heap.size w wb) := hide (HBa.out.trans (hbb.mono HBa.out.size))
          clear hbb hXa hYa
          go_wp2_with fail
          go_ret
          exact ⟨rfl, HBb.out⟩
  · have HC := hide (HPF.out hw g4 c4 _ HR4.out)
    have hw1' : (who != 1) = true := by simp; omega
    have hw2' : (who != 2) = true := by simp; omega
    clear hw HPY HPS HPF HPE HPT
    go_wp2_with fail
    refine HC.out.mono ?_
    rintro e w5 ⟨rfl, hb5⟩
    have HB5 : Hid (Below w.heap.size w w5) := hide (HB4.out.trans (hb5.mono HB4.out.size))
    have HG5 := hide (HG4.out.below hb5 HG4.out.lt)
    clear hb5 HC
    obtain ⟨w6, hw6⟩ : ∃ w6, w5.alloc (.cells (gdA 0 0 none 0 0) 24) = w6 := ⟨_, rfl⟩
    have B6 : Below w5.heap.size w5 w6 := by rw [← hw6]; exact (Below.refl _ _).alloc (Nat.le_refl _) _
    have HX6 : Hid (Gd w6 w5.heap.size 0 0 none 0 0) := hide (by rw [← hw6]; exact Gd.new w5 _ _ _ _ _)
    have hG6 := HG5.out.below B6 HG5.out.lt
    have HG6 := hide hG6
    have HB6 : Hid (Below w.heap.size w w6) := hide (HB5.out.trans (B6.mono HB5.out.size))
    have HW6 := hide hw6
    clear hw6 B6
    go_upto_region 3 with fail
    rw [HW6.out]
    clear HW6
    go_wp2_with (first | (refine wpList_load_gd rfl (.tmp 3) rfl w.heap.size rfl hG6 ?_) | fail)
    refine (HGM.out _ HB6.out).mono ?_
    rintro e w7 ⟨rfl, hb7⟩
    have HB7 : Hid (Below w.heap.size w w7) := hide (HB6.out.trans (hb7.mono HB6.out.size))
    have HX7 := hide (HX6.out.below hb7 HX6.out.lt)
    have hG7 := HG6.out.below hb7 HG6.out.lt
    have HG7 := hide hG7
    obtain ⟨-, -, q2⟩ := hG7.cells
    clear hb7 hG6
    have HBz := HB7
    have HXz := HX7
    have HGz := HG7
    have hX := HXz.out
    go_wp2_with (first | (refine wpList_load_gd rfl (.tmp 10) rfl w5.heap.size rfl hX ?_) | fail)
    refine (noGrid_zero _).mono ?_
    rintro e w8 ⟨rfl, hb8⟩
    have HB8 : Hid (Below w.heap.size w w8) := hide (HBz.out.trans (hb8.mono HBz.out.size))
    clear hb8 hX
    go_wp2_with fail
    go_ret
    exact ⟨rfl, HB8.out⟩

end Go.Proofs.Ytafiaimlmdflnaa
