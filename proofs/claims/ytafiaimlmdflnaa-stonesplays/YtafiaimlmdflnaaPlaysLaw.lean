/-
  The law of plays. No conditions beyond those that each theorem bears.
-/
import Derived.Test.YtafiaimlmdflnaaEt
import Derived.Test.YtafiaimlmdflnaaLi
import Derived.Test.YtafiaimlmdflnaaGm
namespace Go.Proofs.Ytafiaimlmdflnaa
open Go.RowKit Go.Shelf

theorem pre2L (w : World) : Below w.heap.size w ((w.alloc (.cells (gdA 0 0 none 0 0) 24)).alloc (.cells #[.int .i64 0, .int .i64 0] 37)) ∧ Gd ((w.alloc (.cells (gdA 0 0 none 0 0) 24)).alloc (.cells #[.int .i64 0, .int .i64 0] 37)) w.heap.size 0 0 none 0 0 ∧ Tw ((w.alloc (.cells (gdA 0 0 none 0 0) 24)).alloc (.cells #[.int .i64 0, .int .i64 0] 37)) (w.heap.size + 1) 0 0 := by
  refine ⟨((Below.refl _ w).alloc (Nat.le_refl _) _).alloc (by simp) _, (Gd.new w 0 0 none 0 0).old _, ?_⟩
  have := Tw.new (w.alloc (.cells (gdA 0 0 none 0 0) 24)) 0 0
  rwa [World.size_alloc] at this

theorem Tw.cellsL {w : World} {b : Nat} {t u : Int} (h : Tw w b t u) : w.cell? ⟨b, 0, none⟩ = some (.int .i64 t) ∧ w.cell? ⟨b, 1, none⟩ = some (.int .i64 u) := by
  have h' : w.heap[b]? = _ := h
  simp [World.cell?, h']

attribute [local irreducible] D4 spr rgs rgsU lib goneU gone clr grp pz pt pE pad kof stn mvd runP ps0

/-- What is asked of the document's play. -/
def PlaysAs : Prop := ∀ (W H cb co N c : Nat) (zs : List Int) (la : Option Addr) (ln lc : Nat) (L : List Int) (w : World), Rd w (some ⟨cb, co, none⟩) N c zs → mayP W H zs → Rd w la ln lc L → ln ≤ 200 →
    Calls Try.prog 20 #[.agg (gdA W H (some ⟨cb, co, none⟩) N c), .slice la ln lc] w fun e w' => ∃ cq bq, e = .returned (.tuple #[.agg (gdA W H (some ⟨cq, 0, none⟩) N bq), .agg #[.int .i64 (runP W H (ps0 zs) L).1.t, .int .i64 (runP W H (ps0 zs) L).1.u], .int .i64 (runP W H (ps0 zs) L).1.m, .int .i64 ((runP W H (ps0 zs) L).2 : Nat)]) ∧ Bw w' cq N bq (runP W H (ps0 zs) L).1.Z ∧ Below w.heap.size w w'

set_option maxRecDepth 100000 in
set_option maxHeartbeats 32000000 in
theorem plays_law (HPY : PlaysAs) (W H : Int) (a : Option Addr) (n c : Nat) (zs : List Int) (la : Option Addr) (ln lc : Nat) (L : List Int) (w : World) (h : Rd w a n c zs) (hr : n * 8 ≤ 140737488351232) (hL : Rd w la ln lc L) (hrl : ln * 8 ≤ 140737488351232) :
    Calls Try.prog 4 #[.agg (gdA W H a n c), .slice la ln lc] w fun e w' => e = .returned (.bool true) ∧ Below w.heap.size w w' := by
  obtain ⟨w1, hw1⟩ : ∃ w1, w.alloc (.cells (gdA W H a n c) 24) = w1 := ⟨_, rfl⟩
  have B1 : Below w.heap.size w w1 := by rw [← hw1]; exact (Below.refl _ w).alloc (Nat.le_refl _) _
  have G1 : Gd w1 w.heap.size W H a n c := by rw [← hw1]; exact Gd.new w W H a n c
  have HG1 := hide G1
  have HB1 := hide B1
  have HGO := hide (GridOf_own W H a n c zs w1 (h.mono B1) hr)
  have HIN : Hid (∀ W4, Below w.heap.size w W4 → _) := hide (fun W4 hb => lints_any la ln lc L W4 (hL.mono hb) hrl)
  have HH := hide h
  have HLL := hide hL
  have hlc := hL.cap
  have hlm : lc ≤ 9223372036854775807 := by have := hL.max; unfold maxLen at this; omega
  clear B1 h hL
  go_enter Try.func4, Try.ntmps4
  go_upto_region 1 with fail
  clear hw1
  go_wp2_with (first | (refine wpList_load_gd rfl (.tmp 2) rfl w.heap.size rfl G1 ?_) | fail)
  refine HGO.out.mono ?_
  rintro e w2 ⟨a2, c2, rfl, hO2, hb2⟩
  have HR2 := hide (Rd.of_own hO2)
  have HB2 : Hid (Below w.heap.size w w2) := hide (HB1.out.trans (hb2.mono HB1.out.size))
  have HG2 := hide (HG1.out.below hb2 HG1.out.lt)
  clear hO2 hb2 HGO HG1 HB1 G1
  go_wp2_with fail
  refine (HIN.out _ HB2.out).mono ?_
  rintro e w3 ⟨a3, c3, rfl, hR3, hb3⟩
  have HR3 := hide hR3
  have HR23 := hide (HR2.out.mono hb3)
  have HB3 : Hid (Below w.heap.size w w3) := hide (HB2.out.trans (hb3.mono HB2.out.size))
  have HG3 := hide (HG2.out.below hb3 HG2.out.lt)
  clear hR3 hb3 HIN HR2 HB2 HG2
  by_cases hm : mayP W H zs
  · have HM : Hid (∀ W4, Below w.heap.size w W4 → Calls Try.prog 12 #[.agg (gdA W H a n c)] W4 fun e w' => e = .returned (.bool true) ∧ Below W4.heap.size W4 w') := hide (fun W4 hb => by have := GridMay_any W H a n c zs W4 (HH.out.mono hb); rwa [mayG_yes hm] at this)
    by_cases hl : ln ≤ 200
    · obtain ⟨A, B, rfl, rfl, hW, hH, hN, -⟩ := may_nat hm HH.out.len
      have hn0 : 0 < n := by rw [← hN]; exact Nat.mul_pos hW.1 hH.1
      obtain ⟨cb, co, rfl, -⟩ := HH.out.cells hn0
      obtain ⟨db, dO, rfl, -⟩ := HR23.out.cells hn0
      have HC := hide (Play_yes A B db dO n c2 zs a3 ln c3 L w3 HR23.out hm HR3.out hl)
      have HP2 : Hid (∀ W4, Below w.heap.size w W4 → _) := hide (fun W4 hb => HPY A B cb co n c zs la ln lc L W4 (HH.out.mono hb) hm (HLL.out.mono hb) hl)
      obtain ⟨SS, ee, hRR⟩ : ∃ SS ee, runP A B (ps0 zs) L = (SS, ee) := ⟨_, _, rfl⟩
      rw [hRR] at HC HP2
      have hl' : ¬ (200 : Int) < (ln : Int) := by omega
      clear hm hRR
      go_wp2_with fail
      refine HC.out.mono ?_
      rintro e w4 ⟨xq, xb, rfl, hX4, hb4⟩
      obtain ⟨P1, P2, P3⟩ := pre2L w4
      have HB5 : Hid (Below w.heap.size w ((w4.alloc (.cells (gdA 0 0 none 0 0) 24)).alloc (.cells #[.int .i64 0, .int .i64 0] 37))) := hide (HB3.out.trans ((hb4.trans (P1.mono hb4.size)).mono HB3.out.size))
      have HG4 := HG3.out.below hb4 HG3.out.lt
      have hs4 : w.heap.size < w4.heap.size := HG4.lt
      have hxq : xq < w4.heap.size := hX4.lt
      have HG5 := hide (HG4.below P1 HG4.lt)
      have HX5 := hide (hX4.mono P1)
      clear hb4 P1 HB3 HG3 HG4 HC HR3 HR23 hX4
      generalize hw5 : (w4.alloc (.cells (gdA 0 0 none 0 0) 24)).alloc (.cells #[.int .i64 0, .int .i64 0] 37) = w5 at *
      go_upto_region 2 with (first
        | (refine wpList_store_gd rfl (.tmp 5) (.tmp 20) rfl w4.heap.size rfl rfl P2 ?_; intro w6 G6 kk6; have T6 := P3.keeps kk6 (by omega))
        | (refine wpList_storeT rfl (.tmp 6) (.tmp 21) rfl (w4.heap.size + 1) rfl rfl T6 ?_; intro w7 T7 kk7))
      have b6 := HB5.out.trans (kk6.below HB5.out.size (fun k hk e => by omega))
      have HB7 := hide (b6.trans (kk7.below b6.size (fun k hk e => by omega)))
      have G7 := (HG5.out.keeps kk6 (by omega)).keeps kk7 (by omega)
      have HF7 := hide G7
      have HZ7 := hide (G6.keeps kk7 (by omega))
      have HT7 := hide T7
      have HX7 := hide ((HX5.out.keeps kk6 (by omega)).keeps kk7 (by omega))
      clear b6 kk6 kk7 hw5 G6 T6 T7 P2 P3 HB5 HG5 HX5
      go_wp2_with (first | (refine wpList_load_gd rfl (.tmp 2) rfl w.heap.size rfl G7 ?_) | fail)
      refine (HM.out _ HB7.out).mono ?_
      rintro e w8 ⟨rfl, hb8⟩
      have HZ8 := hide (HZ7.out.below hb8 HZ7.out.lt)
      have HT8 := hide (HT7.out.below hb8 HT7.out.lt)
      have G8 := HF7.out.below hb8 HF7.out.lt
      have HX8 := hide (HX7.out.mono hb8)
      have HB8 : Hid (Below w.heap.size w w8) := hide (HB7.out.trans (hb8.mono HB7.out.size))
      clear hb8 HB7 G7 HZ7 HT7 HM HX7 HF7
      go_wp2_with (first | (refine wpList_load_gd rfl (.tmp 2) rfl w.heap.size rfl G8 ?_) | fail)
      refine (HP2.out _ HB8.out).mono ?_
      rintro e w9 ⟨yq, yb, rfl, hY9, hb9⟩
      obtain ⟨P1, P2, P3⟩ := pre2L w9
      have h89 : w4.heap.size + 1 < w9.heap.size := by have h1 := HT8.out.lt; have h2 := hb9.size; omega
      have B10 := hb9.trans (P1.mono hb9.size)
      have HZ10 := hide (HZ8.out.below B10 HZ8.out.lt)
      have HT10 := hide (HT8.out.below B10 HT8.out.lt)
      have HX10 := hide (HX8.out.mono B10)
      have HY10 := hide (hY9.mono P1)
      have hyq : yq < w9.heap.size := hY9.lt
      have hxq9 : xq < w9.heap.size := Nat.lt_of_lt_of_le HX8.out.lt hb9.size
      have HB10 : Hid (Below w.heap.size w ((w9.alloc (.cells (gdA 0 0 none 0 0) 24)).alloc (.cells #[.int .i64 0, .int .i64 0] 37))) := hide (HB8.out.trans (B10.mono HB8.out.size))
      have hs9 : w.heap.size ≤ w9.heap.size := by omega
      clear B10 P1 hb9 hY9 HZ8 HT8 HX8 HB8 G8 HP2
      generalize hw10 : (w9.alloc (.cells (gdA 0 0 none 0 0) 24)).alloc (.cells #[.int .i64 0, .int .i64 0] 37) = w10 at *
      go_upto_region 10 with (first
        | (refine wpList_store_gd rfl (.tmp 10) (.tmp 57) rfl w9.heap.size rfl rfl P2 ?_; intro w11 G11 kk11; have T11 := P3.keeps kk11 (by omega))
        | (refine wpList_storeT rfl (.tmp 11) (.tmp 58) rfl (w9.heap.size + 1) rfl rfl T11 ?_; intro w12 T12 kk12))
      have b11 := HB10.out.trans (kk11.below HB10.out.size (fun k hk e => by omega))
      have HB12 := hide (b11.trans (kk12.below b11.size (fun k hk e => by omega)))
      have G12 := G11.keeps kk12 (by omega)
      have Z12 := (HZ10.out.keeps kk11 (by omega)).keeps kk12 (by omega)
      have U12 := (HT10.out.keeps kk11 (by omega)).keeps kk12 (by omega)
      have HSG := hide (SameGrid_yes A B (some ⟨xq, 0, none⟩) (some ⟨yq, 0, none⟩) n xb yb SS.Z w12 ((HX10.out.keeps kk11 (by omega)).keeps kk12 (by omega)).rd ((HY10.out.keeps kk11 (by omega)).keeps kk12 (by omega)).rd)
      clear b11 kk11 kk12 hw10 G11 T11 P2 P3 HB10 HZ10 HT10 HX10 HY10
      go_wp2_with (first
        | (refine wpList_loadT rfl (.tmp 6) rfl (w4.heap.size + 1) rfl U12 ?_)
        | (refine wpList_loadT rfl (.tmp 11) rfl (w9.heap.size + 1) rfl T12 ?_)
        | (refine wpList_eqT rfl (.tmp 70) (.tmp 71) rfl SS.t SS.u rfl rfl ?_)
        | (refine wpList_load_gd rfl (.tmp 5) rfl w4.heap.size rfl Z12 ?_)
        | (refine wpList_load_gd rfl (.tmp 10) rfl w9.heap.size rfl G12 ?_)
        | fail)
      refine HSG.out.mono ?_
      rintro e w13 ⟨rfl, hb13⟩
      have HB13 : Hid (Below w.heap.size w w13) := hide (HB12.out.trans (hb13.mono HB12.out.size))
      clear hb13 G12 Z12 U12 T12
      go_wp2_with fail
      go_ret
      exact ⟨rfl, HB13.out⟩
    · have hl' : (200 : Int) < (ln : Int) := by omega
      have HC := hide (Play_count W H a2 n c2 zs a3 ln c3 w3 HR23.out hm (by omega))
      clear hm
      go_wp2_with fail
      refine HC.out.mono ?_
      rintro e w4 ⟨rfl, hb4⟩
      obtain ⟨P1, P2, P3⟩ := pre2L w4
      have HB5 : Hid (Below w.heap.size w ((w4.alloc (.cells (gdA 0 0 none 0 0) 24)).alloc (.cells #[.int .i64 0, .int .i64 0] 37))) := hide (HB3.out.trans ((hb4.trans (P1.mono hb4.size)).mono HB3.out.size))
      have HG4 := HG3.out.below hb4 HG3.out.lt
      have hs4 : w.heap.size < w4.heap.size := HG4.lt
      have HG5 := hide (HG4.below P1 HG4.lt)
      clear hb4 P1 HB3 HG3 HG4 HC HR3 HR23
      generalize hw5 : (w4.alloc (.cells (gdA 0 0 none 0 0) 24)).alloc (.cells #[.int .i64 0, .int .i64 0] 37) = w5 at *
      go_upto_region 2 with (first
        | (refine wpList_store_gd rfl (.tmp 5) (.tmp 20) rfl w4.heap.size rfl rfl P2 ?_; intro w6 G6 kk6; have T6 := P3.keeps kk6 (by omega))
        | (refine wpList_storeT rfl (.tmp 6) (.tmp 21) rfl (w4.heap.size + 1) rfl rfl T6 ?_; intro w7 T7 kk7))
      have b6 := HB5.out.trans (kk6.below HB5.out.size (fun k hk e => by omega))
      have HB7 := hide (b6.trans (kk7.below b6.size (fun k hk e => by omega)))
      have G7 := (HG5.out.keeps kk6 (by omega)).keeps kk7 (by omega)
      have HZ7 := hide (G6.keeps kk7 (by omega))
      have HT7 := hide T7
      clear b6 kk6 kk7 hw5 G6 T6 T7 P2 P3 HB5 HG5
      go_wp2_with (first | (refine wpList_load_gd rfl (.tmp 2) rfl w.heap.size rfl G7 ?_) | fail)
      refine (HM.out _ HB7.out).mono ?_
      rintro e w8 ⟨rfl, hb8⟩
      have Z8 := HZ7.out.below hb8 HZ7.out.lt
      have HT8 := hide (HT7.out.below hb8 HT7.out.lt)
      have HB8 : Hid (Below w.heap.size w w8) := hide (HB7.out.trans (hb8.mono HB7.out.size))
      clear hb8 HB7 G7 HZ7 HT7 HM
      go_wp2_with (first | (refine wpList_load_gd rfl (.tmp 5) rfl w4.heap.size rfl Z8 ?_) | fail)
      refine (noGrid_zero w8).mono ?_
      rintro e w9 ⟨rfl, hb9⟩
      obtain ⟨c0, c1⟩ := (HT8.out.below hb9 HT8.out.lt).cellsL
      have HB9 : Hid (Below w.heap.size w w9) := hide (HB8.out.trans (hb9.mono HB8.out.size))
      clear hb9 Z8
      go_wp2_with fail
      go_ret
      exact ⟨rfl, HB9.out⟩
  · have HM : Hid (∀ W4, Below w.heap.size w W4 → Calls Try.prog 12 #[.agg (gdA W H a n c)] W4 fun e w' => e = .returned (.bool false) ∧ Below W4.heap.size W4 w') := hide (fun W4 hb => by have := GridMay_any W H a n c zs W4 (HH.out.mono hb); rwa [mayG_no hm] at this)
    have HC := hide (Play_state W H a2 n c2 zs a3 ln c3 w3 HR23.out hm)
    clear hm
    go_wp2_with fail
    refine HC.out.mono ?_
    rintro e w4 ⟨rfl, hb4⟩
    obtain ⟨P1, P2, P3⟩ := pre2L w4
    have HB5 : Hid (Below w.heap.size w ((w4.alloc (.cells (gdA 0 0 none 0 0) 24)).alloc (.cells #[.int .i64 0, .int .i64 0] 37))) := hide (HB3.out.trans ((hb4.trans (P1.mono hb4.size)).mono HB3.out.size))
    have HG4 := HG3.out.below hb4 HG3.out.lt
    have hs4 : w.heap.size < w4.heap.size := HG4.lt
    have HG5 := hide (HG4.below P1 HG4.lt)
    clear hb4 P1 HB3 HG3 HG4 HC HR3 HR23
    generalize hw5 : (w4.alloc (.cells (gdA 0 0 none 0 0) 24)).alloc (.cells #[.int .i64 0, .int .i64 0] 37) = w5 at *
    go_upto_region 2 with (first
      | (refine wpList_store_gd rfl (.tmp 5) (.tmp 20) rfl w4.heap.size rfl rfl P2 ?_; intro w6 G6 kk6; have T6 := P3.keeps kk6 (by omega))
      | (refine wpList_storeT rfl (.tmp 6) (.tmp 21) rfl (w4.heap.size + 1) rfl rfl T6 ?_; intro w7 T7 kk7))
    have b6 := HB5.out.trans (kk6.below HB5.out.size (fun k hk e => by omega))
    have HB7 := hide (b6.trans (kk7.below b6.size (fun k hk e => by omega)))
    have G7 := (HG5.out.keeps kk6 (by omega)).keeps kk7 (by omega)
    have HZ7 := hide (G6.keeps kk7 (by omega))
    have HT7 := hide T7
    clear b6 kk6 kk7 hw5 G6 T6 T7 P2 P3 HB5 HG5
    go_wp2_with (first | (refine wpList_load_gd rfl (.tmp 2) rfl w.heap.size rfl G7 ?_) | fail)
    refine (HM.out _ HB7.out).mono ?_
    rintro e w8 ⟨rfl, hb8⟩
    have Z8 := HZ7.out.below hb8 HZ7.out.lt
    have HT8 := hide (HT7.out.below hb8 HT7.out.lt)
    have HB8 : Hid (Below w.heap.size w w8) := hide (HB7.out.trans (hb8.mono HB7.out.size))
    clear hb8 HB7 G7 HZ7 HT7 HM
    go_wp2_with (first | (refine wpList_load_gd rfl (.tmp 5) rfl w4.heap.size rfl Z8 ?_) | fail)
    refine (noGrid_zero w8).mono ?_
    rintro e w9 ⟨rfl, hb9⟩
    obtain ⟨c0, c1⟩ := (HT8.out.below hb9 HT8.out.lt).cellsL
    have HB9 : Hid (Below w.heap.size w w9) := hide (HB8.out.trans (hb9.mono HB8.out.size))
    clear hb9 Z8
    go_wp2_with fail
    go_ret
    exact ⟨rfl, HB9.out⟩

end Go.Proofs.Ytafiaimlmdflnaa
