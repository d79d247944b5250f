/-
  The law of boards that come again: the third move on the smallest board is refused; of moves played those that were good lead to the same. No conditions beyond those that each theorem bears.
-/
import Derived.Test.YtafiaimlmdflnaaKp
import Derived.Test.YtafiaimlmdflnaaGk
import Derived.Test.YtafiaimlmdflnaaEt
import Derived.Test.YtafiaimlmdflnaaGx
namespace Go.Proofs.Ytafiaimlmdflnaa
open Go.RowKit Go.Shelf

theorem kgrL_nil : grL [] 0 2 = [0, 0] := by
  unfold grL
  simp [List.range_succ]

theorem ko_may : mayP ((2 : Nat) : Int) ((1 : Nat) : Int) [0, 0] := by
  refine ⟨by omega, by omega, by omega, by omega, by simp, fun z hz => ?_⟩
  simp at hz
  omega

theorem pre2 (w : World) : Below w.heap.size w ((w.alloc (.cells (gdA 0 0 none 0 0) 24)).alloc (.cells #[.int .i64 0, .int .i64 0] 37)) ∧ Gd ((w.alloc (.cells (gdA 0 0 none 0 0) 24)).alloc (.cells #[.int .i64 0, .int .i64 0] 37)) w.heap.size 0 0 none 0 0 ∧ Tw ((w.alloc (.cells (gdA 0 0 none 0 0) 24)).alloc (.cells #[.int .i64 0, .int .i64 0] 37)) (w.heap.size + 1) 0 0 := by
  refine ⟨((Below.refl _ w).alloc (Nat.le_refl _) _).alloc (by simp) _, (Gd.new w 0 0 none 0 0).old _, ?_⟩
  have := Tw.new (w.alloc (.cells (gdA 0 0 none 0 0) 24)) 0 0
  rwa [World.size_alloc] at this

attribute [local irreducible] D4 spr rgs rgsU lib goneU gone clr grp pz pt pE pad kof stn mvd runP ps0 grL pk

set_option maxRecDepth 100000 in
set_option maxHeartbeats 32000000 in
theorem ko_law (W H : Int) (a : Option Addr) (n c : Nat) (zs : List Int) (la : Option Addr) (ln lc : Nat) (L : List Int) (w : World) (h : Rd w a n c zs) (hL : Rd w la ln lc L) :
    Calls Try.prog 8 #[.agg (gdA W H a n c), .slice la ln lc] w fun e w' => e = .returned (.bool true) ∧ Below w.heap.size w w' := by
  obtain ⟨w1, hw1⟩ : ∃ w1, w.alloc (.cells (gdA W H a n c) 24) = w1 := ⟨_, rfl⟩
  have B1 : Below w.heap.size w w1 := by rw [← hw1]; exact (Below.refl _ w).alloc (Nat.le_refl _) _
  have HG1 : Hid (Gd w1 w.heap.size W H a n c) := hide (by rw [← hw1]; exact Gd.new w W H a n c)
  have HB1 := hide B1
  have HGR := hide (fun W4 => grid_any 2 1 0 (by omega) (by omega) (by omega) none 0 0 [] (fun u hu => by cases hu) W4 (Rd.of_nil _))
  rw [kgrL_nil] at HGR
  have HH := hide h
  have HLL := hide hL
  have hlc := hL.cap
  have hlm : lc ≤ 9223372036854775807 := by have := hL.max; unfold maxLen at this; omega
  clear B1 h hL
  go_enter Try.func8, Try.ntmps8
  go_upto_region 1 with fail
  clear hw1
  go_wp2_with fail
  refine (HGR.out _).mono ?_
  rintro e w2 ⟨a2, c2, rfl, hO2, hb2⟩
  obtain ⟨g2, cc, hv, _⟩ := own_some hO2 (by omega)
  simp only [Value.slice.injEq] at hv
  obtain ⟨rfl, -, rfl⟩ := hv
  have HBW2 : Hid (Bw w2 g2 2 c2 [0, 0]) := hide (own_base hO2 (Nat.zero_le _))
  have HB2 : Hid (Below w.heap.size w w2) := hide (HB1.out.trans (hb2.mono HB1.out.size))
  have HG2 := hide (HG1.out.below hb2 HG1.out.lt)
  have B3 : Below w2.heap.size w2 (w2.alloc (.cells #[.int .i64 0, .int .i64 1, .int .i64 0] 3)) := (Below.refl _ _).alloc (Nat.le_refl _) _
  have R3 : Rd (w2.alloc (.cells #[.int .i64 0, .int .i64 1, .int .i64 0] 3)) (some ⟨w2.heap.size, 0, none⟩) 3 3 [0, 1, 0] := Rd.of_blk (Blk.new w2 3 [0, 1, 0] _ rfl) rfl (by decide)
  have HPL := hide (Play_yes 2 1 g2 0 2 c2 [0, 0] (some ⟨w2.heap.size, 0, none⟩) 3 3 [0, 1, 0] _ (HBW2.out.mono B3).rd ko_may R3 (by omega))
  obtain ⟨kt, ku, kX, ek⟩ := ko_run
  rw [ek] at HPL
  have HB3 : Hid (Below w2.heap.size w2 (w2.alloc (.cells #[.int .i64 0, .int .i64 1, .int .i64 0] 3))) := hide B3
  have HG3 := hide (HG2.out.below B3 HG2.out.lt)
  clear hO2 hb2 B3 R3 ek HGR HG1 HB1 HBW2 HG2
  go_wp2_with fail
  refine HPL.out.mono ?_
  rintro e w3 ⟨cq, bq, rfl, hX3, hb3⟩
  have HB4 : Hid (Below w.heap.size w w3) := hide (HB2.out.trans ((HB3.out.trans (hb3.mono HB3.out.size)).mono HB2.out.size))
  have HG4 := hide (HG3.out.below hb3 HG3.out.lt)
  obtain ⟨P1, P2, P3⟩ := pre2 w3
  have HX4 := hide (hX3.mono P1)
  have HB5 : Hid (Below w.heap.size w ((w3.alloc (.cells (gdA 0 0 none 0 0) 24)).alloc (.cells #[.int .i64 0, .int .i64 0] 37))) := hide (HB4.out.trans (P1.mono HB4.out.size))
  have HG5 := hide (HG4.out.below P1 HG4.out.lt)
  have hs3 : w.heap.size < w3.heap.size := HG4.out.lt
  have hcq : cq < w3.heap.size := hX3.lt
  clear hX3 hb3 P1 HB2 HB3 HG3 HPL HB4 HG4
  generalize hw5 : (w3.alloc (.cells (gdA 0 0 none 0 0) 24)).alloc (.cells #[.int .i64 0, .int .i64 0] 37) = w5 at *
  go_upto_region 2 with (first
    | (refine wpList_store_gd rfl (.tmp 5) (.tmp 19) rfl w3.heap.size rfl rfl P2 ?_; intro w6 G6 kk6; have T6 := P3.keeps kk6 (by omega))
    | (refine wpList_storeT rfl (.tmp 6) (.tmp 20) rfl (w3.heap.size + 1) rfl rfl T6 ?_; intro w7 T7 kk7))
  have G7 := G6.keeps kk7 (by omega)
  have HB7 : Hid (Below w.heap.size w w7) := hide (by
    have b6 := HB5.out.trans (kk6.below HB5.out.size (fun k hk e => by omega))
    exact b6.trans (kk7.below b6.size (fun k hk e => by omega)))
  have HX7 := hide ((HX4.out.keeps kk6 (by omega)).keeps kk7 (by omega))
  have HG7 := hide ((HG5.out.keeps kk6 (by omega)).keeps kk7 (by omega))
  obtain ⟨-, -, g7⟩ := G7.cells
  have B8 : Below w7.heap.size w7 (w7.alloc (.cells #[.int .i64 0, .int .i64 2] 3)) := (Below.refl _ _).alloc (Nat.le_refl _) _
  have R8 : Rd (w7.alloc (.cells #[.int .i64 0, .int .i64 2] 3)) (some ⟨w7.heap.size, 0, none⟩) 2 2 [0, 2] := Rd.of_blk (Blk.new w7 3 [0, 2] _ rfl) rfl (by decide)
  have HSK := hide (sameK_any (some ⟨cq, 0, none⟩) (some ⟨w7.heap.size, 0, none⟩) 2 bq 2 2 [0, 2] [0, 2] _ (HX7.out.mono B8).rd R8)
  rw [decide_eq_true (show ([0, 2] : List Int) = [0, 2] from rfl)] at HSK
  have hbq := HX7.out.rd.cap
  have hbm : bq ≤ 9223372036854775807 := by have := HX7.out.rd.max; unfold maxLen at this; omega
  have HB8 : Hid (Below w.heap.size w (w7.alloc (.cells #[.int .i64 0, .int .i64 2] 3))) := hide (HB7.out.trans (B8.mono HB7.out.size))
  have HG8 := hide (HG7.out.below B8 HG7.out.lt)
  clear kk6 kk7 G6 T6 T7 G7 HB5 HG5 HX4 B8 R8 HX7 HG7 HB7 P2 P3 hw5
  go_wp2_with fail
  refine HSK.out.mono ?_
  rintro e w8 ⟨rfl, kN, hw8⟩
  have HB9 : Hid (Below w.heap.size w w8) := hide (by rw [hw8]; exact HB8.out.trans (drewN_below _ _ _))
  have G9 : Gd w8 w.heap.size W H a n c := by rw [hw8]; exact HG8.out.drewN _
  clear hw8 HB8 HG8 HSK g7
  have hs8 : w.heap.size < w8.heap.size := G9.lt
  by_cases hm : mayP W H zs
  · by_cases hl : ln ≤ 200
    · obtain ⟨A, B, rfl, rfl, hW, hH, hN, -⟩ := may_nat hm HH.out.len
      have hn0 : 0 < n := by rw [← hN]; exact Nat.mul_pos hW.1 hH.1
      obtain ⟨cb, co, rfl, -⟩ := HH.out.cells hn0
      obtain ⟨SS, ee, hRR⟩ : ∃ SS ee, runP A B (ps0 zs) L = (SS, ee) := ⟨_, _, rfl⟩
      obtain ⟨-, i2, i3, i4⟩ := runP_take A B L (ps0 zs)
      have hm0 : (ps0 zs).m = 0 := by unfold ps0; rfl
      rw [hRR, hm0, Nat.sub_zero] at i2 i3 i4
      have hll := HLL.out.len
      have i2' : SS.m ≤ ln := by rw [← hll]; exact i2
      have i4' : ee = 0 ↔ SS.m = ln := by rw [← hll]; exact i4
      have HC := hide (Play_yes A B cb co n c zs la ln lc L w8 (HH.out.mono HB9.out) hm (HLL.out.mono HB9.out) hl)
      rw [hRR] at HC
      have HP2 : Hid (∀ W4, Below w.heap.size w W4 → Calls Try.prog 18 #[.agg (gdA A B (some ⟨cb, co, none⟩) n c), .slice la SS.m lc] W4 fun e w' => ∃ cq bq, e = .returned (.tuple #[.agg (gdA A B (some ⟨cq, 0, none⟩) n bq), .agg #[.int .i64 SS.t, .int .i64 SS.u], .int .i64 SS.m, .int .i64 0]) ∧ Bw w' cq n bq SS.Z ∧ Below W4.heap.size W4 w') := hide (fun W4 hb => by
        have := Play_yes A B cb co n c zs la SS.m lc (L.take SS.m) W4 (HH.out.mono hb) hm ((HLL.out.mono hb).upto i2') (by omega)
        rw [i3] at this
        exact this)
      have HM : Hid (∀ W4, Below w.heap.size w W4 → Calls Try.prog 29 #[.agg (gdA A B (some ⟨cb, co, none⟩) n c)] W4 fun e w' => e = .returned (.bool true) ∧ Below W4.heap.size W4 w') := hide (fun W4 hb => by have := May_any A B (some ⟨cb, co, none⟩) n c zs W4 (HH.out.mono hb); rwa [mayG_yes hm] at this)
      obtain ⟨bb, hb1, hb2⟩ : ∃ bb, ((ee : Int) == 0) = bb ∧ ((SS.m : Int) == (ln : Int)) = bb := by
        refine ⟨_, rfl, ?_⟩
        rw [Bool.eq_iff_iff]
        simp only [beq_iff_eq]
        omega
      have hlt0 : ¬ (SS.m : Int) < 0 := by omega
      have hle0 : ¬ (ln : Int) < (SS.m : Int) := by omega
      have hl' : ¬ (200 : Int) < (ln : Int) := by omega
      have hle : (SS.m : Int) ≤ (ln : Int) := by omega
      have hlec : (SS.m : Int) ≤ (lc : Int) := by omega
      have HI2 := hide i2'
      clear hm hRR i2 i3 i4 i4' hm0 hll
      go_wp2_with (first | (refine wpList_load_gd rfl (.tmp 2) rfl w.heap.size rfl G9 ?_) | fail)
      refine HC.out.mono ?_
      rintro e w9 ⟨xq, xb, rfl, hX9, hb9⟩
      have G10 := G9.below hb9 G9.lt
      have hs9 : w.heap.size < w9.heap.size := G10.lt
      have hxq : xq < w9.heap.size := hX9.lt
      obtain ⟨P1, P2, P3⟩ := pre2 w9
      have HB10 : Hid (Below w.heap.size w ((w9.alloc (.cells (gdA 0 0 none 0 0) 24)).alloc (.cells #[.int .i64 0, .int .i64 0] 37))) := hide (HB9.out.trans ((hb9.trans (P1.mono hb9.size)).mono HB9.out.size))
      have HG10 := hide (G10.below P1 G10.lt)
      have HX10 := hide (hX9.mono P1)
      clear hb9 P1 HB9 G9 G10 HC hX9
      generalize hw10 : (w9.alloc (.cells (gdA 0 0 none 0 0) 24)).alloc (.cells #[.int .i64 0, .int .i64 0] 37) = w10 at *
      go_upto_region 5 with (first
        | (refine wpList_store_gd rfl (.tmp 9) (.tmp 40) rfl w9.heap.size rfl rfl P2 ?_; intro w11 G11 kk11; have T11 := P3.keeps kk11 (by omega))
        | (refine wpList_storeT rfl (.tmp 10) (.tmp 41) rfl (w9.heap.size + 1) rfl rfl T11 ?_; intro w12 T12 kk12))
      have b11 := HB10.out.trans (kk11.below HB10.out.size (fun k hk e => by omega))
      have b12 := b11.trans (kk12.below b11.size (fun k hk e => by omega))
      have HB12 := hide b12
      have G12 := (HG10.out.keeps kk11 (by omega)).keeps kk12 (by omega)
      have HG12 := hide G12
      have HA12 := hide (G11.keeps kk12 (by omega))
      have HT12 := hide T12
      have HX12 := hide ((HX10.out.keeps kk11 (by omega)).keeps kk12 (by omega))
      clear b11 b12 kk11 kk12 hw10 G11 T11 T12 P2 P3 HB10 HG10 HX10
      go_wp2_with (first | (refine wpList_load_gd rfl (.tmp 2) rfl w.heap.size rfl G12 ?_) | fail)
      refine (HM.out _ HB12.out).mono ?_
      rintro e w13 ⟨rfl, hb13⟩
      have HB13 : Hid (Below w.heap.size w w13) := hide (HB12.out.trans (hb13.mono HB12.out.size))
      have G13 := HG12.out.below hb13 HG12.out.lt
      have HA13 := hide (HA12.out.below hb13 HA12.out.lt)
      have HT13 := hide (HT12.out.below hb13 HT12.out.lt)
      have HX13 := hide (HX12.out.mono hb13)
      have hs13 : w.heap.size ≤ w13.heap.size := HB13.out.size
      clear hb13 HB12 G12 HG12 HA12 HT12 HX12
      go_upto_region 9 with fail
      refine wp_region_held (S := fun W4 => Below w13.heap.size w13 W4) (by kernel_rfl) ?_
      change wpAnyH _ _ _ _ _ _ _ _ (World.drew _)
      have SW : Below w13.heap.size w13 w13.drew := (Below.refl _ w13).drew
      refine wpAnyH_take (i := 0) (v := .agg (gdA A B (some ⟨cb, co, none⟩) n c)) rfl (by kernel_rfl) (by kernel_rfl) (by kernel_rfl) (fun _ _ _ h => h) (yieldsIf_load_mid (by rfl) 24 _ rfl w.heap.size 0 (by rfl) (gdA A B (some ⟨cb, co, none⟩) n c).toList _ (fun W4 hW4 => (G13.below hW4 G13.lt).range) Try.underlying24 rfl (by exact size24)) SW ?_
      go_simp
      refine wpAnyH_take (i := 1) (v := .slice la ln lc) rfl (by kernel_rfl) (by kernel_rfl) (by kernel_rfl) (fun _ _ _ h => h) (Or.inl ⟨by rfl, ?_⟩) SW ?_
      · intro W4 hW4
        go_simp <;> first | done | rfl | (rw [IntKind.wrap_i64]; omega) | omega
      go_simp
      refine wpAnyH_take (i := 2) (v := .int .i64 SS.m) rfl (by kernel_rfl) (by kernel_rfl) (by kernel_rfl) (fun _ _ _ h => h) (Or.inl ⟨by rfl, ?_⟩) SW ?_
      · intro W4 hW4
        go_simp <;> first | done | rfl | (rw [IntKind.wrap_i64]; omega) | omega
      go_simp
      refine wpAnyH_take (i := 3) (v := .slice la SS.m lc) rfl (by kernel_rfl) (by kernel_rfl) (by kernel_rfl) (fun _ _ _ h => h) (Or.inl ⟨by rfl, ?_⟩) SW ?_
      · intro W4 hW4
        go_simp <;> first | done | rfl | (rw [IntKind.wrap_i64]; omega) | omega
      go_simp
      refine wpAnyH_ready (rs := [4, 10, 11]) (by kernel_rfl) (by simp) ?_
      refine AllReadyH.cons rfl (fun K1 hK1 => ?_) ?_
      · go_simp
        refine (HP2.out _ (HB13.out.trans (SW.mono hs13))).mono ?_
        rintro e w14 ⟨yq, yb, rfl, hY, hb14⟩
        have HY := hide hY
        have B14 := SW.trans (hb14.mono (by have := SW.size; omega))
        have h1314 : w13.heap.size ≤ w14.heap.size := B14.size
        refine hK1.out _ _ B14 (fun SW => ?_)
        clear hb14 B14 hY
        clear hK1 K1
        go_simp
        refine wpAnyH_take (i := 5) (v := .tuple #[.agg (gdA A B (some ⟨yq, 0, none⟩) n yb), .agg #[.int .i64 SS.t, .int .i64 SS.u], .int .i64 SS.m, .int .i64 0]) rfl (by kernel_rfl) (by kernel_rfl) (by kernel_rfl) (fun _ _ _ h => h) (Or.inl ⟨by rfl, ?_⟩) SW ?_
        · intro W4 hW4
          go_simp <;> first | done | rfl | (rw [IntKind.wrap_i64]; omega) | omega
        go_simp
        refine wpAnyH_take (i := 6) (v := .agg (gdA A B (some ⟨yq, 0, none⟩) n yb)) rfl (by kernel_rfl) (by kernel_rfl) (by kernel_rfl) (fun _ _ _ h => h) (Or.inl ⟨by rfl, ?_⟩) SW ?_
        · intro W4 hW4
          go_simp <;> first | done | rfl | (rw [IntKind.wrap_i64]; omega) | omega
        go_simp
        refine wpAnyH_take (i := 7) (v := .agg #[.int .i64 SS.t, .int .i64 SS.u]) rfl (by kernel_rfl) (by kernel_rfl) (by kernel_rfl) (fun _ _ _ h => h) (Or.inl ⟨by rfl, ?_⟩) SW ?_
        · intro W4 hW4
          go_simp <;> first | done | rfl | (rw [IntKind.wrap_i64]; omega) | omega
        go_simp
        refine wpAnyH_take (i := 8) (v := .int .i64 SS.m) rfl (by kernel_rfl) (by kernel_rfl) (by kernel_rfl) (fun _ _ _ h => h) (Or.inl ⟨by rfl, ?_⟩) SW ?_
        · intro W4 hW4
          go_simp <;> first | done | rfl | (rw [IntKind.wrap_i64]; omega) | omega
        go_simp
        refine wpAnyH_take (i := 9) (v := .int .i64 0) rfl (by kernel_rfl) (by kernel_rfl) (by kernel_rfl) (fun _ _ _ h => h) (Or.inl ⟨by rfl, ?_⟩) SW ?_
        · intro W4 hW4
          go_simp <;> first | done | rfl | (rw [IntKind.wrap_i64]; omega) | omega
        go_simp
        refine wpAnyH_ready (rs := [10, 11]) (by kernel_rfl) (by simp) ?_
        refine AllReadyH.cons rfl (fun K1 hK1 => ?_) ?_
        · go_simp
          have GB : Gd (w14.alloc (.cells (gdA 0 0 none 0 0) 24)) (w14.heap.size) 0 0 none 0 0 := Gd.new w14 0 0 none 0 0
          have HY : Hid (Bw (w14.alloc (.cells (gdA 0 0 none 0 0) 24)) yq n yb SS.Z) := hide (HY.out.mono ((Below.refl _ _).alloc (Nat.le_refl _) (.cells (gdA 0 0 none 0 0) 24)))
          refine hK1.out _ _ (SW.alloc SW.size _) (fun SW => ?_)
          clear hK1 K1
          go_simp
          refine wpAnyH_ready (rs := [11]) (by kernel_rfl) (by simp) ?_
          refine AllReadyH.cons rfl (fun K1 hK1 => ?_) AllReadyH.nil
          go_simp
          have GB : Gd ((w14.alloc (.cells (gdA 0 0 none 0 0) 24)).alloc (.cells #[.int .i64 0, .int .i64 0] 37)) (w14.heap.size) 0 0 none 0 0 := GB.below ((Below.refl _ _).alloc (Nat.le_refl _) (.cells #[.int .i64 0, .int .i64 0] 37)) GB.lt
          have TB : Tw ((w14.alloc (.cells (gdA 0 0 none 0 0) 24)).alloc (.cells #[.int .i64 0, .int .i64 0] 37)) (w14.heap.size + 1) 0 0 := by
            have := Tw.new (w14.alloc (.cells (gdA 0 0 none 0 0) 24)) 0 0
            rw [World.size_alloc] at this
            exact this
          have HY : Hid (Bw ((w14.alloc (.cells (gdA 0 0 none 0 0) 24)).alloc (.cells #[.int .i64 0, .int .i64 0] 37)) yq n yb SS.Z) := hide (HY.out.mono ((Below.refl _ _).alloc (Nat.le_refl _) (.cells #[.int .i64 0, .int .i64 0] 37)))
          refine hK1.out _ _ (SW.alloc SW.size _) (fun SW => ?_)
          clear hK1 K1
          go_simp
          have HN1 := hide (HY.out.notCells GB (by decide))
          have HN2 := hide (HY.out.notCells TB (by decide))
          refine wpAnyH_ready (rs := [12]) (by kernel_rfl) (by simp) ?_
          refine AllReadyH.cons rfl (fun K1 hK1 => ?_) AllReadyH.nil
          refine wp_storeG (.tmp 11) (.tmp 81) rfl (w14.heap.size) rfl rfl GB ?_
          intro w15 G15 kk15
          have B15 := SW.trans ((kk15.mono (Y := fun q => w13.heap.size ≤ q) (fun q _ e => by omega)).below (B := w13.heap.size) (by have := SW.size; omega) (fun q hq e => by omega))
          have T15 := TB.keeps kk15 (by omega)
          have HY15 := hide (HY.out.keeps kk15 HN1.out)
          refine hK1.out _ _ B15 (fun SW => ?_)
          clear B15
          clear hK1 K1
          go_simp
          refine wpAnyH_ready (rs := [13]) (by kernel_rfl) (by simp) ?_
          refine AllReadyH.cons rfl (fun K1 hK1 => ?_) AllReadyH.nil
          refine wp_storeT (.tmp 12) (.tmp 82) rfl (w14.heap.size + 1) rfl rfl T15 ?_
          intro w16 T16 kk16
          have B16 := SW.trans ((kk16.mono (Y := fun q => w13.heap.size ≤ q) (fun q _ e => by omega)).below (B := w13.heap.size) (by have := SW.size; omega) (fun q hq e => by omega))
          refine hK1.out _ _ B16 (fun SW => ?_)
          clear B16
          clear hK1 K1
          go_simp
          refine wpAnyH_ready (rs := [14]) (by kernel_rfl) (by simp) ?_
          refine AllReadyH.cons rfl (fun K1 hK1 => ?_) AllReadyH.nil
          go_simp
          refine hK1.out _ _ SW (fun SW => ?_)
          clear hK1 K1
          go_simp
          refine wpAnyH_ready (rs := [15]) (by kernel_rfl) (by simp) ?_
          refine AllReadyH.cons rfl (fun K1 hK1 => ?_) AllReadyH.nil
          go_simp
          refine hK1.out _ _ SW (fun SW => ?_)
          clear hK1 K1
          go_simp
          refine wpAnyH_done (by kernel_rfl) ?_ _
          have G16 := G15.keeps kk16 (by omega)
          have A16 := HA13.out.below SW HA13.out.lt
          have HU16 := hide (HT13.out.below SW HT13.out.lt)
          have HT16 := hide T16
          have HSG := hide (SameGridK_yes A B (some ⟨xq, 0, none⟩) (some ⟨yq, 0, none⟩) n xb yb SS.Z w16 (HX13.out.mono SW).rd (HY15.out.keeps kk16 HN2.out).rd)
          have HB16 : Hid (Below w.heap.size w w16) := hide (HB13.out.trans (SW.mono hs13))
          clear G15 T15 T16 GB TB kk15 kk16 SW G13
          go_wp2_with (first
            | (refine wpList_load_gd rfl (.tmp 9) rfl w9.heap.size rfl A16 ?_)
            | (refine wpList_load_gd rfl (.tmp 11) rfl (w14.heap.size) rfl G16 ?_)
            | fail)
          refine HSG.out.mono ?_
          rintro e w17 ⟨rfl, hb17⟩
          have U17 := HU16.out.below hb17 HU16.out.lt
          have T17 := HT16.out.below hb17 HT16.out.lt
          have HB17 : Hid (Below w.heap.size w w17) := hide (HB16.out.trans (hb17.mono HB16.out.size))
          clear hb17 A16 G16
          go_wp2_with (first
            | (refine wpList_loadT rfl (.tmp 10) rfl (w9.heap.size + 1) rfl U17 ?_)
            | (refine wpList_loadT rfl (.tmp 12) rfl (w14.heap.size + 1) rfl T17 ?_)
            | (refine wpList_eqT rfl (.tmp 98) (.tmp 99) rfl SS.t SS.u rfl rfl ?_))
          go_ret
          exact ⟨rfl, HB17.out⟩
        refine AllReadyH.cons rfl (fun K1 hK1 => ?_) AllReadyH.nil
        go_simp
        have TB : Tw (w14.alloc (.cells #[.int .i64 0, .int .i64 0] 37)) (w14.heap.size) 0 0 := Tw.new w14 0 0
        have HY : Hid (Bw (w14.alloc (.cells #[.int .i64 0, .int .i64 0] 37)) yq n yb SS.Z) := hide (HY.out.mono ((Below.refl _ _).alloc (Nat.le_refl _) (.cells #[.int .i64 0, .int .i64 0] 37)))
        refine hK1.out _ _ (SW.alloc SW.size _) (fun SW => ?_)
        clear hK1 K1
        go_simp
        refine wpAnyH_ready (rs := [10]) (by kernel_rfl) (by simp) ?_
        refine AllReadyH.cons rfl (fun K1 hK1 => ?_) AllReadyH.nil
        go_simp
        have TB : Tw ((w14.alloc (.cells #[.int .i64 0, .int .i64 0] 37)).alloc (.cells (gdA 0 0 none 0 0) 24)) (w14.heap.size) 0 0 := TB.below ((Below.refl _ _).alloc (Nat.le_refl _) (.cells (gdA 0 0 none 0 0) 24)) TB.lt
        have GB : Gd ((w14.alloc (.cells #[.int .i64 0, .int .i64 0] 37)).alloc (.cells (gdA 0 0 none 0 0) 24)) (w14.heap.size + 1) 0 0 none 0 0 := by
          have := Gd.new (w14.alloc (.cells #[.int .i64 0, .int .i64 0] 37)) 0 0 none 0 0
          rw [World.size_alloc] at this
          exact this
        have HY : Hid (Bw ((w14.alloc (.cells #[.int .i64 0, .int .i64 0] 37)).alloc (.cells (gdA 0 0 none 0 0) 24)) yq n yb SS.Z) := hide (HY.out.mono ((Below.refl _ _).alloc (Nat.le_refl _) (.cells (gdA 0 0 none 0 0) 24)))
        refine hK1.out _ _ (SW.alloc SW.size _) (fun SW => ?_)
        clear hK1 K1
        go_simp
        have HN1 := hide (HY.out.notCells GB (by decide))
        have HN2 := hide (HY.out.notCells TB (by decide))
        refine wpAnyH_ready (rs := [12]) (by kernel_rfl) (by simp) ?_
        refine AllReadyH.cons rfl (fun K1 hK1 => ?_) AllReadyH.nil
        refine wp_storeG (.tmp 11) (.tmp 81) rfl (w14.heap.size + 1) rfl rfl GB ?_
        intro w15 G15 kk15
        have B15 := SW.trans ((kk15.mono (Y := fun q => w13.heap.size ≤ q) (fun q _ e => by omega)).below (B := w13.heap.size) (by have := SW.size; omega) (fun q hq e => by omega))
        have T15 := TB.keeps kk15 (by omega)
        have HY15 := hide (HY.out.keeps kk15 HN1.out)
        refine hK1.out _ _ B15 (fun SW => ?_)
        clear B15
        clear hK1 K1
        go_simp
        refine wpAnyH_ready (rs := [13]) (by kernel_rfl) (by simp) ?_
        refine AllReadyH.cons rfl (fun K1 hK1 => ?_) AllReadyH.nil
        refine wp_storeT (.tmp 12) (.tmp 82) rfl (w14.heap.size) rfl rfl T15 ?_
        intro w16 T16 kk16
        have B16 := SW.trans ((kk16.mono (Y := fun q => w13.heap.size ≤ q) (fun q _ e => by omega)).below (B := w13.heap.size) (by have := SW.size; omega) (fun q hq e => by omega))
        refine hK1.out _ _ B16 (fun SW => ?_)
        clear B16
        clear hK1 K1
        go_simp
        refine wpAnyH_ready (rs := [14]) (by kernel_rfl) (by simp) ?_
        refine AllReadyH.cons rfl (fun K1 hK1 => ?_) AllReadyH.nil
        go_simp
        refine hK1.out _ _ SW (fun SW => ?_)
        clear hK1 K1
        go_simp
        refine wpAnyH_ready (rs := [15]) (by kernel_rfl) (by simp) ?_
        refine AllReadyH.cons rfl (fun K1 hK1 => ?_) AllReadyH.nil
        go_simp
        refine hK1.out _ _ SW (fun SW => ?_)
        clear hK1 K1
        go_simp
        refine wpAnyH_done (by kernel_rfl) ?_ _
        have G16 := G15.keeps kk16 (by omega)
        have A16 := HA13.out.below SW HA13.out.lt
        have HU16 := hide (HT13.out.below SW HT13.out.lt)
        have HT16 := hide T16
        have HSG := hide (SameGridK_yes A B (some ⟨xq, 0, none⟩) (some ⟨yq, 0, none⟩) n xb yb SS.Z w16 (HX13.out.mono SW).rd (HY15.out.keeps kk16 HN2.out).rd)
        have HB16 : Hid (Below w.heap.size w w16) := hide (HB13.out.trans (SW.mono hs13))
        clear G15 T15 T16 GB TB kk15 kk16 SW G13
        go_wp2_with (first
          | (refine wpList_load_gd rfl (.tmp 9) rfl w9.heap.size rfl A16 ?_)
          | (refine wpList_load_gd rfl (.tmp 11) rfl (w14.heap.size + 1) rfl G16 ?_)
          | fail)
        refine HSG.out.mono ?_
        rintro e w17 ⟨rfl, hb17⟩
        have U17 := HU16.out.below hb17 HU16.out.lt
        have T17 := HT16.out.below hb17 HT16.out.lt
        have HB17 : Hid (Below w.heap.size w w17) := hide (HB16.out.trans (hb17.mono HB16.out.size))
        clear hb17 A16 G16
        go_wp2_with (first
          | (refine wpList_loadT rfl (.tmp 10) rfl (w9.heap.size + 1) rfl U17 ?_)
          | (refine wpList_loadT rfl (.tmp 12) rfl (w14.heap.size) rfl T17 ?_)
          | (refine wpList_eqT rfl (.tmp 98) (.tmp 99) rfl SS.t SS.u rfl rfl ?_))
        go_ret
        exact ⟨rfl, HB17.out⟩
      refine AllReadyH.cons rfl (fun K1 hK1 => ?_) ?_
      · go_simp
        have GB : Gd (w13.alloc (.cells (gdA 0 0 none 0 0) 24)).drew (w13.heap.size) 0 0 none 0 0 := Gd.new w13 0 0 none 0 0
        refine hK1.out _ _ (SW.alloc SW.size _) (fun SW => ?_)
        clear hK1 K1
        go_simp
        refine wpAnyH_ready (rs := [4, 11]) (by kernel_rfl) (by simp) ?_
        refine AllReadyH.cons rfl (fun K1 hK1 => ?_) ?_
        · go_simp
          refine (HP2.out _ (HB13.out.trans (SW.mono hs13))).mono ?_
          rintro e w14 ⟨yq, yb, rfl, hY, hb14⟩
          have HY := hide hY
          have B14 := SW.trans (hb14.mono (by have := SW.size; omega))
          have h1314 : w13.heap.size ≤ w14.heap.size := B14.size
          have GB := GB.below hb14 GB.lt
          have hl10 : w13.heap.size < w14.heap.size := GB.lt
          refine hK1.out _ _ B14 (fun SW => ?_)
          clear hb14 B14 hY
          clear hK1 K1
          go_simp
          refine wpAnyH_take (i := 5) (v := .tuple #[.agg (gdA A B (some ⟨yq, 0, none⟩) n yb), .agg #[.int .i64 SS.t, .int .i64 SS.u], .int .i64 SS.m, .int .i64 0]) rfl (by kernel_rfl) (by kernel_rfl) (by kernel_rfl) (fun _ _ _ h => h) (Or.inl ⟨by rfl, ?_⟩) SW ?_
          · intro W4 hW4
            go_simp <;> first | done | rfl | (rw [IntKind.wrap_i64]; omega) | omega
          go_simp
          refine wpAnyH_take (i := 6) (v := .agg (gdA A B (some ⟨yq, 0, none⟩) n yb)) rfl (by kernel_rfl) (by kernel_rfl) (by kernel_rfl) (fun _ _ _ h => h) (Or.inl ⟨by rfl, ?_⟩) SW ?_
          · intro W4 hW4
            go_simp <;> first | done | rfl | (rw [IntKind.wrap_i64]; omega) | omega
          go_simp
          refine wpAnyH_take (i := 7) (v := .agg #[.int .i64 SS.t, .int .i64 SS.u]) rfl (by kernel_rfl) (by kernel_rfl) (by kernel_rfl) (fun _ _ _ h => h) (Or.inl ⟨by rfl, ?_⟩) SW ?_
          · intro W4 hW4
            go_simp <;> first | done | rfl | (rw [IntKind.wrap_i64]; omega) | omega
          go_simp
          refine wpAnyH_take (i := 8) (v := .int .i64 SS.m) rfl (by kernel_rfl) (by kernel_rfl) (by kernel_rfl) (fun _ _ _ h => h) (Or.inl ⟨by rfl, ?_⟩) SW ?_
          · intro W4 hW4
            go_simp <;> first | done | rfl | (rw [IntKind.wrap_i64]; omega) | omega
          go_simp
          refine wpAnyH_take (i := 9) (v := .int .i64 0) rfl (by kernel_rfl) (by kernel_rfl) (by kernel_rfl) (fun _ _ _ h => h) (Or.inl ⟨by rfl, ?_⟩) SW ?_
          · intro W4 hW4
            go_simp <;> first | done | rfl | (rw [IntKind.wrap_i64]; omega) | omega
          go_simp
          refine wpAnyH_ready (rs := [11]) (by kernel_rfl) (by simp) ?_
          refine AllReadyH.cons rfl (fun K1 hK1 => ?_) AllReadyH.nil
          go_simp
          have GB : Gd (w14.alloc (.cells #[.int .i64 0, .int .i64 0] 37)) (w13.heap.size) 0 0 none 0 0 := GB.below ((Below.refl _ _).alloc (Nat.le_refl _) (.cells #[.int .i64 0, .int .i64 0] 37)) GB.lt
          have TB : Tw (w14.alloc (.cells #[.int .i64 0, .int .i64 0] 37)) (w14.heap.size) 0 0 := Tw.new w14 0 0
          have HY : Hid (Bw (w14.alloc (.cells #[.int .i64 0, .int .i64 0] 37)) yq n yb SS.Z) := hide (HY.out.mono ((Below.refl _ _).alloc (Nat.le_refl _) (.cells #[.int .i64 0, .int .i64 0] 37)))
          refine hK1.out _ _ (SW.alloc SW.size _) (fun SW => ?_)
          clear hK1 K1
          go_simp
          have HN1 := hide (HY.out.notCells GB (by decide))
          have HN2 := hide (HY.out.notCells TB (by decide))
          refine wpAnyH_ready (rs := [12]) (by kernel_rfl) (by simp) ?_
          refine AllReadyH.cons rfl (fun K1 hK1 => ?_) AllReadyH.nil
          refine wp_storeG (.tmp 11) (.tmp 81) rfl (w13.heap.size) rfl rfl GB ?_
          intro w15 G15 kk15
          have B15 := SW.trans ((kk15.mono (Y := fun q => w13.heap.size ≤ q) (fun q _ e => by omega)).below (B := w13.heap.size) (by have := SW.size; omega) (fun q hq e => by omega))
          have T15 := TB.keeps kk15 (by omega)
          have HY15 := hide (HY.out.keeps kk15 HN1.out)
          refine hK1.out _ _ B15 (fun SW => ?_)
          clear B15
          clear hK1 K1
          go_simp
          refine wpAnyH_ready (rs := [13]) (by kernel_rfl) (by simp) ?_
          refine AllReadyH.cons rfl (fun K1 hK1 => ?_) AllReadyH.nil
          refine wp_storeT (.tmp 12) (.tmp 82) rfl (w14.heap.size) rfl rfl T15 ?_
          intro w16 T16 kk16
          have B16 := SW.trans ((kk16.mono (Y := fun q => w13.heap.size ≤ q) (fun q _ e => by omega)).below (B := w13.heap.size) (by have := SW.size; omega) (fun q hq e => by omega))
          refine hK1.out _ _ B16 (fun SW => ?_)
          clear B16
          clear hK1 K1
          go_simp
          refine wpAnyH_ready (rs := [14]) (by kernel_rfl) (by simp) ?_
          refine AllReadyH.cons rfl (fun K1 hK1 => ?_) AllReadyH.nil
          go_simp
          refine hK1.out _ _ SW (fun SW => ?_)
          clear hK1 K1
          go_simp
          refine wpAnyH_ready (rs := [15]) (by kernel_rfl) (by simp) ?_
          refine AllReadyH.cons rfl (fun K1 hK1 => ?_) AllReadyH.nil
          go_simp
          refine hK1.out _ _ SW (fun SW => ?_)
          clear hK1 K1
          go_simp
          refine wpAnyH_done (by kernel_rfl) ?_ _
          have G16 := G15.keeps kk16 (by omega)
          have A16 := HA13.out.below SW HA13.out.lt
          have HU16 := hide (HT13.out.below SW HT13.out.lt)
          have HT16 := hide T16
          have HSG := hide (SameGridK_yes A B (some ⟨xq, 0, none⟩) (some ⟨yq, 0, none⟩) n xb yb SS.Z w16 (HX13.out.mono SW).rd (HY15.out.keeps kk16 HN2.out).rd)
          have HB16 : Hid (Below w.heap.size w w16) := hide (HB13.out.trans (SW.mono hs13))
          clear G15 T15 T16 GB TB kk15 kk16 SW G13
          go_wp2_with (first
            | (refine wpList_load_gd rfl (.tmp 9) rfl w9.heap.size rfl A16 ?_)
            | (refine wpList_load_gd rfl (.tmp 11) rfl (w13.heap.size) rfl G16 ?_)
            | fail)
          refine HSG.out.mono ?_
          rintro e w17 ⟨rfl, hb17⟩
          have U17 := HU16.out.below hb17 HU16.out.lt
          have T17 := HT16.out.below hb17 HT16.out.lt
          have HB17 : Hid (Below w.heap.size w w17) := hide (HB16.out.trans (hb17.mono HB16.out.size))
          clear hb17 A16 G16
          go_wp2_with (first
            | (refine wpList_loadT rfl (.tmp 10) rfl (w9.heap.size + 1) rfl U17 ?_)
            | (refine wpList_loadT rfl (.tmp 12) rfl (w14.heap.size) rfl T17 ?_)
            | (refine wpList_eqT rfl (.tmp 98) (.tmp 99) rfl SS.t SS.u rfl rfl ?_))
          go_ret
          exact ⟨rfl, HB17.out⟩
        refine AllReadyH.cons rfl (fun K1 hK1 => ?_) AllReadyH.nil
        go_simp
        have GB : Gd ((w13.alloc (.cells (gdA 0 0 none 0 0) 24)).alloc (.cells #[.int .i64 0, .int .i64 0] 37)).drew (w13.heap.size) 0 0 none 0 0 := GB.below ((Below.refl _ _).alloc (Nat.le_refl _) (.cells #[.int .i64 0, .int .i64 0] 37)) GB.lt
        have TB : Tw ((w13.alloc (.cells (gdA 0 0 none 0 0) 24)).alloc (.cells #[.int .i64 0, .int .i64 0] 37)).drew (w13.heap.size + 1) 0 0 := by
          have := Tw.new (w13.alloc (.cells (gdA 0 0 none 0 0) 24)) 0 0
          rw [World.size_alloc] at this
          exact this
        refine hK1.out _ _ (SW.alloc SW.size _) (fun SW => ?_)
        clear hK1 K1
        go_simp
        refine wpAnyH_ready (rs := [4]) (by kernel_rfl) (by simp) ?_
        refine AllReadyH.cons rfl (fun K1 hK1 => ?_) AllReadyH.nil
        go_simp
        refine (HP2.out _ (HB13.out.trans (SW.mono hs13))).mono ?_
        rintro e w14 ⟨yq, yb, rfl, hY, hb14⟩
        have HY := hide hY
        have B14 := SW.trans (hb14.mono (by have := SW.size; omega))
        have h1314 : w13.heap.size ≤ w14.heap.size := B14.size
        have GB := GB.below hb14 GB.lt
        have hl10 : w13.heap.size < w14.heap.size := GB.lt
        have TB := TB.below hb14 TB.lt
        have hl11 : w13.heap.size + 1 < w14.heap.size := TB.lt
        refine hK1.out _ _ B14 (fun SW => ?_)
        clear hb14 B14 hY
        clear hK1 K1
        go_simp
        refine wpAnyH_take (i := 5) (v := .tuple #[.agg (gdA A B (some ⟨yq, 0, none⟩) n yb), .agg #[.int .i64 SS.t, .int .i64 SS.u], .int .i64 SS.m, .int .i64 0]) rfl (by kernel_rfl) (by kernel_rfl) (by kernel_rfl) (fun _ _ _ h => h) (Or.inl ⟨by rfl, ?_⟩) SW ?_
        · intro W4 hW4
          go_simp <;> first | done | rfl | (rw [IntKind.wrap_i64]; omega) | omega
        go_simp
        refine wpAnyH_take (i := 6) (v := .agg (gdA A B (some ⟨yq, 0, none⟩) n yb)) rfl (by kernel_rfl) (by kernel_rfl) (by kernel_rfl) (fun _ _ _ h => h) (Or.inl ⟨by rfl, ?_⟩) SW ?_
        · intro W4 hW4
          go_simp <;> first | done | rfl | (rw [IntKind.wrap_i64]; omega) | omega
        go_simp
        refine wpAnyH_take (i := 7) (v := .agg #[.int .i64 SS.t, .int .i64 SS.u]) rfl (by kernel_rfl) (by kernel_rfl) (by kernel_rfl) (fun _ _ _ h => h) (Or.inl ⟨by rfl, ?_⟩) SW ?_
        · intro W4 hW4
          go_simp <;> first | done | rfl | (rw [IntKind.wrap_i64]; omega) | omega
        go_simp
        refine wpAnyH_take (i := 8) (v := .int .i64 SS.m) rfl (by kernel_rfl) (by kernel_rfl) (by kernel_rfl) (fun _ _ _ h => h) (Or.inl ⟨by rfl, ?_⟩) SW ?_
        · intro W4 hW4
          go_simp <;> first | done | rfl | (rw [IntKind.wrap_i64]; omega) | omega
        go_simp
        refine wpAnyH_take (i := 9) (v := .int .i64 0) rfl (by kernel_rfl) (by kernel_rfl) (by kernel_rfl) (fun _ _ _ h => h) (Or.inl ⟨by rfl, ?_⟩) SW ?_
        · intro W4 hW4
          go_simp <;> first | done | rfl | (rw [IntKind.wrap_i64]; omega) | omega
        go_simp
        have HN1 := hide (HY.out.notCells GB (by decide))
        have HN2 := hide (HY.out.notCells TB (by decide))
        refine wpAnyH_ready (rs := [12]) (by kernel_rfl) (by simp) ?_
        refine AllReadyH.cons rfl (fun K1 hK1 => ?_) AllReadyH.nil
        refine wp_storeG (.tmp 11) (.tmp 81) rfl (w13.heap.size) rfl rfl GB ?_
        intro w15 G15 kk15
        have B15 := SW.trans ((kk15.mono (Y := fun q => w13.heap.size ≤ q) (fun q _ e => by omega)).below (B := w13.heap.size) (by have := SW.size; omega) (fun q hq e => by omega))
        have T15 := TB.keeps kk15 (by omega)
        have HY15 := hide (HY.out.keeps kk15 HN1.out)
        refine hK1.out _ _ B15 (fun SW => ?_)
        clear B15
        clear hK1 K1
        go_simp
        refine wpAnyH_ready (rs := [13]) (by kernel_rfl) (by simp) ?_
        refine AllReadyH.cons rfl (fun K1 hK1 => ?_) AllReadyH.nil
        refine wp_storeT (.tmp 12) (.tmp 82) rfl (w13.heap.size + 1) rfl rfl T15 ?_
        intro w16 T16 kk16
        have B16 := SW.trans ((kk16.mono (Y := fun q => w13.heap.size ≤ q) (fun q _ e => by omega)).below (B := w13.heap.size) (by have := SW.size; omega) (fun q hq e => by omega))
        refine hK1.out _ _ B16 (fun SW => ?_)
        clear B16
        clear hK1 K1
        go_simp
        refine wpAnyH_ready (rs := [14]) (by kernel_rfl) (by simp) ?_
        refine AllReadyH.cons rfl (fun K1 hK1 => ?_) AllReadyH.nil
        go_simp
        refine hK1.out _ _ SW (fun SW => ?_)
        clear hK1 K1
        go_simp
        refine wpAnyH_ready (rs := [15]) (by kernel_rfl) (by simp) ?_
        refine AllReadyH.cons rfl (fun K1 hK1 => ?_) AllReadyH.nil
        go_simp
        refine hK1.out _ _ SW (fun SW => ?_)
        clear hK1 K1
        go_simp
        refine wpAnyH_done (by kernel_rfl) ?_ _
        have G16 := G15.keeps kk16 (by omega)
        have A16 := HA13.out.below SW HA13.out.lt
        have HU16 := hide (HT13.out.below SW HT13.out.lt)
        have HT16 := hide T16
        have HSG := hide (SameGridK_yes A B (some ⟨xq, 0, none⟩) (some ⟨yq, 0, none⟩) n xb yb SS.Z w16 (HX13.out.mono SW).rd (HY15.out.keeps kk16 HN2.out).rd)
        have HB16 : Hid (Below w.heap.size w w16) := hide (HB13.out.trans (SW.mono hs13))
        clear G15 T15 T16 GB TB kk15 kk16 SW G13
        go_wp2_with (first
          | (refine wpList_load_gd rfl (.tmp 9) rfl w9.heap.size rfl A16 ?_)
          | (refine wpList_load_gd rfl (.tmp 11) rfl (w13.heap.size) rfl G16 ?_)
          | fail)
        refine HSG.out.mono ?_
        rintro e w17 ⟨rfl, hb17⟩
        have U17 := HU16.out.below hb17 HU16.out.lt
        have T17 := HT16.out.below hb17 HT16.out.lt
        have HB17 : Hid (Below w.heap.size w w17) := hide (HB16.out.trans (hb17.mono HB16.out.size))
        clear hb17 A16 G16
        go_wp2_with (first
          | (refine wpList_loadT rfl (.tmp 10) rfl (w9.heap.size + 1) rfl U17 ?_)
          | (refine wpList_loadT rfl (.tmp 12) rfl (w13.heap.size + 1) rfl T17 ?_)
          | (refine wpList_eqT rfl (.tmp 98) (.tmp 99) rfl SS.t SS.u rfl rfl ?_))
        go_ret
        exact ⟨rfl, HB17.out⟩
      refine AllReadyH.cons rfl (fun K1 hK1 => ?_) AllReadyH.nil
      go_simp
      have TB : Tw (w13.alloc (.cells #[.int .i64 0, .int .i64 0] 37)).drew (w13.heap.size) 0 0 := Tw.new w13 0 0
      refine hK1.out _ _ (SW.alloc SW.size _) (fun SW => ?_)
      clear hK1 K1
      go_simp
      refine wpAnyH_ready (rs := [4, 10]) (by kernel_rfl) (by simp) ?_
      refine AllReadyH.cons rfl (fun K1 hK1 => ?_) ?_
      · go_simp
        refine (HP2.out _ (HB13.out.trans (SW.mono hs13))).mono ?_
        rintro e w14 ⟨yq, yb, rfl, hY, hb14⟩
        have HY := hide hY
        have B14 := SW.trans (hb14.mono (by have := SW.size; omega))
        have h1314 : w13.heap.size ≤ w14.heap.size := B14.size
        have TB := TB.below hb14 TB.lt
        have hl11 : w13.heap.size < w14.heap.size := TB.lt
        refine hK1.out _ _ B14 (fun SW => ?_)
        clear hb14 B14 hY
        clear hK1 K1
        go_simp
        refine wpAnyH_take (i := 5) (v := .tuple #[.agg (gdA A B (some ⟨yq, 0, none⟩) n yb), .agg #[.int .i64 SS.t, .int .i64 SS.u], .int .i64 SS.m, .int .i64 0]) rfl (by kernel_rfl) (by kernel_rfl) (by kernel_rfl) (fun _ _ _ h => h) (Or.inl ⟨by rfl, ?_⟩) SW ?_
        · intro W4 hW4
          go_simp <;> first | done | rfl | (rw [IntKind.wrap_i64]; omega) | omega
        go_simp
        refine wpAnyH_take (i := 6) (v := .agg (gdA A B (some ⟨yq, 0, none⟩) n yb)) rfl (by kernel_rfl) (by kernel_rfl) (by kernel_rfl) (fun _ _ _ h => h) (Or.inl ⟨by rfl, ?_⟩) SW ?_
        · intro W4 hW4
          go_simp <;> first | done | rfl | (rw [IntKind.wrap_i64]; omega) | omega
        go_simp
        refine wpAnyH_take (i := 7) (v := .agg #[.int .i64 SS.t, .int .i64 SS.u]) rfl (by kernel_rfl) (by kernel_rfl) (by kernel_rfl) (fun _ _ _ h => h) (Or.inl ⟨by rfl, ?_⟩) SW ?_
        · intro W4 hW4
          go_simp <;> first | done | rfl | (rw [IntKind.wrap_i64]; omega) | omega
        go_simp
        refine wpAnyH_take (i := 8) (v := .int .i64 SS.m) rfl (by kernel_rfl) (by kernel_rfl) (by kernel_rfl) (fun _ _ _ h => h) (Or.inl ⟨by rfl, ?_⟩) SW ?_
        · intro W4 hW4
          go_simp <;> first | done | rfl | (rw [IntKind.wrap_i64]; omega) | omega
        go_simp
        refine wpAnyH_take (i := 9) (v := .int .i64 0) rfl (by kernel_rfl) (by kernel_rfl) (by kernel_rfl) (fun _ _ _ h => h) (Or.inl ⟨by rfl, ?_⟩) SW ?_
        · intro W4 hW4
          go_simp <;> first | done | rfl | (rw [IntKind.wrap_i64]; omega) | omega
        go_simp
        refine wpAnyH_ready (rs := [10]) (by kernel_rfl) (by simp) ?_
        refine AllReadyH.cons rfl (fun K1 hK1 => ?_) AllReadyH.nil
        go_simp
        have TB : Tw (w14.alloc (.cells (gdA 0 0 none 0 0) 24)) (w13.heap.size) 0 0 := TB.below ((Below.refl _ _).alloc (Nat.le_refl _) (.cells (gdA 0 0 none 0 0) 24)) TB.lt
        have GB : Gd (w14.alloc (.cells (gdA 0 0 none 0 0) 24)) (w14.heap.size) 0 0 none 0 0 := Gd.new w14 0 0 none 0 0
        have HY : Hid (Bw (w14.alloc (.cells (gdA 0 0 none 0 0) 24)) yq n yb SS.Z) := hide (HY.out.mono ((Below.refl _ _).alloc (Nat.le_refl _) (.cells (gdA 0 0 none 0 0) 24)))
        refine hK1.out _ _ (SW.alloc SW.size _) (fun SW => ?_)
        clear hK1 K1
        go_simp
        have HN1 := hide (HY.out.notCells GB (by decide))
        have HN2 := hide (HY.out.notCells TB (by decide))
        refine wpAnyH_ready (rs := [12]) (by kernel_rfl) (by simp) ?_
        refine AllReadyH.cons rfl (fun K1 hK1 => ?_) AllReadyH.nil
        refine wp_storeG (.tmp 11) (.tmp 81) rfl (w14.heap.size) rfl rfl GB ?_
        intro w15 G15 kk15
        have B15 := SW.trans ((kk15.mono (Y := fun q => w13.heap.size ≤ q) (fun q _ e => by omega)).below (B := w13.heap.size) (by have := SW.size; omega) (fun q hq e => by omega))
        have T15 := TB.keeps kk15 (by omega)
        have HY15 := hide (HY.out.keeps kk15 HN1.out)
        refine hK1.out _ _ B15 (fun SW => ?_)
        clear B15
        clear hK1 K1
        go_simp
        refine wpAnyH_ready (rs := [13]) (by kernel_rfl) (by simp) ?_
        refine AllReadyH.cons rfl (fun K1 hK1 => ?_) AllReadyH.nil
        refine wp_storeT (.tmp 12) (.tmp 82) rfl (w13.heap.size) rfl rfl T15 ?_
        intro w16 T16 kk16
        have B16 := SW.trans ((kk16.mono (Y := fun q => w13.heap.size ≤ q) (fun q _ e => by omega)).below (B := w13.heap.size) (by have := SW.size; omega) (fun q hq e => by omega))
        refine hK1.out _ _ B16 (fun SW => ?_)
        clear B16
        clear hK1 K1
        go_simp
        refine wpAnyH_ready (rs := [14]) (by kernel_rfl) (by simp) ?_
        refine AllReadyH.cons rfl (fun K1 hK1 => ?_) AllReadyH.nil
        go_simp
        refine hK1.out _ _ SW (fun SW => ?_)
        clear hK1 K1
        go_simp
        refine wpAnyH_ready (rs := [15]) (by kernel_rfl) (by simp) ?_
        refine AllReadyH.cons rfl (fun K1 hK1 => ?_) AllReadyH.nil
        go_simp
        refine hK1.out _ _ SW (fun SW => ?_)
        clear hK1 K1
        go_simp
        refine wpAnyH_done (by kernel_rfl) ?_ _
        have G16 := G15.keeps kk16 (by omega)
        have A16 := HA13.out.below SW HA13.out.lt
        have HU16 := hide (HT13.out.below SW HT13.out.lt)
        have HT16 := hide T16
        have HSG := hide (SameGridK_yes A B (some ⟨xq, 0, none⟩) (some ⟨yq, 0, none⟩) n xb yb SS.Z w16 (HX13.out.mono SW).rd (HY15.out.keeps kk16 HN2.out).rd)
        have HB16 : Hid (Below w.heap.size w w16) := hide (HB13.out.trans (SW.mono hs13))
        clear G15 T15 T16 GB TB kk15 kk16 SW G13
        go_wp2_with (first
          | (refine wpList_load_gd rfl (.tmp 9) rfl w9.heap.size rfl A16 ?_)
          | (refine wpList_load_gd rfl (.tmp 11) rfl (w14.heap.size) rfl G16 ?_)
          | fail)
        refine HSG.out.mono ?_
        rintro e w17 ⟨rfl, hb17⟩
        have U17 := HU16.out.below hb17 HU16.out.lt
        have T17 := HT16.out.below hb17 HT16.out.lt
        have HB17 : Hid (Below w.heap.size w w17) := hide (HB16.out.trans (hb17.mono HB16.out.size))
        clear hb17 A16 G16
        go_wp2_with (first
          | (refine wpList_loadT rfl (.tmp 10) rfl (w9.heap.size + 1) rfl U17 ?_)
          | (refine wpList_loadT rfl (.tmp 12) rfl (w13.heap.size) rfl T17 ?_)
          | (refine wpList_eqT rfl (.tmp 98) (.tmp 99) rfl SS.t SS.u rfl rfl ?_))
        go_ret
        exact ⟨rfl, HB17.out⟩
      refine AllReadyH.cons rfl (fun K1 hK1 => ?_) AllReadyH.nil
      go_simp
      have TB : Tw ((w13.alloc (.cells #[.int .i64 0, .int .i64 0] 37)).alloc (.cells (gdA 0 0 none 0 0) 24)).drew (w13.heap.size) 0 0 := TB.below ((Below.refl _ _).alloc (Nat.le_refl _) (.cells (gdA 0 0 none 0 0) 24)) TB.lt
      have GB : Gd ((w13.alloc (.cells #[.int .i64 0, .int .i64 0] 37)).alloc (.cells (gdA 0 0 none 0 0) 24)).drew (w13.heap.size + 1) 0 0 none 0 0 := by
        have := Gd.new (w13.alloc (.cells #[.int .i64 0, .int .i64 0] 37)) 0 0 none 0 0
        rw [World.size_alloc] at this
        exact this
      refine hK1.out _ _ (SW.alloc SW.size _) (fun SW => ?_)
      clear hK1 K1
      go_simp
      refine wpAnyH_ready (rs := [4]) (by kernel_rfl) (by simp) ?_
      refine AllReadyH.cons rfl (fun K1 hK1 => ?_) AllReadyH.nil
      go_simp
      refine (HP2.out _ (HB13.out.trans (SW.mono hs13))).mono ?_
      rintro e w14 ⟨yq, yb, rfl, hY, hb14⟩
      have HY := hide hY
      have B14 := SW.trans (hb14.mono (by have := SW.size; omega))
      have h1314 : w13.heap.size ≤ w14.heap.size := B14.size
      have GB := GB.below hb14 GB.lt
      have hl10 : w13.heap.size + 1 < w14.heap.size := GB.lt
      have TB := TB.below hb14 TB.lt
      have hl11 : w13.heap.size < w14.heap.size := TB.lt
      refine hK1.out _ _ B14 (fun SW => ?_)
      clear hb14 B14 hY
      clear hK1 K1
      go_simp
      refine wpAnyH_take (i := 5) (v := .tuple #[.agg (gdA A B (some ⟨yq, 0, none⟩) n yb), .agg #[.int .i64 SS.t, .int .i64 SS.u], .int .i64 SS.m, .int .i64 0]) rfl (by kernel_rfl) (by kernel_rfl) (by kernel_rfl) (fun _ _ _ h => h) (Or.inl ⟨by rfl, ?_⟩) SW ?_
      · intro W4 hW4
        go_simp <;> first | done | rfl | (rw [IntKind.wrap_i64]; omega) | omega
      go_simp
      refine wpAnyH_take (i := 6) (v := .agg (gdA A B (some ⟨yq, 0, none⟩) n yb)) rfl (by kernel_rfl) (by kernel_rfl) (by kernel_rfl) (fun _ _ _ h => h) (Or.inl ⟨by rfl, ?_⟩) SW ?_
      · intro W4 hW4
        go_simp <;> first | done | rfl | (rw [IntKind.wrap_i64]; omega) | omega
      go_simp
      refine wpAnyH_take (i := 7) (v := .agg #[.int .i64 SS.t, .int .i64 SS.u]) rfl (by kernel_rfl) (by kernel_rfl) (by kernel_rfl) (fun _ _ _ h => h) (Or.inl ⟨by rfl, ?_⟩) SW ?_
      · intro W4 hW4
        go_simp <;> first | done | rfl | (rw [IntKind.wrap_i64]; omega) | omega
      go_simp
      refine wpAnyH_take (i := 8) (v := .int .i64 SS.m) rfl (by kernel_rfl) (by kernel_rfl) (by kernel_rfl) (fun _ _ _ h => h) (Or.inl ⟨by rfl, ?_⟩) SW ?_
      · intro W4 hW4
        go_simp <;> first | done | rfl | (rw [IntKind.wrap_i64]; omega) | omega
      go_simp
      refine wpAnyH_take (i := 9) (v := .int .i64 0) rfl (by kernel_rfl) (by kernel_rfl) (by kernel_rfl) (fun _ _ _ h => h) (Or.inl ⟨by rfl, ?_⟩) SW ?_
      · intro W4 hW4
        go_simp <;> first | done | rfl | (rw [IntKind.wrap_i64]; omega) | omega
      go_simp
      have HN1 := hide (HY.out.notCells GB (by decide))
      have HN2 := hide (HY.out.notCells TB (by decide))
      refine wpAnyH_ready (rs := [12]) (by kernel_rfl) (by simp) ?_
      refine AllReadyH.cons rfl (fun K1 hK1 => ?_) AllReadyH.nil
      refine wp_storeG (.tmp 11) (.tmp 81) rfl (w13.heap.size + 1) rfl rfl GB ?_
      intro w15 G15 kk15
      have B15 := SW.trans ((kk15.mono (Y := fun q => w13.heap.size ≤ q) (fun q _ e => by omega)).below (B := w13.heap.size) (by have := SW.size; omega) (fun q hq e => by omega))
      have T15 := TB.keeps kk15 (by omega)
      have HY15 := hide (HY.out.keeps kk15 HN1.out)
      refine hK1.out _ _ B15 (fun SW => ?_)
      clear B15
      clear hK1 K1
      go_simp
      refine wpAnyH_ready (rs := [13]) (by kernel_rfl) (by simp) ?_
      refine AllReadyH.cons rfl (fun K1 hK1 => ?_) AllReadyH.nil
      refine wp_storeT (.tmp 12) (.tmp 82) rfl (w13.heap.size) rfl rfl T15 ?_
      intro w16 T16 kk16
      have B16 := SW.trans ((kk16.mono (Y := fun q => w13.heap.size ≤ q) (fun q _ e => by omega)).below (B := w13.heap.size) (by have := SW.size; omega) (fun q hq e => by omega))
      refine hK1.out _ _ B16 (fun SW => ?_)
      clear B16
      clear hK1 K1
      go_simp
      refine wpAnyH_ready (rs := [14]) (by kernel_rfl) (by simp) ?_
      refine AllReadyH.cons rfl (fun K1 hK1 => ?_) AllReadyH.nil
      go_simp
      refine hK1.out _ _ SW (fun SW => ?_)
      clear hK1 K1
      go_simp
      refine wpAnyH_ready (rs := [15]) (by kernel_rfl) (by simp) ?_
      refine AllReadyH.cons rfl (fun K1 hK1 => ?_) AllReadyH.nil
      go_simp
      refine hK1.out _ _ SW (fun SW => ?_)
      clear hK1 K1
      go_simp
      refine wpAnyH_done (by kernel_rfl) ?_ _
      have G16 := G15.keeps kk16 (by omega)
      have A16 := HA13.out.below SW HA13.out.lt
      have HU16 := hide (HT13.out.below SW HT13.out.lt)
      have HT16 := hide T16
      have HSG := hide (SameGridK_yes A B (some ⟨xq, 0, none⟩) (some ⟨yq, 0, none⟩) n xb yb SS.Z w16 (HX13.out.mono SW).rd (HY15.out.keeps kk16 HN2.out).rd)
      have HB16 : Hid (Below w.heap.size w w16) := hide (HB13.out.trans (SW.mono hs13))
      clear G15 T15 T16 GB TB kk15 kk16 SW G13
      go_wp2_with (first
        | (refine wpList_load_gd rfl (.tmp 9) rfl w9.heap.size rfl A16 ?_)
        | (refine wpList_load_gd rfl (.tmp 11) rfl (w13.heap.size + 1) rfl G16 ?_)
        | fail)
      refine HSG.out.mono ?_
      rintro e w17 ⟨rfl, hb17⟩
      have U17 := HU16.out.below hb17 HU16.out.lt
      have T17 := HT16.out.below hb17 HT16.out.lt
      have HB17 : Hid (Below w.heap.size w w17) := hide (HB16.out.trans (hb17.mono HB16.out.size))
      clear hb17 A16 G16
      go_wp2_with (first
        | (refine wpList_loadT rfl (.tmp 10) rfl (w9.heap.size + 1) rfl U17 ?_)
        | (refine wpList_loadT rfl (.tmp 12) rfl (w13.heap.size) rfl T17 ?_)
        | (refine wpList_eqT rfl (.tmp 98) (.tmp 99) rfl SS.t SS.u rfl rfl ?_))
      go_ret
      exact ⟨rfl, HB17.out⟩
    · have HC := hide (Play_count W H a n c zs la ln lc w8 (HH.out.mono HB9.out) hm (by omega))
      have HM : Hid (∀ W4, Below w.heap.size w W4 → Calls Try.prog 29 #[.agg (gdA W H a n c)] W4 fun e w' => e = .returned (.bool true) ∧ Below W4.heap.size W4 w') := hide (fun W4 hb => by have := May_any W H a n c zs W4 (HH.out.mono hb); rwa [mayG_yes hm] at this)
      have hl' : (200 : Int) < (ln : Int) := by omega
      clear hm
      go_wp2_with (first | (refine wpList_load_gd rfl (.tmp 2) rfl w.heap.size rfl G9 ?_) | fail)
      refine HC.out.mono ?_
      rintro e w9 ⟨rfl, hb9⟩
      have G10 := G9.below hb9 G9.lt
      have hs9 : w.heap.size < w9.heap.size := G10.lt
      obtain ⟨P1, P2, P3⟩ := pre2 w9
      have HB10 : Hid (Below w.heap.size w ((w9.alloc (.cells (gdA 0 0 none 0 0) 24)).alloc (.cells #[.int .i64 0, .int .i64 0] 37))) := hide (HB9.out.trans ((hb9.trans (P1.mono hb9.size)).mono HB9.out.size))
      have HG10 := hide (G10.below P1 G10.lt)
      clear hb9 P1 HB9 G9 G10 HC
      generalize hw10 : (w9.alloc (.cells (gdA 0 0 none 0 0) 24)).alloc (.cells #[.int .i64 0, .int .i64 0] 37) = w10 at *
      go_upto_region 5 with (first
        | (refine wpList_store_gd rfl (.tmp 9) (.tmp 40) rfl w9.heap.size rfl rfl P2 ?_; intro w11 G11 kk11; have T11 := P3.keeps kk11 (by omega))
        | (refine wpList_storeT rfl (.tmp 10) (.tmp 41) rfl (w9.heap.size + 1) rfl rfl T11 ?_; intro w12 T12 kk12))
      have b11 := HB10.out.trans (kk11.below HB10.out.size (fun k hk e => by omega))
      have b12 := b11.trans (kk12.below b11.size (fun k hk e => by omega))
      have HB12 := hide b12
      have G12 := (HG10.out.keeps kk11 (by omega)).keeps kk12 (by omega)
      clear b11 b12 kk11 kk12 hw10 G11 T11 T12 P2 P3 HB10 HG10
      go_wp2_with (first | (refine wpList_load_gd rfl (.tmp 2) rfl w.heap.size rfl G12 ?_) | fail)
      refine (HM.out _ HB12.out).mono ?_
      rintro e w13 ⟨rfl, hb13⟩
      have HB13 : Hid (Below w.heap.size w w13) := hide (HB12.out.trans (hb13.mono HB12.out.size))
      clear hb13 HB12 G12
      go_wp2_with fail
      go_ret
      exact ⟨rfl, HB13.out⟩
  · have HC := hide (Play_state W H a n c zs la ln lc w8 (HH.out.mono HB9.out) hm)
    have HM : Hid (∀ W4, Below w.heap.size w W4 → Calls Try.prog 29 #[.agg (gdA W H a n c)] W4 fun e w' => e = .returned (.bool false) ∧ Below W4.heap.size W4 w') := hide (fun W4 hb => by have := May_any W H a n c zs W4 (HH.out.mono hb); rwa [mayG_no hm] at this)
    clear hm
    go_wp2_with (first | (refine wpList_load_gd rfl (.tmp 2) rfl w.heap.size rfl G9 ?_) | fail)
    refine HC.out.mono ?_
    rintro e w9 ⟨rfl, hb9⟩
    have G10 := G9.below hb9 G9.lt
    have hs9 : w.heap.size < w9.heap.size := G10.lt
    obtain ⟨P1, P2, P3⟩ := pre2 w9
    have HB10 : Hid (Below w.heap.size w ((w9.alloc (.cells (gdA 0 0 none 0 0) 24)).alloc (.cells #[.int .i64 0, .int .i64 0] 37))) := hide (HB9.out.trans ((hb9.trans (P1.mono hb9.size)).mono HB9.out.size))
    have HG10 := hide (G10.below P1 G10.lt)
    clear hb9 P1 HB9 G9 G10 HC
    generalize hw10 : (w9.alloc (.cells (gdA 0 0 none 0 0) 24)).alloc (.cells #[.int .i64 0, .int .i64 0] 37) = w10 at *
    go_upto_region 5 with (first
      | (refine wpList_store_gd rfl (.tmp 9) (.tmp 40) rfl w9.heap.size rfl rfl P2 ?_; intro w11 G11 kk11; have T11 := P3.keeps kk11 (by omega))
      | (refine wpList_storeT rfl (.tmp 10) (.tmp 41) rfl (w9.heap.size + 1) rfl rfl T11 ?_; intro w12 T12 kk12))
    have b11 := HB10.out.trans (kk11.below HB10.out.size (fun k hk e => by omega))
    have b12 := b11.trans (kk12.below b11.size (fun k hk e => by omega))
    have HB12 := hide b12
    have G12 := (HG10.out.keeps kk11 (by omega)).keeps kk12 (by omega)
    clear b11 b12 kk11 kk12 hw10 G11 T11 T12 P2 P3 HB10 HG10
    go_wp2_with (first | (refine wpList_load_gd rfl (.tmp 2) rfl w.heap.size rfl G12 ?_) | fail)
    refine (HM.out _ HB12.out).mono ?_
    rintro e w13 ⟨rfl, hb13⟩
    have HB13 : Hid (Below w.heap.size w w13) := hide (HB12.out.trans (hb13.mono HB12.out.size))
    clear hb13 HB12 G12
    go_wp2_with fail
    go_ret
    exact ⟨rfl, HB13.out⟩
end Go.Proofs.Ytafiaimlmdflnaa
