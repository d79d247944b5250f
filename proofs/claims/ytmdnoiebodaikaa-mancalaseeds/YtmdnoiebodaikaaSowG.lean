/-
  mancala.Sow, and where what it tells lies. No conditions beyond those that each theorem bears.
-/
import Derived.Test.YtmdnoiebodaikaaSowF
namespace Go.Proofs.Ytmdnoiebodaikaa
open Go.RowKit

set_option maxRecDepth 100000 in
set_option maxHeartbeats 4000000 in
theorem Sow_okB (a : Option Addr) (n c : Nat) (p u : Nat) (S : List Int) (w : World) (hR : Rd w a n c S) (hn : Hid (n = 2 * (p + 1))) (hlh : Hid (S.length = 2 * (p + 1))) (hp : p ≤ 6) (hu : u ≤ 1) (hf : Fit p S) (hm : Hid (mayB S (u : Int) = true)) (hov : Hid (overB p S = false)) (i : Nat) (hi : i < p) (hz : Hid (S.getD (pl p u i) 0 ≠ 0)) :
    Calls Try.prog 13 #[.agg (mA a n c u), .int .i64 i] w fun e w' => ∃ g, e = .returned (.tuple #[.agg (mA (some ⟨g, 0, none⟩) (2 * (p + 1)) (2 * (p + 1)) (sowT p u i S : Nat)), .bool (agB p u i S), .int .i64 0]) ∧ Blk w' g 3 (sowS p u i S) ∧ Below w.heap.size w w' := by
  obtain ⟨w0, hw0⟩ : ∃ w0, (w.alloc (Obj.cells (mA a n c u) 24)).alloc (Obj.cells #[.slice none 0 0, .int .i64 0] 24) = w0 := ⟨_, rfl⟩
  have M0 : Mn w0 w.heap.size a n c u := by rw [← hw0]; exact (Mn.new w a n c u).old _
  have M1 : Mn w0 (w.heap.size + 1) none 0 0 0 := by
    rw [← hw0]
    have := Mn.new (w.alloc (Obj.cells (mA a n c u) 24)) none 0 0 0
    rw [World.size_alloc] at this
    exact this
  have B0 : Below w.heap.size w w0 := by rw [← hw0]; exact ((Below.refl _ w).alloc (Nat.le_refl _) _).alloc (by simp) _
  obtain ⟨b, hbe⟩ : ∃ b, w.heap.size = b := ⟨_, rfl⟩
  rw [hbe] at M0 M1
  have HM0 := hide M0
  have HM1 := hide M1
  have HB0 := hide B0
  have HR0 := hide (hR.mono B0)
  clear M0 M1 B0 hR
  go_enter Try.func13, Try.ntmps13
  go_wp2_with (first | refine wpList_load_mn rfl _ rfl b rfl HM0.out ?_)
  refine (May_any a n c u S _ HR0.out (by omega) (by omega)).mono ?_
  rintro e w1 ⟨rfl, hw⟩
  rw [hm.out]
  have HM01 := hide (HM0.out.below hw HM0.out.lt)
  have HM11 := hide (HM1.out.below hw HM1.out.lt)
  have HB1 := hide (HB0.out.trans (hw.mono HB0.out.size))
  have HR1 := hide (HR0.out.mono hw)
  clear hw HM0 HM1 HB0 HR0
  go_wp2_with (first | refine wpList_load_mn rfl _ rfl b rfl HM01.out ?_)
  rw [hn.out] at HR1 ⊢
  have hl := hlh.out
  refine (seen_any a c p u S hp _ HR1.out).mono ?_
  rintro e w2 ⟨rfl, hw⟩
  have HM12 := HM11.out.below hw HM11.out.lt
  have HB2 := HB1.out.trans (hw.mono HB1.out.size)
  have HP : Hid ((pad S).length = 14) := hide (pad_length S (by omega))
  have HBL : Hid ((bdL (pad S) p u).length = 16) := hide (bdL_length _ p u HP.out)
  have HFP : Hid (Fit p (pad S)) := hide (hf.pad hl)
  have HOV : Hid (overB p (pad S) = overB p S) := hide (overB_pad hl)
  clear hw HM11 HB1 HR1 HM01 hl
  have hb1 := HM12.lt
  have BN : Blk (w2.alloc (Obj.cells (ivs (bdL (pad S) p u)).toArray 46)) w2.heap.size 46 (bdL (pad S) p u) := Blk.new w2 46 _ _ rfl
  have Z0 : Blk (w2.alloc (Obj.cells (ivs z16).toArray 46)) w2.heap.size 46 z16 := Blk.new w2 46 _ _ rfl
  have HZ0 : Hid (Blk (w2.alloc (Obj.cells #[.int .i64 0, .int .i64 0, .int .i64 0, .int .i64 0, .int .i64 0, .int .i64 0, .int .i64 0, .int .i64 0, .int .i64 0, .int .i64 0, .int .i64 0, .int .i64 0, .int .i64 0, .int .i64 0, .int .i64 0, .int .i64 0] 46)) w2.heap.size 46 z16) := hide Z0
  have HM13 : Hid (Mn (w2.alloc (Obj.cells #[.int .i64 0, .int .i64 0, .int .i64 0, .int .i64 0, .int .i64 0, .int .i64 0, .int .i64 0, .int .i64 0, .int .i64 0, .int .i64 0, .int .i64 0, .int .i64 0, .int .i64 0, .int .i64 0, .int .i64 0, .int .i64 0] 46)) (b + 1) none 0 0 0) := hide (HM12.old _)
  have HB3 : Hid (Below w.heap.size w (w2.alloc (Obj.cells #[.int .i64 0, .int .i64 0, .int .i64 0, .int .i64 0, .int .i64 0, .int .i64 0, .int .i64 0, .int .i64 0, .int .i64 0, .int .i64 0, .int .i64 0, .int .i64 0, .int .i64 0, .int .i64 0, .int .i64 0, .int .i64 0] 46))) := hide (HB2.alloc HB2.size _)
  have hz16 : Hid (z16.length = 16) := hide rfl
  clear BN Z0 HM12 HB2
  go_upto_region 4 with (first | (refine wpList_store_bd rfl _ _ rfl w2.heap.size (bdL (pad S) p u) z16 HBL.out hz16.out rfl rfl HZ0.out ?_; intro w3 hb3 hk3))
  have HM4 := hide (HM13.out.keeps hk3 (by omega))
  have HB4 := hide (HB3.out.trans (hk3.below HB3.out.size (fun k hk e => by have := HB3.out.size; simp at this; omega)))
  have HK4 := hide hb3
  clear HZ0 HM13 HB3 hb3 hk3
  obtain ⟨s, hs⟩ : ∃ s, w2.heap.size = s := ⟨_, rfl⟩
  rw [hs] at HK4 hb1 ⊢
  clear hs
  go_wp2_with (first | refine wpList_load_bd rfl _ rfl s rfl (bdL (pad S) p u) HBL.out HK4.out ?_)
  refine (over_any (pad S) HP.out p u hp HFP.out _).mono ?_
  rintro e w5 ⟨rfl, hw⟩
  rw [HOV.out, hov.out]
  have HM5 := hide (HM4.out.below hw HM4.out.lt)
  have HB5 := hide (HB4.out.trans (hw.mono HB4.out.size))
  have HK5 := hide (HK4.out.below hw HK4.out.lt)
  clear hw HM4 HB4 HK4
  have c14 := HK5.out.pits HP.out
  have h1 : decide ((i : Int) < 0) = false := by simp
  have h2 : decide ((p : Int) ≤ (i : Int)) = false := by simp; omega
  have h2n : decide (p ≤ i) = false := by simp; omega
  have hl := hlh.out
  have HE : Hid (((pad S).getD (pl p u i) 0 == 0) = false) := hide (by rw [pad_getD S _ (by rw [hl]; exact pl_lt hu (by omega))]; simpa using hz.out)
  clear hl
  go_wp2_with (first | refine wpList_load_bd rfl _ rfl s rfl (bdL (pad S) p u) HBL.out HK5.out ?_)
  refine (empty_any (pad S) HP.out p u i hp hu hi _).mono ?_
  rintro e w6 ⟨rfl, hw⟩
  rw [HE.out]
  have HM6 := hide (HM5.out.below hw HM5.out.lt)
  have HB6 := hide (HB5.out.trans (hw.mono HB5.out.size))
  have HK6 := hide (HK5.out.below hw HK5.out.lt)
  clear hw HM5 HB5 HK5 c14
  go_wp2_with (first | refine wpList_load_bd rfl _ rfl s rfl (bdL (pad S) p u) HBL.out HK6.out ?_)
  refine (sow_any (pad S) HP.out p u i hp hu hi HFP.out _).mono ?_
  rintro e w7 ⟨rfl, hw⟩
  rw [sowS_pad hp hu hi hlh.out, agB_pad hu hi hlh.out, sowT_pad hu hi hlh.out]
  have HM7 := hide (HM6.out.below hw HM6.out.lt)
  have HB7 := hide (HB6.out.trans (hw.mono HB6.out.size))
  clear hw HM6 HB6 HK6
  have HL7 : Hid ((sowS p u i S).length = 2 * (p + 1)) := hide (by rw [sowS_length]; exact hlh.out)
  obtain ⟨F, hF⟩ : ∃ F, sowS p u i S = F := ⟨_, rfl⟩
  obtain ⟨ut, hut⟩ : ∃ ut, sowT p u i S = ut := ⟨_, rfl⟩
  obtain ⟨ag, hag⟩ : ∃ ag, agB p u i S = ag := ⟨_, rfl⟩
  rw [hF] at HL7
  rw [hF, hut, hag]
  have HFF := hide hF
  have HUT := hide hut
  have HAG := hide hag
  clear hF hut hag
  have HP7 : Hid ((pad F).length = 14) := hide (pad_length F (by have := HL7.out; omega))
  have HBL7 : Hid ((bdL (pad F) p ut).length = 16) := hide (bdL_length _ p ut HP7.out)
  have HZ7 : Hid (Blk (w7.alloc (Obj.cells #[.int .i64 0, .int .i64 0, .int .i64 0, .int .i64 0, .int .i64 0, .int .i64 0, .int .i64 0, .int .i64 0, .int .i64 0, .int .i64 0, .int .i64 0, .int .i64 0, .int .i64 0, .int .i64 0, .int .i64 0, .int .i64 0] 46)) w7.heap.size 46 z16) := hide (Blk.new w7 46 z16 _ rfl)
  have HM8 : Hid (Mn (w7.alloc (Obj.cells #[.int .i64 0, .int .i64 0, .int .i64 0, .int .i64 0, .int .i64 0, .int .i64 0, .int .i64 0, .int .i64 0, .int .i64 0, .int .i64 0, .int .i64 0, .int .i64 0, .int .i64 0, .int .i64 0, .int .i64 0, .int .i64 0] 46)) (b + 1) none 0 0 0) := hide (HM7.out.old _)
  have HB8 : Hid (Below w.heap.size w (w7.alloc (Obj.cells #[.int .i64 0, .int .i64 0, .int .i64 0, .int .i64 0, .int .i64 0, .int .i64 0, .int .i64 0, .int .i64 0, .int .i64 0, .int .i64 0, .int .i64 0, .int .i64 0, .int .i64 0, .int .i64 0, .int .i64 0, .int .i64 0] 46))) := hide (HB7.out.alloc HB7.out.size _)
  have hb7 := HM7.out.lt
  clear HM7 HB7
  go_upto_region 11 with (first | (refine wpList_store_bd rfl _ _ rfl w7.heap.size (bdL (pad F) p ut) z16 HBL7.out hz16.out rfl rfl HZ7.out ?_; intro w8 hb8 hk8))
  have HM9 := hide (HM8.out.keeps hk8 (by omega))
  have HB9 := hide (HB8.out.trans (hk8.below HB8.out.size (fun k hk e => by have := HB8.out.size; simp at this; omega)))
  have HK9 := hide hb8
  clear HZ7 HM8 HB8 hb8 hk8
  obtain ⟨s7, hs7⟩ : ∃ s7, w7.heap.size = s7 := ⟨_, rfl⟩
  rw [hs7] at HK9 hb7 ⊢
  clear hs7
  go_wp2_with (first | refine wpList_load_bd rfl _ rfl s7 rfl (bdL (pad F) p ut) HBL7.out HK9.out ?_)
  refine (told_any (pad F) HP7.out p ut hp _).mono ?_
  rintro e w10 ⟨g, rfl, hbg, hgg, hw⟩
  rw [show (pad F).take (2 * (p + 1)) = F from by rw [← HL7.out]; exact pad_take F] at hbg
  have HM10 := hide (HM9.out.below hw HM9.out.lt)
  have HB10 := hide (HB9.out.trans (hw.mono HB9.out.size))
  have HG10 := hide hbg
  have hgb : b + 1 < g := by have := HM9.out.lt; omega
  clear hw hbg HM9 HB9 HK9
  go_wp2_with (first | (refine wpList_store_mn rfl _ _ rfl (b + 1) rfl rfl HM10.out ?_; intro w11 m11 k11))
  refine bodyPost_ret (results_mn2 rfl _ _ (b + 1) rfl m11) rfl ⟨_, by rw [HUT.out, HAG.out]; rfl, ?_, ?_⟩
  · rw [HFF.out]
    exact HG10.out.keeps k11 (by omega)
  · first
    | exact HB10.out.trans (k11.below HB10.out.size (fun k hk e => by omega))
    | (rw [← hbe]; exact HB10.out.trans (k11.below HB10.out.size (fun k hk e => by omega)))

end Go.Proofs.Ytmdnoiebodaikaa
