/-
  Chess: a new position. No conditions beyond those that each theorem bears.
  Chess as texts: the position at the beginning shown. No conditions beyond those that each theorem bears.
  Keep: the beginning is as the document says. No conditions beyond those that each theorem bears.
  Chess problems: one move deeper is the best of what comes behind (mathematics). No conditions beyond those that each theorem bears.
-/
import Derived.Test.YtdmlamnonbmboaaGreatDoorV50
import Derived.Test.YtdmlamnonbmboaaGreatDoorV51
import Derived.Test.YtdmlamnonbmboaaGreatDoorV44
namespace Go.Proofs.YtdmlamnonbmboaaGreatDoor
open Go.RowKit Go.Shelf
open Go.Lib

attribute [local irreducible] begT begZ MayC

set_option maxRecDepth 1000000 in
set_option maxHeartbeats 4000000 in
theorem Read_beg (mx : Int) (w : World) (hm : w.cell? ⟨3, 0, none⟩ = some (.int .i64 mx)) (h4 : 4 ≤ w.heap.size) (hT : Tabs w) :
    Calls Tryz.prog 5 #[.string begT] w fun r w' => ∃ b, r = .returned (.tuple #[.agg (chA (some ⟨b, 0, none⟩) 64 64 0 15 (-1) 0 1), .int .i64 0]) ∧ Rd w' (some ⟨b, 0, none⟩) 64 64 begZ ∧ Below w.heap.size w w' := by
  obtain ⟨g, hg⟩ : ∃ g, w.heap.size = g := ⟨_, rfl⟩
  obtain ⟨w1, hw1⟩ : ∃ w1, w.alloc (.cells (chA none 0 0 0 0 0 0 0) 24) = w1 := ⟨_, rfl⟩
  have B1 : Below w.heap.size w w1 := by rw [← hw1]; exact (Below.refl _ w).alloc (Nat.le_refl _) _
  have R1 : Ch w1 g none 0 0 0 0 0 0 0 := by rw [← hw1, ← hg]; exact Ch.new w none 0 0 0 0 0 0 0
  have s1z : w1.heap.size = g + 1 := by rw [← hw1, ← hg]; simp
  have hm1 : w1.cell? ⟨3, 0, none⟩ = some (.int .i64 mx) := (B1.cell (p := ⟨3, 0, none⟩) (by show 3 < _; omega)).trans hm
  have HX := hide (read_beg mx w1 hm1 (by omega))
  have HT1 := hide (hT.mono B1)
  have HB1 := hide B1
  have HR1 := hide R1
  have HS1 := hide s1z
  have HG := hide hg
  clear hT hm1 hm B1 R1 s1z
  go_enter Tryz.func5, Tryz.ntmps5
  go_upto_region 1 with fail
  try rw [hg]
  try rw [hw1]
  clear hw1 hg
  go_wp2_with fail
  refine HX.out.mono ?_
  rintro r w2 ⟨b, rfl, hz, hb⟩
  obtain ⟨d, hd⟩ : ∃ d, w2.heap.size = d := ⟨_, rfl⟩
  obtain ⟨w3, hw3⟩ : ∃ w3, w2.alloc (.cells (chA none 0 0 0 0 0 0 0) 24) = w3 := ⟨_, rfl⟩
  have R3 : Ch w3 d none 0 0 0 0 0 0 0 := by rw [← hw3, ← hd]; exact Ch.new w2 none 0 0 0 0 0 0 0
  have HB2 : Hid (Below w1.heap.size w1 w2) := hide hb
  have HZ2 := hide hz
  have b23 : Below w2.heap.size w2 w3 := by rw [← hw3]; exact (Below.refl _ _).alloc (Nat.le_refl _) _
  have HB3 := hide b23
  have HD := hide hd
  clear hz hb b23 HX
  go_upto_region 2 with (refine wpList_store_ch rfl (.tmp 4) (.tmp 9) rfl d rfl rfl R3 ?_; intro wA kA kkA)
  have HBA : Hid (Below w2.heap.size w2 wA) := hide (HB3.out.trans (kkA.below HB3.out.size (fun j hj e => by rw [HD.out] at hj; omega)))
  have HBW : Hid (Below w1.heap.size w1 wA) := hide (HB2.out.trans (HBA.out.mono HB2.out.size))
  have HZA := hide (HZ2.out.mono HBA.out)
  have HM := hide (May_any (some ⟨b, 0, none⟩) 64 64 begZ 0 15 (-1) 0 1 (by decide) (by decide) wA HZA.out (HT1.out.mono HBW.out))
  rw [dB_t (show MayC begZ 0 15 (-1) 0 1 from beg_may)] at HM
  have HKA := hide kA
  clear R3 hw3 kkA hd
  go_wp2_with (refine wpList_load_ch rfl (.tmp 4) rfl d rfl HKA.out ?_)
  refine HM.out.mono ?_
  rintro r w5 ⟨rfl, hb5⟩
  have HB5 : Hid (Below w1.heap.size w1 w5) := hide (HBW.out.trans (hb5.mono HBW.out.size))
  have HZ5 := hide (HZA.out.mono hb5)
  have k5 := HKA.out.below hb5 HKA.out.lt
  have R5 := HR1.out.below HB5.out HR1.out.lt
  clear hb5 HM
  go_wp2_with (first | (refine wpList_load_ch rfl (.tmp 4) rfl d rfl k5 ?_) | (refine wpList_store_ch rfl (.tmp 2) (.tmp 18) rfl g rfl rfl R5 ?_; intro wB kB kkB))
  have HBB : Hid (Keeps (fun j => j = g) w5 wB) := hide kkB
  have HKB := hide kB
  try simp only [Exit.inBlock, Exit.then]
  refine bodyPost_ret (results_cht rfl _ _ g rfl rfl HKB.out) rfl ?_
  have hbg : b ≠ g := by
    rintro rfl
    have h1 := (HZ5.out.cell (i := 0) (by decide)).2
    rw [Nat.add_zero, R5.cells.1] at h1
    exact nomatch h1
  have HWB : Hid (Below w.heap.size w w5) := hide (HB1.out.trans (HB5.out.mono HB1.out.size))
  exact ⟨b, rfl, HZ5.out.keepsX HBB.out hbg, HWB.out.trans (HBB.out.below HWB.out.size (fun j hj e => by rw [HG.out] at hj; omega))⟩

set_option maxRecDepth 1000000 in
set_option maxHeartbeats 4000000 in
theorem New_any (mx : Int) (w : World) (hm : w.cell? ⟨3, 0, none⟩ = some (.int .i64 mx)) (h4 : 4 ≤ w.heap.size) (hT : Tabs w) :
    Calls Tryz.prog 29 #[] w fun r w' => ∃ b, r = .returned (.agg (chA (some ⟨b, 0, none⟩) 64 64 0 15 (-1) 0 1)) ∧ Rd w' (some ⟨b, 0, none⟩) 64 64 begZ ∧ Below w.heap.size w w' := by
  obtain ⟨g, hg⟩ : ∃ g, w.heap.size = g := ⟨_, rfl⟩
  obtain ⟨w1, hw1⟩ : ∃ w1, w.alloc (.cells (chA none 0 0 0 0 0 0 0) 24) = w1 := ⟨_, rfl⟩
  have B1 : Below w.heap.size w w1 := by rw [← hw1]; exact (Below.refl _ w).alloc (Nat.le_refl _) _
  have R1 : Ch w1 g none 0 0 0 0 0 0 0 := by rw [← hw1, ← hg]; exact Ch.new w none 0 0 0 0 0 0 0
  have s1z : w1.heap.size = g + 1 := by rw [← hw1, ← hg]; simp
  have hm1 : w1.cell? ⟨3, 0, none⟩ = some (.int .i64 mx) := (B1.cell (p := ⟨3, 0, none⟩) (by show 3 < _; omega)).trans hm
  have HX := hide (Read_beg mx w1 hm1 (by omega) (hT.mono B1))
  rw [show begT = ⟨#[114, 110, 98, 113, 107, 98, 110, 114, 47, 112, 112, 112, 112, 112, 112, 112, 112, 47, 56, 47, 56, 47, 56, 47, 56, 47, 80, 80, 80, 80, 80, 80, 80, 80, 47, 82, 78, 66, 81, 75, 66, 78, 82, 32, 119, 32, 75, 81, 107, 113, 32, 45, 32, 48, 32, 49]⟩ by unfold begT; rfl] at HX
  have HB1 := hide B1
  have HR1 := hide R1
  have HG := hide hg
  clear hT hm1 hm B1 R1 s1z
  go_enter Tryz.func29, Tryz.ntmps29
  go_upto_region 1 with fail
  try rw [hg]
  try rw [hw1]
  clear hw1 hg
  go_wp2_with fail
  refine HX.out.mono ?_
  rintro r w2 ⟨b, rfl, hz, hb⟩
  obtain ⟨d, hd⟩ : ∃ d, w2.heap.size = d := ⟨_, rfl⟩
  obtain ⟨w3, hw3⟩ : ∃ w3, w2.alloc (.cells (chA none 0 0 0 0 0 0 0) 24) = w3 := ⟨_, rfl⟩
  have R3 : Ch w3 d none 0 0 0 0 0 0 0 := by rw [← hw3, ← hd]; exact Ch.new w2 none 0 0 0 0 0 0 0
  have HB2 : Hid (Below w1.heap.size w1 w2) := hide hb
  have HZ2 := hide hz
  have b23 : Below w2.heap.size w2 w3 := by rw [← hw3]; exact (Below.refl _ _).alloc (Nat.le_refl _) _
  have HB3 := hide b23
  have HD := hide hd
  clear hz hb b23 HX
  go_upto_region 2 with (refine wpList_store_ch rfl (.tmp 1) (.tmp 5) rfl d rfl rfl R3 ?_; intro wA kA kkA)
  have HBA : Hid (Below w2.heap.size w2 wA) := hide (HB3.out.trans (kkA.below HB3.out.size (fun j hj e => by rw [HD.out] at hj; omega)))
  have HBW : Hid (Below w1.heap.size w1 wA) := hide (HB2.out.trans (HBA.out.mono HB2.out.size))
  have HZA := hide (HZ2.out.mono HBA.out)
  have RA := HR1.out.below HBW.out HR1.out.lt
  clear R3 hw3 kkA hd
  go_wp2_with (first | (refine wpList_load_ch rfl (.tmp 1) rfl d rfl kA ?_) | (refine wpList_store_ch rfl (.tmp 0) (.tmp 7) rfl g rfl rfl RA ?_; intro wB kB kkB))
  have HBB : Hid (Keeps (fun j => j = g) wA wB) := hide kkB
  have HKB := hide kB
  try simp only [Exit.inBlock, Exit.then]
  refine bodyPost_ret (results_ch rfl _ _ g rfl HKB.out) rfl ?_
  have hbg : b ≠ g := by
    rintro rfl
    have h1 := (HZA.out.cell (i := 0) (by decide)).2
    rw [Nat.add_zero, RA.cells.1] at h1
    exact nomatch h1
  have HWB : Hid (Below w.heap.size w wA) := hide (HB1.out.trans (HBW.out.mono HB1.out.size))
  exact ⟨b, rfl, HZA.out.keepsX HBB.out hbg, HWB.out.trans (HBB.out.below HWB.out.size (fun j hj e => by rw [HG.out] at hj; omega))⟩

end Go.Proofs.YtdmlamnonbmboaaGreatDoor

namespace Go.Proofs.YtdmlamnonbmboaaGreatDoor
open Go.RowKit

theorem beg_pl_len : (Lib.join ((txL begZ 8).map (·.data.toList)) [47]).length = 43 := by kernel_rfl
def begShown : List UInt8 := Lib.join ([ptT begZ, sdT 0, ctT 15, ⟨#[45]⟩, ⟨(Lib.decDigits 0).toArray⟩, ⟨(Lib.decDigits 1).toArray⟩].map (·.data.toList)) [32]
theorem beg_sh_len : begShown.length = 56 := by kernel_rfl
theorem beg_rng : (List.range 64).all (fun i => decide (-6 ≤ zg begZ i) && decide (zg begZ i ≤ 6)) = true := by kernel_rfl

attribute [local irreducible] begZ MayC begShown txL ptT ctT sdT

set_option maxRecDepth 1000000 in
set_option maxHeartbeats 4000000 in
theorem shown_beg (b : Nat) (w : World) (hz : Rd w (some ⟨b, 0, none⟩) 64 64 begZ) :
    Calls Tryz.prog 59 #[.agg (chA (some ⟨b, 0, none⟩) 64 64 0 15 (-1) 0 1)] w fun r w' => r = .returned (.string ⟨begShown.toArray⟩) ∧ Below w.heap.size w w' := by
  have e : begShown = Lib.join ([ptT begZ, sdT 0, ctT 15, ⟨#[45]⟩, ⟨(Lib.decDigits 0).toArray⟩, ⟨(Lib.decDigits 1).toArray⟩].map (·.data.toList)) [32] := by unfold begShown; rfl
  rw [e]
  refine shown_any (some ⟨b, 0, none⟩) 64 64 0 15 (-1) 0 1 (Or.inl rfl) (ptT begZ) (ctT 15) ⟨#[45]⟩ ⟨(Lib.decDigits 0).toArray⟩ ⟨(Lib.decDigits 1).toArray⟩ w (hide fun W hW => ?_) (hide fun W => ?_) (hide fun W => ?_) (hide fun W => ?_) (hide fun W => ?_) ?_
  · refine placesText_any b 64 begZ (fun i hi => ?_) W ?_ ?_
    · have h := allN beg_rng hi
      simp only [Bool.and_eq_true, decide_eq_true_eq] at h
      exact h
    · have h1 := hz.mono (show Below w.heap.size w (w.alloc (.cells (chA (some ⟨b, 0, none⟩) 64 64 0 15 (-1) 0 1) 24)) from (Below.refl _ w).alloc (Nat.le_refl _) _)
      exact h1.mono (by rw [World.size_alloc]; exact hW)
    · rw [beg_pl_len]; decide
  · exact castleText_any 15 (by decide) W
  · refine (placeText_none W).mono ?_
    rintro r W' ⟨rfl, rfl⟩
    exact ⟨rfl, Below.refl _ _⟩
  · refine (Tryz.strconv_Itoa_small 0 (by decide) W).mono ?_
    rintro r W' ⟨rfl, rfl⟩
    exact ⟨rfl, Below.refl _ _⟩
  · refine (Tryz.strconv_Itoa_small 1 (by decide) W).mono ?_
    rintro r W' ⟨rfl, rfl⟩
    exact ⟨rfl, Below.refl _ _⟩
  · rw [← e, beg_sh_len]; decide

set_option maxRecDepth 1000000 in
set_option maxHeartbeats 4000000 in
theorem Show_beg (b : Nat) (w : World) (hz : Rd w (some ⟨b, 0, none⟩) 64 64 begZ) (hT : Tabs w) :
    Calls Tryz.prog 30 #[.agg (chA (some ⟨b, 0, none⟩) 64 64 0 15 (-1) 0 1)] w fun r w' => r = .returned (.tuple #[.string ⟨begShown.toArray⟩, .int .i64 0]) ∧ Below w.heap.size w w' := by
  obtain ⟨w1, hw1⟩ : ∃ w1, w.alloc (.cells (chA (some ⟨b, 0, none⟩) 64 64 0 15 (-1) 0 1) 24) = w1 := ⟨_, rfl⟩
  have B1 : Below w.heap.size w w1 := by rw [← hw1]; exact (Below.refl _ w).alloc (Nat.le_refl _) _
  have C1 : Ch w1 w.heap.size (some ⟨b, 0, none⟩) 64 64 0 15 (-1) 0 1 := by rw [← hw1]; exact Ch.new w _ 64 64 0 15 (-1) 0 1
  have HMY := hide (May_any (some ⟨b, 0, none⟩) 64 64 begZ 0 15 (-1) 0 1 (by decide) (by decide) w1 (hz.mono B1) (hT.mono B1))
  rw [dB_t (show MayC begZ 0 15 (-1) 0 1 from beg_may)] at HMY
  have HZ1 := hide (hz.mono B1)
  have HB1 := hide B1
  have HC1 := hide C1
  clear B1 hz hT
  go_enter Tryz.func30, Tryz.ntmps30
  go_upto_region 1 with fail
  clear hw1
  go_wp2_with (refine wpList_load_ch rfl (.tmp 1) rfl w.heap.size rfl C1 ?_)
  refine HMY.out.mono ?_
  rintro r w2 ⟨rfl, hb2⟩
  have HB2 := hide (HB1.out.trans (hb2.mono HB1.out.size))
  have C2 := HC1.out.below hb2 HC1.out.lt
  have HSH := hide (shown_beg b w2 (HZ1.out.mono hb2))
  clear hb2 C1
  go_wp2_with (refine wpList_load_ch rfl (.tmp 1) rfl w.heap.size rfl C2 ?_)
  refine HSH.out.mono ?_
  rintro r w3 ⟨rfl, hb3⟩
  go_wp2_with fail
  go_ret2
  exact ⟨rfl, HB2.out.trans (hb3.mono HB2.out.size)⟩

end Go.Proofs.YtdmlamnonbmboaaGreatDoor

namespace Go.Proofs.YtdmlamnonbmboaaGreatDoor
open Go.RowKit

attribute [local irreducible] begZ MayC begShown mvs begS

theorem All_beg (b : Nat) (w : World) (hz : Rd w (some ⟨b, 0, none⟩) 64 64 begZ) (hT : Tabs w) :
    Calls Tryz.prog 13 #[.agg (chA (some ⟨b, 0, none⟩) 64 64 0 15 (-1) 0 1)] w fun r w' => ∃ ad c, r = .returned (.tuple #[.slice ad 20 c, .int .i64 0]) ∧ Below w.heap.size w w' := by
  have hS : begS.Z = begZ := by unfold begS; rfl
  have h := All_yes (some ⟨b, 0, none⟩) 64 begS beg_may w (by rw [hS]; exact hz) hT
  have e : chP (some ⟨b, 0, none⟩) 64 begS = chA (some ⟨b, 0, none⟩) 64 64 0 15 (-1) 0 1 := by unfold begS; rfl
  rw [e] at h
  refine h.mono ?_
  rintro r w' ⟨v, rfl, hown, hb⟩
  rw [beg_count] at hown
  rcases hown.2 with ⟨_, h0⟩ | ⟨g, cap, cur, hv, _⟩
  · omega
  · exact ⟨some ⟨g, 0, none⟩, cap, by rw [hv], hb⟩

set_option maxRecDepth 1000000 in
set_option maxHeartbeats 4000000 in
theorem begins_any (mx : Int) (w : World) (hm : w.cell? ⟨3, 0, none⟩ = some (.int .i64 mx)) (h4 : 4 ≤ w.heap.size) (hT : Tabs w) :
    Calls Tryz.prog 12 #[] w fun r w' => r = .returned (.bool true) ∧ Below w.heap.size w w' := by
  have HN := hide (New_any mx w hm h4 hT)
  have HT := hide hT
  clear hm hT
  go_enter Tryz.func12, Tryz.ntmps12
  go_upto_region 1 with fail
  go_wp2_with fail
  refine HN.out.mono ?_
  rintro r w2 ⟨b, rfl, hz, hb⟩
  obtain ⟨d, hd⟩ : ∃ d, w2.heap.size = d := ⟨_, rfl⟩
  obtain ⟨w3, hw3⟩ : ∃ w3, w2.alloc (.cells (chA none 0 0 0 0 0 0 0) 24) = w3 := ⟨_, rfl⟩
  have R3 : Ch w3 d none 0 0 0 0 0 0 0 := by rw [← hw3, ← hd]; exact Ch.new w2 none 0 0 0 0 0 0 0
  have HB2 : Hid (Below w.heap.size w w2) := hide hb
  have HZ2 := hide hz
  have b23 : Below w2.heap.size w2 w3 := by rw [← hw3]; exact (Below.refl _ _).alloc (Nat.le_refl _) _
  have HB3 := hide b23
  have HD := hide hd
  clear hz hb b23 HN
  go_upto_region 2 with (refine wpList_store_ch rfl (.tmp 1) (.tmp 6) rfl d rfl rfl R3 ?_; intro wA kA kkA)
  have HBA : Hid (Below w2.heap.size w2 wA) := hide (HB3.out.trans (kkA.below HB3.out.size (fun j hj e => by rw [HD.out] at hj; omega)))
  have HBW : Hid (Below w.heap.size w wA) := hide (HB2.out.trans (HBA.out.mono HB2.out.size))
  have HZA := hide (HZ2.out.mono HBA.out)
  have HTA := hide (HT.out.mono HBW.out)
  have HAL := hide (All_beg b wA HZA.out HTA.out)
  have HKA := hide kA
  clear R3 hw3 kkA hd
  go_wp2_with (refine wpList_load_ch rfl (.tmp 1) rfl d rfl HKA.out ?_)
  refine HAL.out.mono ?_
  rintro r w5 ⟨ad, cc, rfl, hb5⟩
  have HB5 : Hid (Below w.heap.size w w5) := hide (HBW.out.trans (hb5.mono HBW.out.size))
  have HZ5 := hide (HZA.out.mono hb5)
  have HT5 := hide (HTA.out.mono hb5)
  have HK5 := hide (HKA.out.below hb5 HKA.out.lt)
  have HSH := hide (Show_beg b w5 HZ5.out HT5.out)
  clear hb5 HAL kA
  go_wp2_with (refine wpList_load_ch rfl (.tmp 1) rfl d rfl HK5.out ?_)
  refine HSH.out.mono ?_
  rintro r w6 ⟨rfl, hb6⟩
  have HB6 : Hid (Below w.heap.size w w6) := hide (HB5.out.trans (hb6.mono HB5.out.size))
  have HK6 := hide (HK5.out.below hb6 HK5.out.lt)
  have HMY := hide (May_any (some ⟨b, 0, none⟩) 64 64 begZ 0 15 (-1) 0 1 (by decide) (by decide) w6 (HZ5.out.mono hb6) (HT5.out.mono hb6))
  rw [dB_t (show MayC begZ 0 15 (-1) 0 1 from by have := beg_may; unfold begS at this; exact this)] at HMY
  have hlen : (⟨begShown.toArray⟩ : ByteArray).size = 56 := beg_sh_len
  clear hb6 HSH
  go_wp2_with (refine wpList_load_ch rfl (.tmp 1) rfl d rfl HK6.out ?_)
  refine HMY.out.mono ?_
  rintro r w7 ⟨rfl, hb7⟩
  go_wp2_with fail
  go_ret
  exact ⟨rfl, HB6.out.trans (hb7.mono HB6.out.size)⟩

end Go.Proofs.YtdmlamnonbmboaaGreatDoor

namespace Go.Proofs.YtdmlamnonbmboaaGreatDoor
open Go.RowKit

/-- What a move brings, looked at from behind it; mated there is a move later. -/
def dpv (p : Ps) (m : Nat × Nat × Nat) : Int := if (bG (-1001) 0 0 (nxP p m)).1 = -1000 then -999 else (bG (-1001) 0 0 (nxP p m)).1
theorem dpv_eq {p : Ps} (hM : MayP p) {m : Nat × Nat × Nat} (hm : m ∈ mvs p) : dpv p m = (bG (-1001) 0 1 (nxP p m)).1 := by
  unfold dpv
  have hN := may_nx hM hm
  cases h : mtP (nxP p m) with
  | true => rw [bG_mt h, bG_mt h]; rfl
  | false =>
    cases h2 : skP (nxP p m) with
    | true => rw [bG_sk h h2, bG_sk h h2]; rfl
    | false =>
      rw [bG_end h h2, bG_end h h2]
      have hb := mS_bd hN.st.pz 64
      have := pci_bd (b := (nxP p m).t) (x := mS (nxP p m).Z 64) (by omega) (by omega)
      have h3 : pci (nxP p m).t (mS (nxP p m).Z 64) ≠ -1000 := by
        unfold pci
        split <;> omega
      rw [if_neg h3]
theorem mv_mt {p : Ps} (h : mvs p ≠ []) : mtP p = false ∧ skP p = false := by
  have e : (mvs p).isEmpty = false := by
    cases hl : mvs p with
    | nil => exact absurd hl h
    | cons a l => rfl
  constructor
  · unfold mtP; rw [e, Bool.and_false]
  · unfold skP; rw [e, Bool.and_false]
theorem deep_fold {p : Ps} (hM : MayP p) (h : mvs p ≠ []) : (mvs p).foldl (bStep (dpv p)) (-10000, (0, 0, 0)) = bG (-1001) 1 0 p := by
  obtain ⟨h1, h2⟩ := mv_mt h
  rw [bG_eq (lo := -1001) (lo' := -10000) (by omega) (by omega) 1 0 p hM (by omega) (by omega), bG_on h1 h2]
  refine fold_congr _ _ (fun m hm => ?_)
  rw [dpv_eq hM hm, bG_eq (lo := -1001) (lo' := -10000) (by omega) (by omega) 0 1 (nxP p m) (may_nx hM hm) (by omega) (by omega)]
  rfl
theorem deep_nil {p : Ps} (h : mvs p = []) : (bG (-1001) 1 0 p).1 = 0 ∨ (bG (-1001) 1 0 p).1 = -1000 := by
  have e : (mvs p).isEmpty = true := by rw [h]; rfl
  cases hc : ckP p with
  | true =>
    have : mtP p = true := by unfold mtP; rw [e, hc]; rfl
    rw [bG_mt this]; exact Or.inr rfl
  | false =>
    have h1 : mtP p = false := by unfold mtP; rw [hc]; rfl
    have h2 : skP p = true := by unfold skP; rw [e, hc]; rfl
    rw [bG_sk h1 h2]; exact Or.inl rfl
theorem dpv_bd {p : Ps} (hM : MayP p) {m : Nat × Nat × Nat} (hm : m ∈ mvs p) : -1000 ≤ (bG (-1001) 0 0 (nxP p m)).1 ∧ (bG (-1001) 0 0 (nxP p m)).1 ≤ 1000 := bG_bd (by omega) 0 0 _ (may_nx hM hm) (by omega) (by omega)

end Go.Proofs.YtdmlamnonbmboaaGreatDoor
