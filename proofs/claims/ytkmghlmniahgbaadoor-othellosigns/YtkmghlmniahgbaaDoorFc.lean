/-
  othello.Places and othello.Next, walked. No conditions beyond those that each theorem bears.
-/
import Derived.Test.YtkmghlmniahgbaaDoorCl
namespace Go.Proofs.YtkmghlmniahgbaaDoor
open Go.RowKit

theorem nms_mv {gW gH n : Nat} {zs : List Int} (b : Og gW gH n zs) (m : Nat) : nms gW (bln (mvS gW gH zs m) 64) = toI (sps gW gH zs m) ∧ (bln (mvS gW gH zs m) 64).length = (sps gW gH zs m).length := by
  have h := mvS_places b.w1 b.ht.2 zs m
  constructor
  · unfold nms toI
    rw [← h, List.map_map]; rfl
  · rw [← h, List.length_map]

set_option maxRecDepth 100000 in
set_option maxHeartbeats 2000000 in
theorem Places_state (W H : Int) (a : Option Addr) (n c : Nat) (zs : List Int) (who : Int) (w : World) (hT : DTab w) (h : Rd w a n c zs) (hno : oMay W H zs = false) :
    Calls Tryd.prog 9 #[.agg (gdA W H a n c), .int .i64 who] w fun e w' => e = .returned (.tuple #[.slice none 0 0, .int .i64 12]) ∧ Below w.heap.size w w' := by
  obtain ⟨w1, hw1⟩ : ∃ w1, w.alloc (.cells (gdA W H a n c) 24) = w1 := ⟨_, rfl⟩
  have HB1 : Hid (Below w.heap.size w w1) := hide (by rw [← hw1]; exact (Below.refl _ _).alloc (Nat.le_refl _) _)
  have G1 : Gd w1 w.heap.size W H a n c := by rw [← hw1]; exact Gd.new _ _ _ _ _ _
  have HG := hide G1
  have HD := hide (hT.mono HB1.out)
  have HBO := hide (boardOf_state W H a n c zs who w1 (h.mono HB1.out) hno)
  clear h hno hT
  go_enter Tryd.func9, Tryd.ntmps9
  go_upto_region 1 with fail
  clear hw1
  go_wp2_with (refine wpList_load_gd rfl (.tmp 2) rfl w.heap.size rfl G1 ?_)
  refine HBO.out.mono ?_
  rintro e w2 ⟨rfl, hb2⟩
  have HB2 := hide (HB1.out.trans (hb2.mono HB1.out.size))
  have HG2 := hide (HG.out.below hb2 HG.out.lt)
  have K22 := Bd.new w2 0 0 0
  have HD2 := hide (HD.out.mono hb2)
  clear hb2 G1 HBO
  go_upto_region 2 with (refine wpList_store_bd rfl (.tmp 6) (.tmp 12) rfl w2.heap.size rfl rfl K22 ?_; intro w3 V3 kk3)
  have B23 : Below w2.heap.size w2 w3 := (((Keeps.refl (fun k => k = w2.heap.size) w2).alloc _).trans kk3).below (Nat.le_refl _) (fun k hk e => by omega)
  have HB3 := hide (HB2.out.trans (B23.mono HB2.out.size))
  have HG3 := hide (HG2.out.below B23 HG2.out.lt)
  have HD3 := hide (HD2.out.mono B23)
  clear kk3 B23 K22 HB2 HD2 HG2
  go_wp2_with fail
  go_ret2
  exact ⟨rfl, HB3.out⟩

set_option maxRecDepth 100000 in
set_option maxHeartbeats 2000000 in
theorem Places_who (gW gH : Nat) (a : Option Addr) (n c : Nat) (zs : List Int) (who : Int) (w : World) (hT : DTab w) (h : Rd w a n c zs) (b : Og gW gH n zs) (hn1 : who ≠ 1) (hn2 : who ≠ 2) :
    Calls Tryd.prog 9 #[.agg (gdA gW gH a n c), .int .i64 who] w fun e w' => e = .returned (.tuple #[.slice none 0 0, .int .i64 4]) ∧ Below w.heap.size w w' := by
  obtain ⟨w1, hw1⟩ : ∃ w1, w.alloc (.cells (gdA gW gH a n c) 24) = w1 := ⟨_, rfl⟩
  have HB1 : Hid (Below w.heap.size w w1) := hide (by rw [← hw1]; exact (Below.refl _ _).alloc (Nat.le_refl _) _)
  have G1 : Gd w1 w.heap.size gW gH a n c := by rw [← hw1]; exact Gd.new _ _ _ _ _ _
  have HG := hide G1
  have HD := hide (hT.mono HB1.out)
  have HBO := hide (boardOf_who gW gH a n c zs who w1 (h.mono HB1.out) b hn1 hn2)
  clear h b hT hn1 hn2
  go_enter Tryd.func9, Tryd.ntmps9
  go_upto_region 1 with fail
  clear hw1
  go_wp2_with (refine wpList_load_gd rfl (.tmp 2) rfl w.heap.size rfl G1 ?_)
  refine HBO.out.mono ?_
  rintro e w2 ⟨rfl, hb2⟩
  have HB2 := hide (HB1.out.trans (hb2.mono HB1.out.size))
  have HG2 := hide (HG.out.below hb2 HG.out.lt)
  have K22 := Bd.new w2 0 0 0
  have HD2 := hide (HD.out.mono hb2)
  clear hb2 G1 HBO
  go_upto_region 2 with (refine wpList_store_bd rfl (.tmp 6) (.tmp 12) rfl w2.heap.size rfl rfl K22 ?_; intro w3 V3 kk3)
  have B23 : Below w2.heap.size w2 w3 := (((Keeps.refl (fun k => k = w2.heap.size) w2).alloc _).trans kk3).below (Nat.le_refl _) (fun k hk e => by omega)
  have HB3 := hide (HB2.out.trans (B23.mono HB2.out.size))
  have HG3 := hide (HG2.out.below B23 HG2.out.lt)
  have HD3 := hide (HD2.out.mono B23)
  clear kk3 B23 K22 HB2 HD2 HG2
  go_wp2_with fail
  go_ret2
  exact ⟨rfl, HB3.out⟩

attribute [local irreducible] mvS bln nms sps num

set_option maxRecDepth 100000 in
set_option maxHeartbeats 4000000 in
theorem Places_yes (gW gH : Nat) (a : Option Addr) (n c : Nat) (zs : List Int) (m : Nat) (w : World) (hT : DTab w) (hTz : TzT w) (h : Rd w a n c zs) (b : Og gW gH n zs) (hm : m = 1 ∨ m = 2) :
    Calls Tryd.prog 9 #[.agg (gdA gW gH a n c), .int .i64 (m : Nat)] w fun e w' => ∃ a' c', e = .returned (.tuple #[.slice a' (sps gW gH zs m).length c', .int .i64 0]) ∧ w'.ownsRow w.heap.size 3 1 (.slice a' (sps gW gH zs m).length c') (sps gW gH zs m).length ((toI (sps gW gH zs m)).map (Value.int .i64)) ∧ Below w.heap.size w w' := by
  obtain ⟨w1, hw1⟩ : ∃ w1, w.alloc (.cells (gdA gW gH a n c) 24) = w1 := ⟨_, rfl⟩
  have HB1 : Hid (Below w.heap.size w w1) := hide (by rw [← hw1]; exact (Below.refl _ _).alloc (Nat.le_refl _) _)
  have G1 : Gd w1 w.heap.size gW gH a n c := by rw [← hw1]; exact Gd.new _ _ _ _ _ _
  have HG := hide G1
  have HD := hide (hT.mono HB1.out)
  have HTZ := hide (hTz.mono HB1.out)
  have HBO := hide (boardOf_yes gW gH a n c zs m w1 (h.mono HB1.out) b hm)
  have HMV := hide (fun W1 h1 => moves_any (Z := zs) b.w1 b.ht.2 hm W1 h1)
  have hWd := b.wd
  have HCO := hide (fun bp bw W1 (hR : NuR bp bw (mvS gW gH zs m) gW W1) => collect_any bp bw (mvS gW gH zs m) gW (mvS_lt _ _ _ _) (by omega) W1 hR)
  obtain ⟨e1, e2⟩ := nms_mv b m
  rw [e1, e2] at HCO
  clear h b hT hTz hm e1 e2
  dsimp only [brd] at HMV
  dsimp only [brd] at HBO
  generalize so gW gH zs m = o at *
  generalize so gW gH zs (3 - m) = t at *
  generalize so gW gH zs 0 = e at *
  generalize mvS gW gH zs m = MV at *
  generalize sps gW gH zs m = L at *
  go_enter Tryd.func9, Tryd.ntmps9
  go_upto_region 1 with fail
  clear hw1
  go_wp2_with (refine wpList_load_gd rfl (.tmp 2) rfl w.heap.size rfl G1 ?_)
  refine HBO.out.mono ?_
  rintro e w2 ⟨rfl, hb2⟩
  have HB2 := hide (HB1.out.trans (hb2.mono HB1.out.size))
  have HG2 := hide (HG.out.below hb2 HG.out.lt)
  have K22 := Bd.new w2 0 0 0
  have HD2 := hide (HD.out.mono hb2)
  have HTZ2 := hide (HTZ.out.mono hb2)
  clear hb2 G1 HBO
  go_upto_region 2 with (refine wpList_store_bd rfl (.tmp 6) (.tmp 12) rfl w2.heap.size rfl rfl K22 ?_; intro w3 V3 kk3)
  have B23 : Below w2.heap.size w2 w3 := (((Keeps.refl (fun k => k = w2.heap.size) w2).alloc _).trans kk3).below (Nat.le_refl _) (fun k hk e => by omega)
  have HB3 := hide (HB2.out.trans (B23.mono HB2.out.size))
  have HG3 := hide (HG2.out.below B23 HG2.out.lt)
  have HD3 := hide (HD2.out.mono B23)
  have HTZ3 := hide (HTZ2.out.mono B23)
  clear kk3 B23 K22 HB2 HD2 HG2
  go_upto_region 4 with fail
  have HFC : Hid (∀ W4, Below w3.heap.size w3 W4 → W4.cell? ⟨w.heap.size, 0, none⟩ = some (.int .i64 gW) ∧ True) := hide (fun W4 hb => ⟨(HG3.out.below hb HG3.out.lt).cells.1, trivial⟩)
  have HVR : Hid (∀ W4, Below w3.heap.size w3 W4 → W4.rangeAt w2.heap.size 0 [.int .u64 (o : Nat), .int .u64 (t : Nat), .int .u64 (e : Nat)]) := hide (fun W4 hb => (V3.below hb V3.lt).range)
  refine wp_region_held (S := fun W4 => Below w3.heap.size w3 W4) (by kernel_rfl) ?_
  change wpAnyH _ _ _ _ _ _ _ _ (World.drew _)
  have SW : Below w3.heap.size w3 w3.drew := (Below.refl _ w3).drew
  refine wpAnyH_take (i := 0) (v := .agg (bdA o t e)) rfl (by kernel_rfl) (by kernel_rfl) (by kernel_rfl) (fun _ _ _ h => h) (yieldsIf_load_mid (by rfl) 55 _ rfl w2.heap.size 0 (by rfl) [.int .u64 (o : Nat), .int .u64 (t : Nat), .int .u64 (e : Nat)] _ (fun W hW => HVR.out W hW) Tryd.underlying55 rfl size55) SW ?_
  go_simp
  refine wpAnyH_take (i := 2) (v := .pointer (some ⟨w.heap.size, 0, none⟩)) rfl (by kernel_rfl) (by kernel_rfl) (by kernel_rfl) (fun _ _ _ h => h) (Or.inl ⟨by rfl, ?_⟩) SW ?_
  · intro W4 hW4
    go_simp <;> first | done | rfl | (rw [IntKind.wrap_i64]; omega) | omega
  go_simp
  refine wpAnyH_take (i := 3) (v := .int .i64 gW) rfl (by kernel_rfl) (by kernel_rfl) (by kernel_rfl) (fun _ _ _ h => h) (Or.inl ⟨by rfl, ?_⟩) SW ?_
  · intro W4 hW4
    obtain ⟨x0, x1⟩ := HFC.out W4 hW4
    go_simp <;> first | done | rfl | (rw [IntKind.wrap_i64]; omega) | omega
  go_simp
  refine wpAnyH_ready (rs := [1]) (by kernel_rfl) (by simp) ?_
  refine AllReadyH.cons rfl (fun K1 hK1 => ?_) AllReadyH.nil
  go_simp
  refine (HMV.out _ (HD3.out.mono SW)).mono ?_
  rintro r w5 ⟨rfl, hb5⟩
  have B5 := SW.trans (hb5.mono SW.size)
  refine hK1.out _ _ B5 (fun SW => ?_)
  clear hK1 K1 hb5
  go_simp
  refine wpAnyH_ready (rs := [4]) (by kernel_rfl) (by simp) ?_
  refine AllReadyH.cons rfl (fun K1 hK1 => ?_) AllReadyH.nil
  go_simp
  refine (numbers_any MV gW _).mono ?_
  rintro r w6 ⟨rfl, hw6⟩
  have B56 : Below w5.heap.size w5 w6 := by rw [hw6]; exact ((Below.refl _ w5).alloc (Nat.le_refl _) _).alloc (by simp) _
  have B6 := B5.trans (B56.mono B5.size)
  have R6 : NuR w5.heap.size (w5.heap.size + 1) MV gW w6 := by
    refine ⟨?_, ?_, (HTZ3.out.mono B6)⟩
    · rw [hw6]; exact old_cell _ (new_cell w5 _ 53)
    · rw [hw6]
      have := new_cell (w5.alloc (.cells #[.int .u64 (MV : Nat)] 53)) (.int .i64 (gW : Nat)) 3
      rw [World.size_alloc] at this
      exact this
  refine hK1.out _ _ B6 (fun SW => ?_)
  clear hK1 K1 hw6 B56
  go_simp
  refine wpAnyH_ready (rs := [5]) (by kernel_rfl) (by simp) ?_
  refine AllReadyH.cons rfl (fun K1 hK1 => ?_) AllReadyH.nil
  go_simp
  refine (HCO.out _ _ _ R6).mono ?_
  rintro r w7 ⟨a', c', rfl, hO7, hb7⟩
  have B7 := B6.trans (hb7.mono B6.size)
  have HO7 : Hid (w7.ownsRow w.heap.size 3 1 (.slice a' L.length c') L.length ((toI L).map (Value.int .i64))) := hide (own_base hO7 (by have := HB3.out.size; have := B6.size; omega))
  refine hK1.out _ _ B7 (fun SW => ?_)
  clear hK1 K1 hb7 hO7 R6
  go_simp
  refine wpAnyH_ready (rs := [6]) (by kernel_rfl) (by simp) ?_
  refine AllReadyH.cons rfl (fun K1 hK1 => ?_) AllReadyH.nil
  go_simp
  refine hK1.out _ _ SW (fun SW => ?_)
  clear hK1 K1
  go_simp
  refine wpAnyH_ready (rs := [7]) (by kernel_rfl) (by simp) ?_
  refine AllReadyH.cons rfl (fun K1 hK1 => ?_) AllReadyH.nil
  go_simp
  refine hK1.out _ _ SW (fun SW => ?_)
  clear hK1 K1
  go_simp
  refine wpAnyH_done (by kernel_rfl) ?_ _
  have HB7 := hide (HB3.out.trans (B7.mono HB3.out.size))
  clear SW B7 B6 B5 V3
  go_wp2_with fail
  go_ret2
  exact ⟨a', c', rfl, HO7.out, HB7.out⟩

set_option maxRecDepth 100000 in
set_option maxHeartbeats 2000000 in
theorem Next_state (W H : Int) (a : Option Addr) (n c : Nat) (zs : List Int) (who : Int) (w : World) (hT : DTab w) (h : Rd w a n c zs) (hno : oMay W H zs = false) :
    Calls Tryd.prog 12 #[.agg (gdA W H a n c), .int .i64 who] w fun e w' => e = .returned (.tuple #[.int .i64 0, .int .i64 12]) ∧ Below w.heap.size w w' := by
  obtain ⟨w1, hw1⟩ : ∃ w1, w.alloc (.cells (gdA W H a n c) 24) = w1 := ⟨_, rfl⟩
  have HB1 : Hid (Below w.heap.size w w1) := hide (by rw [← hw1]; exact (Below.refl _ _).alloc (Nat.le_refl _) _)
  have G1 : Gd w1 w.heap.size W H a n c := by rw [← hw1]; exact Gd.new _ _ _ _ _ _
  have HG := hide G1
  have HD := hide (hT.mono HB1.out)
  have HBO := hide (boardOf_state W H a n c zs who w1 (h.mono HB1.out) hno)
  clear h hno hT
  go_enter Tryd.func12, Tryd.ntmps12
  go_upto_region 1 with fail
  clear hw1
  go_wp2_with (refine wpList_load_gd rfl (.tmp 2) rfl w.heap.size rfl G1 ?_)
  refine HBO.out.mono ?_
  rintro e w2 ⟨rfl, hb2⟩
  have HB2 := hide (HB1.out.trans (hb2.mono HB1.out.size))
  have HG2 := hide (HG.out.below hb2 HG.out.lt)
  have K22 := Bd.new w2 0 0 0
  have HD2 := hide (HD.out.mono hb2)
  clear hb2 G1 HBO
  go_upto_region 2 with (refine wpList_store_bd rfl (.tmp 6) (.tmp 12) rfl w2.heap.size rfl rfl K22 ?_; intro w3 V3 kk3)
  have B23 : Below w2.heap.size w2 w3 := (((Keeps.refl (fun k => k = w2.heap.size) w2).alloc _).trans kk3).below (Nat.le_refl _) (fun k hk e => by omega)
  have HB3 := hide (HB2.out.trans (B23.mono HB2.out.size))
  have HG3 := hide (HG2.out.below B23 HG2.out.lt)
  have HD3 := hide (HD2.out.mono B23)
  clear kk3 B23 K22 HB2 HD2 HG2
  go_wp2_with fail
  go_ret2
  exact ⟨rfl, HB3.out⟩

set_option maxRecDepth 100000 in
set_option maxHeartbeats 2000000 in
theorem Next_who (gW gH : Nat) (a : Option Addr) (n c : Nat) (zs : List Int) (who : Int) (w : World) (hT : DTab w) (h : Rd w a n c zs) (b : Og gW gH n zs) (hn1 : who ≠ 1) (hn2 : who ≠ 2) :
    Calls Tryd.prog 12 #[.agg (gdA gW gH a n c), .int .i64 who] w fun e w' => e = .returned (.tuple #[.int .i64 0, .int .i64 4]) ∧ Below w.heap.size w w' := by
  obtain ⟨w1, hw1⟩ : ∃ w1, w.alloc (.cells (gdA gW gH a n c) 24) = w1 := ⟨_, rfl⟩
  have HB1 : Hid (Below w.heap.size w w1) := hide (by rw [← hw1]; exact (Below.refl _ _).alloc (Nat.le_refl _) _)
  have G1 : Gd w1 w.heap.size gW gH a n c := by rw [← hw1]; exact Gd.new _ _ _ _ _ _
  have HG := hide G1
  have HD := hide (hT.mono HB1.out)
  have HBO := hide (boardOf_who gW gH a n c zs who w1 (h.mono HB1.out) b hn1 hn2)
  clear h b hT hn1 hn2
  go_enter Tryd.func12, Tryd.ntmps12
  go_upto_region 1 with fail
  clear hw1
  go_wp2_with (refine wpList_load_gd rfl (.tmp 2) rfl w.heap.size rfl G1 ?_)
  refine HBO.out.mono ?_
  rintro e w2 ⟨rfl, hb2⟩
  have HB2 := hide (HB1.out.trans (hb2.mono HB1.out.size))
  have HG2 := hide (HG.out.below hb2 HG.out.lt)
  have K22 := Bd.new w2 0 0 0
  have HD2 := hide (HD.out.mono hb2)
  clear hb2 G1 HBO
  go_upto_region 2 with (refine wpList_store_bd rfl (.tmp 6) (.tmp 12) rfl w2.heap.size rfl rfl K22 ?_; intro w3 V3 kk3)
  have B23 : Below w2.heap.size w2 w3 := (((Keeps.refl (fun k => k = w2.heap.size) w2).alloc _).trans kk3).below (Nat.le_refl _) (fun k hk e => by omega)
  have HB3 := hide (HB2.out.trans (B23.mono HB2.out.size))
  have HG3 := hide (HG2.out.below B23 HG2.out.lt)
  have HD3 := hide (HD2.out.mono B23)
  clear kk3 B23 K22 HB2 HD2 HG2
  go_wp2_with fail
  go_ret2
  exact ⟨rfl, HB3.out⟩

/-- Who moves next. -/
def nxt (W H : Nat) (Z : List Int) (m : Nat) : Nat := if sps W H Z (3 - m) ≠ [] then 3 - m else if sps W H Z m ≠ [] then m else 0

set_option maxRecDepth 100000 in
set_option maxHeartbeats 4000000 in
theorem Next_yes (gW gH : Nat) (a : Option Addr) (n c : Nat) (zs : List Int) (m : Nat) (w : World) (hT : DTab w) (h : Rd w a n c zs) (b : Og gW gH n zs) (hm : m = 1 ∨ m = 2) :
    Calls Tryd.prog 12 #[.agg (gdA gW gH a n c), .int .i64 (m : Nat)] w fun e w' => e = .returned (.tuple #[.int .i64 (nxt gW gH zs m : Nat), .int .i64 0]) ∧ Below w.heap.size w w' := by
  obtain ⟨w1, hw1⟩ : ∃ w1, w.alloc (.cells (gdA gW gH a n c) 24) = w1 := ⟨_, rfl⟩
  have HB1 : Hid (Below w.heap.size w w1) := hide (by rw [← hw1]; exact (Below.refl _ _).alloc (Nat.le_refl _) _)
  have G1 : Gd w1 w.heap.size gW gH a n c := by rw [← hw1]; exact Gd.new _ _ _ _ _ _
  have HG := hide G1
  have HD := hide (hT.mono HB1.out)
  have HBO := hide (boardOf_yes gW gH a n c zs m w1 (h.mono HB1.out) b hm)
  have hm' : 3 - m = 1 ∨ 3 - m = 2 := by omega
  have hmm : 3 - (3 - m) = m := by omega
  have HM1 := hide (fun W1 h1 => moves_any (Z := zs) b.w1 b.ht.2 hm W1 h1)
  have HM2 := hide (fun W1 h1 => moves_any (Z := zs) (m := 3 - m) b.w1 b.ht.2 hm' W1 h1)
  have HPS := hide (fun W1 => passed_any (W := gW) (H := gH) (Z := zs) hm W1)
  have HZ1 := hide (mvS_zero b.w1 b.ht.2 zs m)
  have HZ2 := hide (mvS_zero b.w1 b.ht.2 zs (3 - m))
  have HOT := hide (fun W1 => theOther_any m (by omega) W1)
  obtain ⟨R, hR⟩ : ∃ R, nxt gW gH zs m = R := ⟨_, rfl⟩
  have HR1 : Hid (sps gW gH zs (3 - m) ≠ [] → R = 3 - m) := hide (fun e => by rw [← hR, nxt, if_pos e])
  have HR2 : Hid (sps gW gH zs (3 - m) = [] → sps gW gH zs m ≠ [] → R = m) := hide (fun e e2 => by rw [← hR, nxt, if_neg (by simp [e]), if_pos e2])
  have HR3 : Hid (sps gW gH zs (3 - m) = [] → sps gW gH zs m = [] → R = 0) := hide (fun e e2 => by rw [← hR, nxt, if_neg (by simp [e]), if_neg (by simp [e2])])
  rw [hR]
  dsimp only [brd] at HM1 HM2 HPS
  rw [hmm] at HM2 HPS
  clear h b hT hm hm' hmm hR
  dsimp only [brd] at HBO
  generalize so gW gH zs m = o at *
  generalize so gW gH zs (3 - m) = t at *
  generalize so gW gH zs 0 = e at *
  go_enter Tryd.func12, Tryd.ntmps12
  go_upto_region 1 with fail
  clear hw1
  go_wp2_with (refine wpList_load_gd rfl (.tmp 2) rfl w.heap.size rfl G1 ?_)
  refine HBO.out.mono ?_
  rintro e w2 ⟨rfl, hb2⟩
  have HB2 := hide (HB1.out.trans (hb2.mono HB1.out.size))
  have HG2 := hide (HG.out.below hb2 HG.out.lt)
  have K22 := Bd.new w2 0 0 0
  have HD2 := hide (HD.out.mono hb2)
  clear hb2 G1 HBO
  go_upto_region 2 with (refine wpList_store_bd rfl (.tmp 6) (.tmp 12) rfl w2.heap.size rfl rfl K22 ?_; intro w3 V3 kk3)
  have B23 : Below w2.heap.size w2 w3 := (((Keeps.refl (fun k => k = w2.heap.size) w2).alloc _).trans kk3).below (Nat.le_refl _) (fun k hk e => by omega)
  have HB3 := hide (HB2.out.trans (B23.mono HB2.out.size))
  have HG3 := hide (HG2.out.below B23 HG2.out.lt)
  have HD3 := hide (HD2.out.mono B23)
  clear kk3 B23 K22 HB2 HD2 HG2
  have HP3 := hide (HPS.out w3)
  go_wp2_with (refine wpList_load_bd rfl (.tmp 6) rfl w2.heap.size rfl V3 ?_)
  refine HP3.out.mono ?_
  rintro r w4 ⟨rfl, hb4⟩
  have HB4 := hide (HB3.out.trans (hb4.mono HB3.out.size))
  have HD4 := hide (HD3.out.mono hb4)
  have V4 := V3.below hb4 V3.lt
  have HC4 := hide (HM2.out w4 HD4.out)
  clear hb4 V3 HP3 HPS HM2
  go_wp2_with fail
  refine HC4.out.mono ?_
  rintro r w5 ⟨rfl, hb5⟩
  have HB5 := hide (HB4.out.trans (hb5.mono HB4.out.size))
  have HD5 := hide (HD4.out.mono hb5)
  have V5 := V4.below hb5 V4.lt
  clear hb5 V4 HC4
  by_cases hs2 : sps gW gH zs (3 - m) = []
  · have hz2 := HZ2.out.2 hs2
    rw [hz2]
    have hzz : (((0 : Nat) : Int) != 0) = false := by rfl
    have HC5 := hide (HM1.out w5 HD5.out)
    go_wp2_with (refine wpList_load_bd rfl (.tmp 6) rfl w2.heap.size rfl V5 ?_)
    refine HC5.out.mono ?_
    rintro r w6 ⟨rfl, hb6⟩
    have HB6 := hide (HB5.out.trans (hb6.mono HB5.out.size))
    clear hb6 HC5 hzz
    by_cases hs1 : sps gW gH zs m = []
    · have hz1 := HZ1.out.2 hs1
      rw [hz1]
      have hzz : (((0 : Nat) : Int) != 0) = false := by rfl
      obtain rfl := HR3.out hs2 hs1
      go_wp2_with fail
      go_ret2
      exact ⟨rfl, HB6.out⟩
    · have hz1 : mvS gW gH zs m ≠ 0 := fun e => hs1 (HZ1.out.1 e)
      obtain ⟨MV, hMV⟩ : ∃ MV, mvS gW gH zs m = MV := ⟨_, rfl⟩
      rw [hMV] at hz1 ⊢
      have hzz : ((MV : Int) != 0) = true := u64_ne hz1
      have HE := hide (HR2.out hs2 hs1)
      clear hz1 hMV hs1 hs2
      go_wp2_with fail
      go_ret2
      exact ⟨by rw [HE.out]; rfl, HB6.out⟩
  · have hz2 : mvS gW gH zs (3 - m) ≠ 0 := fun e => hs2 (HZ2.out.1 e)
    obtain ⟨MV, hMV⟩ : ∃ MV, mvS gW gH zs (3 - m) = MV := ⟨_, rfl⟩
    rw [hMV] at hz2 ⊢
    have hzz : ((MV : Int) != 0) = true := u64_ne hz2
    have HE := hide (HR1.out hs2)
    clear hz2 hMV hs2
    go_wp2_with fail
    refine (HOT.out _).mono ?_
    rintro r wx ⟨rfl, hwx⟩
    subst wx
    go_wp2_with fail
    go_ret2
    exact ⟨by rw [HE.out]; rfl, HB5.out⟩

end Go.Proofs.YtkmghlmniahgbaaDoor
