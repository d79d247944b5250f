/-
  othello.Count, and the statement on it. No conditions beyond those that each theorem bears.
-/
import Derived.Test.YtkmghlmniahgbaaDoorOc
namespace Go.Proofs.YtkmghlmniahgbaaDoor
open Go.RowKit

set_option maxRecDepth 100000 in
set_option maxHeartbeats 2000000 in
theorem Count_state (W H : Int) (a : Option Addr) (n c : Nat) (zs : List Int) (who plies : Int) (w : World) (hT : DTab w) (h : Rd w a n c zs) (hno : oMay W H zs = false) :
    Calls Tryd.prog 21 #[.agg (gdA W H a n c), .int .i64 who, .int .i64 plies] w fun e w' => e = .returned (.tuple #[.int .i64 0, .int .i64 12]) ∧ Below w.heap.size w w' := by
  obtain ⟨w1, hw1⟩ : ∃ w1, w.alloc (.cells (gdA W H a n c) 24) = w1 := ⟨_, rfl⟩
  have HB1 : Hid (Below w.heap.size w w1) := hide (by rw [← hw1]; exact (Below.refl _ _).alloc (Nat.le_refl _) _)
  have G1 : Gd w1 w.heap.size W H a n c := by rw [← hw1]; exact Gd.new _ _ _ _ _ _
  have HD := hide hT
  have HBO := hide (boardOf_state W H a n c zs who w1 (h.mono HB1.out) hno)
  clear h hno hT
  go_enter Tryd.func21, Tryd.ntmps21
  go_upto_region 1 with fail
  clear hw1
  go_wp2_with (refine wpList_load_gd rfl (.tmp 3) rfl w.heap.size rfl G1 ?_)
  refine HBO.out.mono ?_
  rintro e w2 ⟨rfl, hb2⟩
  have HB2 := hide (HB1.out.trans (hb2.mono HB1.out.size))
  have K22 := Bd.new w2 0 0 0
  have HD2 := hide (HD.out.mono HB2.out)
  clear hb2 G1 HBO
  go_upto_region 2 with (refine wpList_store_bd rfl (.tmp 8) (.tmp 14) rfl w2.heap.size rfl rfl K22 ?_; intro w3 V3 kk3)
  have B23 : Below w2.heap.size w2 w3 := (((Keeps.refl (fun k => k = w2.heap.size) w2).alloc _).trans kk3).below (Nat.le_refl _) (fun k hk e => by omega)
  have HB3 := hide (HB2.out.trans (B23.mono HB2.out.size))
  have HD3 := hide (HD2.out.mono B23)
  clear kk3 B23 K22 HB2 HD2
  go_wp2_with fail
  go_ret2
  exact ⟨rfl, HB3.out⟩

set_option maxRecDepth 100000 in
set_option maxHeartbeats 2000000 in
theorem Count_who (gW gH : Nat) (a : Option Addr) (n c : Nat) (zs : List Int) (who plies : Int) (w : World) (hT : DTab w) (h : Rd w a n c zs) (b : Og gW gH n zs) (hn1 : who ≠ 1) (hn2 : who ≠ 2) :
    Calls Tryd.prog 21 #[.agg (gdA gW gH a n c), .int .i64 who, .int .i64 plies] w fun e w' => e = .returned (.tuple #[.int .i64 0, .int .i64 4]) ∧ Below w.heap.size w w' := by
  obtain ⟨w1, hw1⟩ : ∃ w1, w.alloc (.cells (gdA gW gH a n c) 24) = w1 := ⟨_, rfl⟩
  have HB1 : Hid (Below w.heap.size w w1) := hide (by rw [← hw1]; exact (Below.refl _ _).alloc (Nat.le_refl _) _)
  have G1 : Gd w1 w.heap.size gW gH a n c := by rw [← hw1]; exact Gd.new _ _ _ _ _ _
  have HD := hide hT
  have HBO := hide (boardOf_who gW gH a n c zs who w1 (h.mono HB1.out) b hn1 hn2)
  clear h b hT hn1 hn2
  go_enter Tryd.func21, Tryd.ntmps21
  go_upto_region 1 with fail
  clear hw1
  go_wp2_with (refine wpList_load_gd rfl (.tmp 3) rfl w.heap.size rfl G1 ?_)
  refine HBO.out.mono ?_
  rintro e w2 ⟨rfl, hb2⟩
  have HB2 := hide (HB1.out.trans (hb2.mono HB1.out.size))
  have K22 := Bd.new w2 0 0 0
  have HD2 := hide (HD.out.mono HB2.out)
  clear hb2 G1 HBO
  go_upto_region 2 with (refine wpList_store_bd rfl (.tmp 8) (.tmp 14) rfl w2.heap.size rfl rfl K22 ?_; intro w3 V3 kk3)
  have B23 : Below w2.heap.size w2 w3 := (((Keeps.refl (fun k => k = w2.heap.size) w2).alloc _).trans kk3).below (Nat.le_refl _) (fun k hk e => by omega)
  have HB3 := hide (HB2.out.trans (B23.mono HB2.out.size))
  have HD3 := hide (HD2.out.mono B23)
  clear kk3 B23 K22 HB2 HD2
  go_wp2_with fail
  go_ret2
  exact ⟨rfl, HB3.out⟩

set_option maxRecDepth 100000 in
set_option maxHeartbeats 2000000 in
theorem Count_range (gW gH : Nat) (a : Option Addr) (n c : Nat) (zs : List Int) (m : Nat) (plies : Int) (w : World) (hT : DTab w) (h : Rd w a n c zs) (b : Og gW gH n zs) (hm : m = 1 ∨ m = 2) (hp : plies < 0 ∨ 6 < plies) :
    Calls Tryd.prog 21 #[.agg (gdA gW gH a n c), .int .i64 (m : Nat), .int .i64 plies] w fun e w' => e = .returned (.tuple #[.int .i64 0, .int .i64 3]) ∧ Below w.heap.size w w' := by
  obtain ⟨w1, hw1⟩ : ∃ w1, w.alloc (.cells (gdA gW gH a n c) 24) = w1 := ⟨_, rfl⟩
  have HB1 : Hid (Below w.heap.size w w1) := hide (by rw [← hw1]; exact (Below.refl _ _).alloc (Nat.le_refl _) _)
  have G1 : Gd w1 w.heap.size gW gH a n c := by rw [← hw1]; exact Gd.new _ _ _ _ _ _
  have HD := hide hT
  have HBO := hide (boardOf_yes gW gH a n c zs m w1 (h.mono HB1.out) b hm)
  clear h b hT hm
  dsimp only [brd] at HBO
  generalize so gW gH zs m = o at *
  generalize so gW gH zs (3 - m) = t at *
  generalize so gW gH zs 0 = e at *
  by_cases h1 : plies < 0
  · clear hp
    go_enter Tryd.func21, Tryd.ntmps21
    go_upto_region 1 with fail
    clear hw1
    go_wp2_with (refine wpList_load_gd rfl (.tmp 3) rfl w.heap.size rfl G1 ?_)
    refine HBO.out.mono ?_
    rintro e w2 ⟨rfl, hb2⟩
    have HB2 := hide (HB1.out.trans (hb2.mono HB1.out.size))
    have K22 := Bd.new w2 0 0 0
    have HD2 := hide (HD.out.mono HB2.out)
    clear hb2 G1 HBO
    go_upto_region 2 with (refine wpList_store_bd rfl (.tmp 8) (.tmp 14) rfl w2.heap.size rfl rfl K22 ?_; intro w3 V3 kk3)
    have B23 : Below w2.heap.size w2 w3 := (((Keeps.refl (fun k => k = w2.heap.size) w2).alloc _).trans kk3).below (Nat.le_refl _) (fun k hk e => by omega)
    have HB3 := hide (HB2.out.trans (B23.mono HB2.out.size))
    have HD3 := hide (HD2.out.mono B23)
    clear kk3 B23 K22 HB2 HD2
    go_wp2_with fail
    go_ret2
    exact ⟨rfl, HB3.out⟩
  · have h2 : plies > 6 := by omega
    clear hp
    go_enter Tryd.func21, Tryd.ntmps21
    go_upto_region 1 with fail
    clear hw1
    go_wp2_with (refine wpList_load_gd rfl (.tmp 3) rfl w.heap.size rfl G1 ?_)
    refine HBO.out.mono ?_
    rintro e w2 ⟨rfl, hb2⟩
    have HB2 := hide (HB1.out.trans (hb2.mono HB1.out.size))
    have K22 := Bd.new w2 0 0 0
    have HD2 := hide (HD.out.mono HB2.out)
    clear hb2 G1 HBO
    go_upto_region 2 with (refine wpList_store_bd rfl (.tmp 8) (.tmp 14) rfl w2.heap.size rfl rfl K22 ?_; intro w3 V3 kk3)
    have B23 : Below w2.heap.size w2 w3 := (((Keeps.refl (fun k => k = w2.heap.size) w2).alloc _).trans kk3).below (Nat.le_refl _) (fun k hk e => by omega)
    have HB3 := hide (HB2.out.trans (B23.mono HB2.out.size))
    have HD3 := hide (HD2.out.mono B23)
    clear kk3 B23 K22 HB2 HD2
    go_wp2_with fail
    go_ret2
    exact ⟨rfl, HB3.out⟩

set_option maxRecDepth 100000 in
set_option maxHeartbeats 2000000 in
theorem Count_yes (gW gH : Nat) (a : Option Addr) (n c : Nat) (zs : List Int) (m l : Nat) (w : World) (hT : DTab w) (h : Rd w a n c zs) (b : Og gW gH n zs) (hm : m = 1 ∨ m = 2) (hl : l ≤ 6) :
    Calls Tryd.prog 21 #[.agg (gdA gW gH a n c), .int .i64 (m : Nat), .int .i64 (l : Nat)] w fun e w' => e = .returned (.tuple #[.int .i64 (oc gW gH l zs m : Nat), .int .i64 0]) ∧ Below w.heap.size w w' := by
  obtain ⟨w1, hw1⟩ : ∃ w1, w.alloc (.cells (gdA gW gH a n c) 24) = w1 := ⟨_, rfl⟩
  have HB1 : Hid (Below w.heap.size w w1) := hide (by rw [← hw1]; exact (Below.refl _ _).alloc (Nat.le_refl _) _)
  have G1 : Gd w1 w.heap.size gW gH a n c := by rw [← hw1]; exact Gd.new _ _ _ _ _ _
  have HD := hide hT
  have HBO := hide (boardOf_yes gW gH a n c zs m w1 (h.mono HB1.out) b hm)
  have HCT := hide (fun W1 h1 => ct_all gW gH b.w1 b.ht.2 l hl zs m W1 hm h1)
  clear h b hT hm
  dsimp only [brd] at HBO HCT
  generalize so gW gH zs m = o at *
  generalize so gW gH zs (3 - m) = t at *
  generalize so gW gH zs 0 = e at *
  generalize oc gW gH l zs m = R at *
  have h1 : ¬ (l : Int) < 0 := by omega
  have h2 : ¬ (l : Int) > 6 := by omega
  go_enter Tryd.func21, Tryd.ntmps21
  go_upto_region 1 with fail
  clear hw1
  go_wp2_with (refine wpList_load_gd rfl (.tmp 3) rfl w.heap.size rfl G1 ?_)
  refine HBO.out.mono ?_
  rintro e w2 ⟨rfl, hb2⟩
  have HB2 := hide (HB1.out.trans (hb2.mono HB1.out.size))
  have K22 := Bd.new w2 0 0 0
  have HD2 := hide (HD.out.mono HB2.out)
  clear hb2 G1 HBO
  go_upto_region 2 with (refine wpList_store_bd rfl (.tmp 8) (.tmp 14) rfl w2.heap.size rfl rfl K22 ?_; intro w3 V3 kk3)
  have B23 : Below w2.heap.size w2 w3 := (((Keeps.refl (fun k => k = w2.heap.size) w2).alloc _).trans kk3).below (Nat.le_refl _) (fun k hk e => by omega)
  have HB3 := hide (HB2.out.trans (B23.mono HB2.out.size))
  have HD3 := hide (HD2.out.mono B23)
  clear kk3 B23 K22 HB2 HD2
  have HC := hide (HCT.out w3 HD3.out)
  clear HCT
  go_wp2_with (refine wpList_load_bd rfl (.tmp 8) rfl w2.heap.size rfl V3 ?_)
  refine HC.out.mono ?_
  rintro r w4 ⟨rfl, hb4⟩
  have HB4 := hide (HB3.out.trans (hb4.mono HB3.out.size))
  clear hb4 HC V3
  go_wp2_with fail
  go_ret2
  exact ⟨rfl, HB4.out⟩

/-- Count's two answers, whatever it is asked. -/
theorem Count_any (W H : Int) (a : Option Addr) (n c : Nat) (zs : List Int) (who plies : Int) (w : World) (hT : DTab w) (h : Rd w a n c zs) (R E : Int)
    (hE : (oMay W H zs = false ∧ R = 0 ∧ E = 12) ∨ (oMay W H zs = true ∧ who ≠ 1 ∧ who ≠ 2 ∧ R = 0 ∧ E = 4) ∨ (oMay W H zs = true ∧ (who = 1 ∨ who = 2) ∧ (plies < 0 ∨ 6 < plies) ∧ R = 0 ∧ E = 3) ∨ (∃ gW gH m l : Nat, W = gW ∧ H = gH ∧ Og gW gH n zs ∧ (m = 1 ∨ m = 2) ∧ who = m ∧ plies = l ∧ l ≤ 6 ∧ R = (oc gW gH l zs m : Nat) ∧ E = 0)) :
    Calls Tryd.prog 21 #[.agg (gdA W H a n c), .int .i64 who, .int .i64 plies] w fun e w' => e = .returned (.tuple #[.int .i64 R, .int .i64 E]) ∧ Below w.heap.size w w' := by
  rcases hE with ⟨h1, rfl, rfl⟩ | ⟨h1, h2, h3, rfl, rfl⟩ | ⟨h1, h2, h3, rfl, rfl⟩ | ⟨gW, gH, m, l, rfl, rfl, b, hm, rfl, rfl, hl, rfl, rfl⟩
  · exact Count_state W H a n c zs who plies w hT h h1
  · obtain ⟨gW, gH, rfl, rfl, b⟩ := og_of h.len h1
    exact Count_who gW gH a n c zs who plies w hT h b h2 h3
  · obtain ⟨gW, gH, rfl, rfl, b⟩ := og_of h.len h1
    obtain ⟨m, rfl⟩ := Int.eq_ofNat_of_zero_le (show 0 ≤ who by omega)
    exact Count_range gW gH a n c zs m plies w hT h b (by omega) h3
  · exact Count_yes gW gH a n c zs m l w hT h b hm hl

set_option maxRecDepth 100000 in
set_option maxHeartbeats 4000000 in
theorem counts_any (W H : Int) (a : Option Addr) (n c : Nat) (zs : List Int) (who plies : Int) (w : World) (hT : DTab w) (h : Rd w a n c zs) (hr : n * 8 ≤ 140737488351232) (hw : -9223372036854775808 ≤ who ∧ who ≤ 9223372036854775807) (hp : -9223372036854775808 ≤ plies ∧ plies ≤ 9223372036854775807) :
    Calls Tryd.prog 4 #[.agg (gdA W H a n c), .int .i64 who, .int .i64 plies] w fun e w' => e = .returned (.bool true) ∧ Below w.heap.size w w' := by
  have hlen := h.len
  obtain ⟨w1, hw1⟩ : ∃ w1, w.alloc (.cells (gdA W H a n c) 24) = w1 := ⟨_, rfl⟩
  have HB1 : Hid (Below w.heap.size w w1) := hide (by rw [← hw1]; exact (Below.refl _ _).alloc (Nat.le_refl _) _)
  have G1 : Gd w1 w.heap.size W H a n c := by rw [← hw1]; exact Gd.new _ _ _ _ _ _
  have HGO := hide (GridOf_own W H a n c zs w1 (h.mono HB1.out) hr)
  have HD := hide (hT.mono HB1.out)
  have HMY := hide (fun W1 (hR : Rd W1 a n c zs) => OthelloMay_any W H a n c zs W1 hR)
  have HR := hide (h.mono HB1.out)
  have HCA := hide (fun R E (a' : Option Addr) (c' : Nat) W1 (hT : DTab W1) (hR : Rd W1 a' n c' zs) hE => Count_any W H a' n c' zs who plies W1 hT hR R E hE)
  have hcase : ((oMay W H zs = false) ∨ (oMay W H zs = true ∧ who ≠ 1 ∧ who ≠ 2) ∨ (oMay W H zs = true ∧ (who = 1 ∨ who = 2) ∧ (plies < 0 ∨ 6 < plies)) ∨ (oMay W H zs = true ∧ (who = 1 ∨ who = 2) ∧ ¬ (plies < 0 ∨ 6 < plies))) := by
    cases oMay W H zs
    · exact Or.inl rfl
    · by_cases h1 : who = 1 ∨ who = 2
      · by_cases h2 : plies < 0 ∨ 6 < plies
        · exact Or.inr (Or.inr (Or.inl ⟨rfl, h1, h2⟩))
        · exact Or.inr (Or.inr (Or.inr ⟨rfl, h1, h2⟩))
      · exact Or.inr (Or.inl ⟨rfl, fun e => h1 (Or.inl e), fun e => h1 (Or.inr e)⟩)
  clear h hT hr
  rcases hcase with h1 | ⟨h1, h2, h3⟩ | ⟨h1, h2, h3⟩ | ⟨h1, h2, h3⟩
  · have HC1 := hide (fun a' c' W1 hT hR => HCA.out (0) (12) a' c' W1 hT hR (Or.inl ⟨h1, rfl, rfl⟩))
    clear HCA
    go_enter Tryd.func4, Tryd.ntmps4
    go_upto_region 1 with fail
    clear hw1
    go_wp2_with (refine wpList_load_gd rfl (.tmp 3) rfl w.heap.size rfl G1 ?_)
    refine HGO.out.mono ?_
    rintro e w2 ⟨a', c', rfl, hO, hb2⟩
    have HB2 := hide (HB1.out.trans (hb2.mono HB1.out.size))
    have G2 := G1.below hb2 G1.lt
    have HR2 := hide (HR.out.mono hb2)
    have HC2 := hide (HC1.out a' c' w2 (HD.out.mono hb2) (Rd.of_own hO))
    clear hO hb2 G1 HGO HC1 HR
    go_wp2_with fail
    refine HC2.out.mono ?_
    rintro e w3 ⟨rfl, hb3⟩
    have HB3 := hide (HB2.out.trans (hb3.mono HB2.out.size))
    have G3 := G2.below hb3 G2.lt
    have HR3 := hide (HR2.out.mono hb3)
    have HM3 := hide (HMY.out w3 HR3.out)
    rw [h1] at HM3
    clear hb3 G2 HC2 HR2
    go_wp2_with (refine wpList_load_gd rfl (.tmp 3) rfl w.heap.size rfl G3 ?_)
    refine HM3.out.mono ?_
    rintro e w4 ⟨rfl, hb4⟩
    have HB4 := hide (HB3.out.trans (hb4.mono HB3.out.size))
    have G4 := G3.below hb4 G3.lt
    have HR4 := hide (HR3.out.mono hb4)
    clear hb4 G3 HM3 HR3
    go_wp2_with fail
    go_ret
    exact ⟨rfl, HB4.out⟩
  · have HC1 := hide (fun a' c' W1 hT hR => HCA.out (0) (4) a' c' W1 hT hR (Or.inr (Or.inl ⟨h1, h2, h3, rfl, rfl⟩)))
    have b1 : (who != (1 : Int)) = true := by simpa using h2
    have b2 : (who != (2 : Int)) = true := by simpa using h3
    clear h2 h3
    clear HCA
    go_enter Tryd.func4, Tryd.ntmps4
    go_upto_region 1 with fail
    clear hw1
    go_wp2_with (refine wpList_load_gd rfl (.tmp 3) rfl w.heap.size rfl G1 ?_)
    refine HGO.out.mono ?_
    rintro e w2 ⟨a', c', rfl, hO, hb2⟩
    have HB2 := hide (HB1.out.trans (hb2.mono HB1.out.size))
    have G2 := G1.below hb2 G1.lt
    have HR2 := hide (HR.out.mono hb2)
    have HC2 := hide (HC1.out a' c' w2 (HD.out.mono hb2) (Rd.of_own hO))
    clear hO hb2 G1 HGO HC1 HR
    go_wp2_with fail
    refine HC2.out.mono ?_
    rintro e w3 ⟨rfl, hb3⟩
    have HB3 := hide (HB2.out.trans (hb3.mono HB2.out.size))
    have G3 := G2.below hb3 G2.lt
    have HR3 := hide (HR2.out.mono hb3)
    have HM3 := hide (HMY.out w3 HR3.out)
    rw [h1] at HM3
    clear hb3 G2 HC2 HR2
    go_wp2_with (refine wpList_load_gd rfl (.tmp 3) rfl w.heap.size rfl G3 ?_)
    refine HM3.out.mono ?_
    rintro e w4 ⟨rfl, hb4⟩
    have HB4 := hide (HB3.out.trans (hb4.mono HB3.out.size))
    have G4 := G3.below hb4 G3.lt
    have HR4 := hide (HR3.out.mono hb4)
    clear hb4 G3 HM3 HR3
    go_wp2_with fail
    go_ret
    exact ⟨rfl, HB4.out⟩
  · have HC1 := hide (fun a' c' W1 hT hR => HCA.out (0) (3) a' c' W1 hT hR (Or.inr (Or.inr (Or.inl ⟨h1, h2, h3, rfl, rfl⟩))))
    have hgo : ((who != (1 : Int)) = false) ∨ ((who != (1 : Int)) = true ∧ (who != (2 : Int)) = false) := by
      rcases h2 with rfl | rfl
      · exact Or.inl rfl
      · exact Or.inr ⟨rfl, rfl⟩
    have hgp : plies < 0 ∨ (¬ plies < 0 ∧ plies > 6) := by omega
    clear h2 h3
    clear HCA
    go_enter Tryd.func4, Tryd.ntmps4
    go_upto_region 1 with fail
    clear hw1
    go_wp2_with (refine wpList_load_gd rfl (.tmp 3) rfl w.heap.size rfl G1 ?_)
    refine HGO.out.mono ?_
    rintro e w2 ⟨a', c', rfl, hO, hb2⟩
    have HB2 := hide (HB1.out.trans (hb2.mono HB1.out.size))
    have G2 := G1.below hb2 G1.lt
    have HR2 := hide (HR.out.mono hb2)
    have HC2 := hide (HC1.out a' c' w2 (HD.out.mono hb2) (Rd.of_own hO))
    clear hO hb2 G1 HGO HC1 HR
    go_wp2_with fail
    refine HC2.out.mono ?_
    rintro e w3 ⟨rfl, hb3⟩
    have HB3 := hide (HB2.out.trans (hb3.mono HB2.out.size))
    have G3 := G2.below hb3 G2.lt
    have HR3 := hide (HR2.out.mono hb3)
    have HM3 := hide (HMY.out w3 HR3.out)
    rw [h1] at HM3
    clear hb3 G2 HC2 HR2
    go_wp2_with (refine wpList_load_gd rfl (.tmp 3) rfl w.heap.size rfl G3 ?_)
    refine HM3.out.mono ?_
    rintro e w4 ⟨rfl, hb4⟩
    have HB4 := hide (HB3.out.trans (hb4.mono HB3.out.size))
    have G4 := G3.below hb4 G3.lt
    have HR4 := hide (HR3.out.mono hb4)
    clear hb4 G3 HM3 HR3
    rcases hgp with p1 | ⟨p1, p2⟩
    · skip
      rcases hgo with g1 | ⟨g1, g2⟩
      · go_wp2_with fail
        go_ret
        exact ⟨rfl, HB4.out⟩
      · go_wp2_with fail
        go_ret
        exact ⟨rfl, HB4.out⟩
    · skip
      rcases hgo with g1 | ⟨g1, g2⟩
      · go_wp2_with fail
        go_ret
        exact ⟨rfl, HB4.out⟩
      · go_wp2_with fail
        go_ret
        exact ⟨rfl, HB4.out⟩
  · obtain ⟨gW, gH, rfl, rfl, b⟩ := og_of hlen h1
    obtain ⟨m, rfl⟩ := Int.eq_ofNat_of_zero_le (show 0 ≤ who by omega)
    obtain ⟨l, rfl⟩ := Int.eq_ofNat_of_zero_le (show 0 ≤ plies by omega)
    have hl6 : l ≤ 6 := by omega
    have hm : m = 1 ∨ m = 2 := by omega
    have HRC := hide (fun W1 (hR : Rd W1 a n c zs) => rc_all gW gH n l hl6 zs a c m W1 hm hR b)
    have HC1 := hide (fun a' c' W1 hT hR => HCA.out ((oc gW gH l zs m : Nat)) (0) a' c' W1 hT hR (Or.inr (Or.inr (Or.inr ⟨gW, gH, m, l, rfl, rfl, b, hm, rfl, rfl, hl6, rfl, rfl⟩))))
    generalize oc gW gH l zs m = R at *
    have p1 : ¬ (l : Int) < 0 := by omega
    have p2 : ¬ (l : Int) > 6 := by omega
    have hgo : (((m : Int) != (1 : Int)) = false) ∨ (((m : Int) != (1 : Int)) = true ∧ ((m : Int) != (2 : Int)) = false) := by
      rcases hm with rfl | rfl
      · exact Or.inl rfl
      · exact Or.inr ⟨rfl, rfl⟩
    clear h2 h3 hm b
    clear HCA
    go_enter Tryd.func4, Tryd.ntmps4
    go_upto_region 1 with fail
    clear hw1
    go_wp2_with (refine wpList_load_gd rfl (.tmp 3) rfl w.heap.size rfl G1 ?_)
    refine HGO.out.mono ?_
    rintro e w2 ⟨a', c', rfl, hO, hb2⟩
    have HB2 := hide (HB1.out.trans (hb2.mono HB1.out.size))
    have G2 := G1.below hb2 G1.lt
    have HR2 := hide (HR.out.mono hb2)
    have HC2 := hide (HC1.out a' c' w2 (HD.out.mono hb2) (Rd.of_own hO))
    clear hO hb2 G1 HGO HC1 HR
    go_wp2_with fail
    refine HC2.out.mono ?_
    rintro e w3 ⟨rfl, hb3⟩
    have HB3 := hide (HB2.out.trans (hb3.mono HB2.out.size))
    have G3 := G2.below hb3 G2.lt
    have HR3 := hide (HR2.out.mono hb3)
    have HM3 := hide (HMY.out w3 HR3.out)
    rw [h1] at HM3
    clear hb3 G2 HC2 HR2
    go_wp2_with (refine wpList_load_gd rfl (.tmp 3) rfl w.heap.size rfl G3 ?_)
    refine HM3.out.mono ?_
    rintro e w4 ⟨rfl, hb4⟩
    have HB4 := hide (HB3.out.trans (hb4.mono HB3.out.size))
    have G4 := G3.below hb4 G3.lt
    have HR4 := hide (HR3.out.mono hb4)
    clear hb4 G3 HM3 HR3
    have HC5 := hide (HRC.out w4 HR4.out)
    rcases hgo with g1 | ⟨g1, g2⟩
    · go_wp2_with (refine wpList_load_gd rfl (.tmp 3) rfl w.heap.size rfl G4 ?_)
      refine HC5.out.mono ?_
      rintro e w5 ⟨rfl, hb5⟩
      have HB5 := hide (HB4.out.trans (hb5.mono HB4.out.size))
      clear hb5
      go_wp2_with fail
      go_ret
      exact ⟨rfl, HB5.out⟩
    · go_wp2_with (refine wpList_load_gd rfl (.tmp 3) rfl w.heap.size rfl G4 ?_)
      refine HC5.out.mono ?_
      rintro e w5 ⟨rfl, hb5⟩
      have HB5 := hide (HB4.out.trans (hb5.mono HB4.out.size))
      clear hb5
      go_wp2_with fail
      go_ret
      exact ⟨rfl, HB5.out⟩

end Go.Proofs.YtkmghlmniahgbaaDoor
