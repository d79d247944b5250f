/-
  'gameroomlaw.FourDrops' returns true. No conditions beyond those that the theorem bears.
-/
import Derived.Test.YtaglhmkjdajgpaaDoorDp3
import Derived.Test.YtaglhmkjdajgpaaDoorBestsLaw
namespace Go.Proofs.YtaglhmkjdajgpaaDoor
open Go.RowKit

attribute [local irreducible] wmG mvO hng mayP thr inR wnZ fallN

/-- What both answer for a drop. -/
theorem drop_both (gW gH n : Nat) (zs : List Int) (b : Bw gW gH n zs) (k col : Int) : ∃ (Wx Hx : Int) (nx : Nat) (xs : List Int) (E : Int),
    (∀ (a : Option Addr) (c : Nat) (w : World), Tab w → Rd w a n c zs → Calls Tryd.prog 8 #[.agg (gdA gW gH a n c), .int .i64 col, .int .i64 k] w fun e w' => ∃ ax cx, e = .returned (.tuple #[.agg (gdA Wx Hx ax nx cx), .int .i64 E]) ∧ Rd w' ax nx cx xs ∧ Below w.heap.size w w') ∧
    (∀ (a : Option Addr) (c : Nat) (w : World), Rd w a n c zs → Calls Tryd.prog 13 #[.agg (gdA gW gH a n c), .int .i64 col, .int .i64 k] w fun e w' => ∃ ax cx, e = .returned (.tuple #[.agg (gdA Wx Hx ax nx cx), .int .i64 E]) ∧ Rd w' ax nx cx xs ∧ Below w.heap.size w w') := by
  have hno : ∀ E, NoD gW gH zs k col E → ∃ (Wx Hx : Int) (nx : Nat) (xs : List Int) (E : Int),
    (∀ (a : Option Addr) (c : Nat) (w : World), Tab w → Rd w a n c zs → Calls Tryd.prog 8 #[.agg (gdA gW gH a n c), .int .i64 col, .int .i64 k] w fun e w' => ∃ ax cx, e = .returned (.tuple #[.agg (gdA Wx Hx ax nx cx), .int .i64 E]) ∧ Rd w' ax nx cx xs ∧ Below w.heap.size w w') ∧
    (∀ (a : Option Addr) (c : Nat) (w : World), Rd w a n c zs → Calls Tryd.prog 13 #[.agg (gdA gW gH a n c), .int .i64 col, .int .i64 k] w fun e w' => ∃ ax cx, e = .returned (.tuple #[.agg (gdA Wx Hx ax nx cx), .int .i64 E]) ∧ Rd w' ax nx cx xs ∧ Below w.heap.size w w') := fun E hE =>
    ⟨0, 0, 0, [], E, fun a c w hT hR => (Drop_no gW gH a n c zs k col w hT hR b E hE).mono fun e w' ⟨he, hb⟩ => ⟨none, 0, he, Rd.of_nil _, hb⟩, fun a c w hR => (DropOf_no gW gH a n c zs k col w hR b E hE).mono fun e w' ⟨he, hb⟩ => ⟨none, 0, he, Rd.of_nil _, hb⟩⟩
  by_cases hk : 1 ≤ k ∧ k ≤ 10
  rotate_left
  · exact hno 3 (Or.inl ⟨hk, rfl⟩)
  obtain ⟨K, rfl⟩ := Int.eq_ofNat_of_zero_le (show 0 ≤ k by omega)
  have hK : 1 ≤ K ∧ K ≤ 10 := by omega
  by_cases hm : mvO zs = 0
  · exact hno 7 (Or.inr ⟨K, rfl, hK, Or.inl ⟨hm, rfl⟩⟩)
  by_cases hw : 0 < wnZ gW gH K zs
  · exact hno 9 (Or.inr ⟨K, rfl, hK, Or.inr ⟨hm, Or.inl ⟨hw, rfl⟩⟩⟩)
  have hw0 : wnZ gW gH K zs = 0 := by omega
  by_cases hc : 0 ≤ col ∧ col < gW
  rotate_left
  · exact hno 5 (Or.inr ⟨K, rfl, hK, Or.inr ⟨hm, Or.inr ⟨hw0, Or.inl ⟨by omega, rfl⟩⟩⟩⟩)
  obtain ⟨j, rfl⟩ := Int.eq_ofNat_of_zero_le hc.1
  have hj : j < gW := by omega
  cases hf : fallN gW zs j gH with
  | none => exact hno 11 (Or.inr ⟨K, rfl, hK, Or.inr ⟨hm, Or.inr ⟨hw0, Or.inr ⟨j, rfl, hj, hf, rfl⟩⟩⟩⟩)
  | some p =>
    exact ⟨gW, gH, n, zs.set p (mvO zs : Nat), 0, fun a c w hT hR => Drop_yes gW gH a n c zs K j p w hT hR b hK hm hw0 hj hf, fun a c w hR => DropOf_yes gW gH a n c zs K j p w hR b hK hm hw0 hj hf⟩

set_option maxRecDepth 100000 in
set_option maxHeartbeats 4000000 in
theorem drops_law (W H : Int) (a : Option Addr) (n c : Nat) (zs : List Int) (col k who : Int) (w : World) (hT : Tab w) (h : Rd w a n c zs) (hr : n * 8 ≤ 140737488351232) :
    Calls Tryd.prog 3 #[.agg (gdA W H a n c), .int .i64 col, .int .i64 k, .int .i64 who] w fun e w' => e = .returned (.bool true) ∧ Below w.heap.size w w' := by
  have HB0 : Hid (Below w.heap.size w (w.alloc (.cells (gdA W H a n c) 24))) := hide ((Below.refl _ _).alloc (Nat.le_refl _) _)
  have HGO := hide (fun w1 (hb : Below w.heap.size w w1) => GridOf_own W H a n c zs w1 (h.mono hb) hr)
  have HWM := hide (fun w1 (hb : Below w.heap.size w w1) => WellMay_any W H a n c zs w1 (h.mono hb))
  have G0 := Gd.new w W H a n c
  have HG0 := hide G0
  have HT := hide hT
  cases hwm : wmG W H zs with
  | false =>
    have HDS := hide (fun a' c' w1 (hR : Rd w1 a' n c' zs) => Drop_state W H a' n c' zs k col w1 hR hwm)
    have HTS := hide (fun a' c' w1 (hR : Rd w1 a' n c' zs) => Threats_state W H a' n c' zs who k w1 hR hwm)
    rw [hwm] at HWM
    clear h hwm hT HT
    go_enter Tryd.func3, Tryd.ntmps3
    go_wp2_with (refine wpList_load_gd rfl (.tmp 4) rfl w.heap.size rfl G0 ?_)
    refine (HGO.out _ HB0.out).mono ?_
    rintro e w2 ⟨a1, c1, rfl, hO, hb2⟩
    have HB2 := hide (HB0.out.trans (hb2.mono HB0.out.size))
    have HG2 := hide (HG0.out.below hb2 HG0.out.lt)
    have HDR2 := hide (HDS.out a1 c1 w2 (Rd.of_own hO))
    clear hb2 hO G0
    go_wp2_with fail
    refine HDR2.out.mono ?_
    rintro e w3 ⟨rfl, hb3⟩
    have HB3 := hide (HB2.out.trans (hb3.mono HB2.out.size))
    have HG3 := hide (HG2.out.below hb3 HG2.out.lt)
    have h23 := hb3.size
    have hg2 := HG2.out.lt
    clear hb3 HDR2 HG2
    have K22 := Gd.new w3 0 0 none 0 0
    go_upto_region 2 with ((refine wpList_store_gd rfl (.tmp 9) (.tmp 22) rfl w3.heap.size rfl rfl K22 ?_; intro w4 k4 kk4))
    have KA : Keeps (fun k => k = w3.heap.size) w3 w4 := ((Keeps.refl _ w3).alloc _).trans kk4
    have G4 := HG3.out.keeps KA (by omega)
    have HG4 := hide G4
    have HX4 := hide k4
    have HB4 : Hid (Below w.heap.size w w4) := hide (HB3.out.trans ((KA.mono (Y := fun k => w.heap.size ≤ k) (fun k _ e => by have := HB3.out.size; omega)).below (B := w.heap.size) HB3.out.size (fun k hk e => by omega)))
    have HRX : Hid (Rd w4 none 0 0 []) := hide (Rd.of_nil _)
    clear KA kk4 k4 K22 HG3 HB3
    go_wp2_with (refine wpList_load_gd rfl (.tmp 4) rfl w.heap.size rfl G4 ?_)
    clear G4
    refine (HGO.out _ HB4.out).mono ?_
    rintro e w5 ⟨a2, c2, rfl, hO, hb5⟩
    have HB5 := hide (HB4.out.trans (hb5.mono HB4.out.size))
    have HG5 := hide (HG4.out.below hb5 HG4.out.lt)
    have HX5 := hide (HX4.out.below hb5 HX4.out.lt)
    have HRX5 := hide (HRX.out.mono hb5)
    have HTH5 := hide (HTS.out a2 c2 w5 (Rd.of_own hO))
    clear hb5 hO HG4 HX4 HRX HB4 HGO
    go_wp2_with fail
    refine HTH5.out.mono ?_
    rintro e w6 ⟨rfl, hb6⟩
    have HB6 := hide (HB5.out.trans (hb6.mono HB5.out.size))
    have G6 := HG5.out.below hb6 HG5.out.lt
    have HG6 := hide G6
    have HX6 := hide (HX5.out.below hb6 HX5.out.lt)
    have HRX6 := hide (HRX5.out.mono hb6)
    clear hb6 HTH5 HG5 HX5 HRX5 HB5
    go_wp2_with (refine wpList_load_gd rfl (.tmp 4) rfl w.heap.size rfl G6 ?_)
    clear G6
    refine (HWM.out w6 HB6.out).mono ?_
    rintro e w7 ⟨rfl, hb7⟩
    have HB7 := hide (HB6.out.trans (hb7.mono HB6.out.size))
    have G7 := HG6.out.below hb7 HG6.out.lt
    have HG7 := hide G7
    have X7 := HX6.out.below hb7 HX6.out.lt
    have HX7 := hide X7
    have HRX7 := hide (HRX6.out.mono hb7)
    have HRL7 : Hid (True) := hide trivial
    clear hb7 HG6 HX6 HRX6 HB6
    clear G7
    go_wp2_with (refine wpList_load_gd rfl (.tmp 9) rfl w3.heap.size rfl X7 ?_)
    clear X7
    refine (noGrid_zero w7).mono ?_
    rintro e w8 ⟨rfl, hb8⟩
    have HB8 := hide (HB7.out.trans (hb8.mono HB7.out.size))
    clear hb8
    go_wp2_with fail
    go_ret
    exact ⟨by rfl, HB8.out⟩
  | true =>
    rw [hwm] at HWM
    obtain ⟨gW, gH, rfl, rfl, hbw⟩ := wm_bw h hwm
    clear hwm
    obtain ⟨Wx, Hx, nx, xs, E, hd1, hd2⟩ := drop_both gW gH n zs hbw k col
    have HDP := hide (fun a' c' w1 (hT1 : Tab w1) (hR : Rd w1 a' n c' zs) => hd1 a' c' w1 hT1 hR)
    have HDO := hide (fun w1 (hb : Below w.heap.size w w1) => hd2 a c w1 (h.mono hb))
    clear hd1 hd2
    by_cases hk : 1 ≤ k ∧ k ≤ 10
    rotate_left
    · have HTK := hide (fun a' c' w1 (hR : Rd w1 a' n c' zs) => Threats_k gW gH a' n c' zs who k w1 hR hbw hk)
      have hk' : k < 1 ∨ (1 ≤ k ∧ 10 < k) := by omega
      clear h hT hbw hk
      rcases hk' with hk | ⟨hk, hk2⟩
      · skip
        go_enter Tryd.func3, Tryd.ntmps3
        go_wp2_with (refine wpList_load_gd rfl (.tmp 4) rfl w.heap.size rfl G0 ?_)
        refine (HGO.out _ HB0.out).mono ?_
        rintro e w2 ⟨a1, c1, rfl, hO, hb2⟩
        have HB2 := hide (HB0.out.trans (hb2.mono HB0.out.size))
        have HG2 := hide (HG0.out.below hb2 HG0.out.lt)
        have HDR2 := hide (HDP.out a1 c1 w2 (HT.out.mono HB2.out) (Rd.of_own hO))
        clear hb2 hO G0
        go_wp2_with fail
        refine HDR2.out.mono ?_
        rintro e w3 ⟨ax, cx, rfl, hRx, hb3⟩
        have HB3 := hide (HB2.out.trans (hb3.mono HB2.out.size))
        have HG3 := hide (HG2.out.below hb3 HG2.out.lt)
        have h23 := hb3.size
        have hg2 := HG2.out.lt
        clear hb3 HDR2 HG2
        have K22 := Gd.new w3 0 0 none 0 0
        go_upto_region 2 with ((refine wpList_store_gd rfl (.tmp 9) (.tmp 22) rfl w3.heap.size rfl rfl K22 ?_; intro w4 k4 kk4))
        have KA : Keeps (fun k => k = w3.heap.size) w3 w4 := ((Keeps.refl _ w3).alloc _).trans kk4
        have G4 := HG3.out.keeps KA (by omega)
        have HG4 := hide G4
        have HX4 := hide k4
        have HB4 : Hid (Below w.heap.size w w4) := hide (HB3.out.trans ((KA.mono (Y := fun k => w.heap.size ≤ k) (fun k _ e => by have := HB3.out.size; omega)).below (B := w.heap.size) HB3.out.size (fun k hk e => by omega)))
        have HRX := hide (hRx.keepsN KA (fun h0 b off e hb => by rw [e] at hRx; have := hRx.blt h0; omega))
        clear KA kk4 k4 K22 HG3 HB3 hRx
        go_wp2_with (refine wpList_load_gd rfl (.tmp 4) rfl w.heap.size rfl G4 ?_)
        clear G4
        refine (HGO.out _ HB4.out).mono ?_
        rintro e w5 ⟨a2, c2, rfl, hO, hb5⟩
        have HB5 := hide (HB4.out.trans (hb5.mono HB4.out.size))
        have HG5 := hide (HG4.out.below hb5 HG4.out.lt)
        have HX5 := hide (HX4.out.below hb5 HX4.out.lt)
        have HRX5 := hide (HRX.out.mono hb5)
        have HTH5 := hide (HTK.out a2 c2 w5 (Rd.of_own hO))
        clear hb5 hO HG4 HX4 HRX HB4 HGO
        go_wp2_with fail
        refine HTH5.out.mono ?_
        rintro e w6 ⟨rfl, hb6⟩
        have HB6 := hide (HB5.out.trans (hb6.mono HB5.out.size))
        have G6 := HG5.out.below hb6 HG5.out.lt
        have HG6 := hide G6
        have HX6 := hide (HX5.out.below hb6 HX5.out.lt)
        have HRX6 := hide (HRX5.out.mono hb6)
        clear hb6 HTH5 HG5 HX5 HRX5 HB5
        go_wp2_with (refine wpList_load_gd rfl (.tmp 4) rfl w.heap.size rfl G6 ?_)
        clear G6
        refine (HWM.out w6 HB6.out).mono ?_
        rintro e w7 ⟨rfl, hb7⟩
        have HB7 := hide (HB6.out.trans (hb7.mono HB6.out.size))
        have G7 := HG6.out.below hb7 HG6.out.lt
        have HG7 := hide G7
        have X7 := HX6.out.below hb7 HX6.out.lt
        have HX7 := hide X7
        have HRX7 := hide (HRX6.out.mono hb7)
        have HRL7 : Hid (True) := hide trivial
        clear hb7 HG6 HX6 HRX6 HB6
        clear X7
        go_wp2_with (refine wpList_load_gd rfl (.tmp 4) rfl w.heap.size rfl G7 ?_)
        clear G7
        refine (HDO.out w7 HB7.out).mono ?_
        rintro e w8 ⟨ay, cy, rfl, hRy, hb8⟩
        have HB8 := hide (HB7.out.trans (hb8.mono HB7.out.size))
        have HG8 := hide (HG7.out.below hb8 HG7.out.lt)
        have HX8 := hide (HX7.out.below hb8 HX7.out.lt)
        have HRX8 := hide (HRX7.out.mono hb8)
        have HRL8 : Hid (True) := hide trivial
        clear hb8 HG7 HX7 HRX7 HB7 HRL7
        have K33 := Gd.new w8 0 0 none 0 0
        go_upto_region 6 with ((refine wpList_store_gd rfl (.tmp 13) (.tmp 55) rfl w8.heap.size rfl rfl K33 ?_; intro w9 k9 kk9))
        have KB : Keeps (fun k => k = w8.heap.size) w8 w9 := ((Keeps.refl _ w8).alloc _).trans kk9
        have hx8 := HX8.out.lt
        have hg8 := HG8.out.lt
        have X9 := HX8.out.keeps KB (by omega)
        have Y9 := k9
        have HB9 : Hid (Below w.heap.size w w9) := hide (HB8.out.trans ((KB.mono (Y := fun k => w.heap.size ≤ k) (fun k _ e => by have := HB8.out.size; omega)).below (B := w.heap.size) HB8.out.size (fun k hk e => by omega)))
        have R1 := HRX8.out.keepsN KB (fun h0 b off e hb => by have := HRX8.out; rw [e] at this; have := this.blt h0; omega)
        have R2 := hRy.keepsN KB (fun h0 b off e hb => by rw [e] at hRy; have := hRy.blt h0; omega)
        have HSG := hide (SameGrid_yes Wx Hx _ _ nx _ _ xs w9 R1 R2)
        clear R1 R2 hRy KB K33 k9 kk9 HX8 HRX8 HB8 HG8 HRL8
        have hEE : (E != E) = false := by simp
        go_wp2_with (first
          | refine wpList_load_gd rfl (.tmp 9) rfl w3.heap.size rfl X9 ?_
          | refine wpList_load_gd rfl (.tmp 13) rfl w8.heap.size rfl Y9 ?_)
        refine HSG.out.mono ?_
        rintro e w10 ⟨rfl, hb10⟩
        have HB10 := hide (HB9.out.trans (hb10.mono HB9.out.size))
        clear hb10 HSG X9 Y9 HB9
        go_wp2_with fail
        go_ret
        exact ⟨by rfl, HB10.out⟩
      · skip
        go_enter Tryd.func3, Tryd.ntmps3
        go_wp2_with (refine wpList_load_gd rfl (.tmp 4) rfl w.heap.size rfl G0 ?_)
        refine (HGO.out _ HB0.out).mono ?_
        rintro e w2 ⟨a1, c1, rfl, hO, hb2⟩
        have HB2 := hide (HB0.out.trans (hb2.mono HB0.out.size))
        have HG2 := hide (HG0.out.below hb2 HG0.out.lt)
        have HDR2 := hide (HDP.out a1 c1 w2 (HT.out.mono HB2.out) (Rd.of_own hO))
        clear hb2 hO G0
        go_wp2_with fail
        refine HDR2.out.mono ?_
        rintro e w3 ⟨ax, cx, rfl, hRx, hb3⟩
        have HB3 := hide (HB2.out.trans (hb3.mono HB2.out.size))
        have HG3 := hide (HG2.out.below hb3 HG2.out.lt)
        have h23 := hb3.size
        have hg2 := HG2.out.lt
        clear hb3 HDR2 HG2
        have K22 := Gd.new w3 0 0 none 0 0
        go_upto_region 2 with ((refine wpList_store_gd rfl (.tmp 9) (.tmp 22) rfl w3.heap.size rfl rfl K22 ?_; intro w4 k4 kk4))
        have KA : Keeps (fun k => k = w3.heap.size) w3 w4 := ((Keeps.refl _ w3).alloc _).trans kk4
        have G4 := HG3.out.keeps KA (by omega)
        have HG4 := hide G4
        have HX4 := hide k4
        have HB4 : Hid (Below w.heap.size w w4) := hide (HB3.out.trans ((KA.mono (Y := fun k => w.heap.size ≤ k) (fun k _ e => by have := HB3.out.size; omega)).below (B := w.heap.size) HB3.out.size (fun k hk e => by omega)))
        have HRX := hide (hRx.keepsN KA (fun h0 b off e hb => by rw [e] at hRx; have := hRx.blt h0; omega))
        clear KA kk4 k4 K22 HG3 HB3 hRx
        go_wp2_with (refine wpList_load_gd rfl (.tmp 4) rfl w.heap.size rfl G4 ?_)
        clear G4
        refine (HGO.out _ HB4.out).mono ?_
        rintro e w5 ⟨a2, c2, rfl, hO, hb5⟩
        have HB5 := hide (HB4.out.trans (hb5.mono HB4.out.size))
        have HG5 := hide (HG4.out.below hb5 HG4.out.lt)
        have HX5 := hide (HX4.out.below hb5 HX4.out.lt)
        have HRX5 := hide (HRX.out.mono hb5)
        have HTH5 := hide (HTK.out a2 c2 w5 (Rd.of_own hO))
        clear hb5 hO HG4 HX4 HRX HB4 HGO
        go_wp2_with fail
        refine HTH5.out.mono ?_
        rintro e w6 ⟨rfl, hb6⟩
        have HB6 := hide (HB5.out.trans (hb6.mono HB5.out.size))
        have G6 := HG5.out.below hb6 HG5.out.lt
        have HG6 := hide G6
        have HX6 := hide (HX5.out.below hb6 HX5.out.lt)
        have HRX6 := hide (HRX5.out.mono hb6)
        clear hb6 HTH5 HG5 HX5 HRX5 HB5
        go_wp2_with (refine wpList_load_gd rfl (.tmp 4) rfl w.heap.size rfl G6 ?_)
        clear G6
        refine (HWM.out w6 HB6.out).mono ?_
        rintro e w7 ⟨rfl, hb7⟩
        have HB7 := hide (HB6.out.trans (hb7.mono HB6.out.size))
        have G7 := HG6.out.below hb7 HG6.out.lt
        have HG7 := hide G7
        have X7 := HX6.out.below hb7 HX6.out.lt
        have HX7 := hide X7
        have HRX7 := hide (HRX6.out.mono hb7)
        have HRL7 : Hid (True) := hide trivial
        clear hb7 HG6 HX6 HRX6 HB6
        clear X7
        go_wp2_with (refine wpList_load_gd rfl (.tmp 4) rfl w.heap.size rfl G7 ?_)
        clear G7
        refine (HDO.out w7 HB7.out).mono ?_
        rintro e w8 ⟨ay, cy, rfl, hRy, hb8⟩
        have HB8 := hide (HB7.out.trans (hb8.mono HB7.out.size))
        have HG8 := hide (HG7.out.below hb8 HG7.out.lt)
        have HX8 := hide (HX7.out.below hb8 HX7.out.lt)
        have HRX8 := hide (HRX7.out.mono hb8)
        have HRL8 : Hid (True) := hide trivial
        clear hb8 HG7 HX7 HRX7 HB7 HRL7
        have K33 := Gd.new w8 0 0 none 0 0
        go_upto_region 6 with ((refine wpList_store_gd rfl (.tmp 13) (.tmp 55) rfl w8.heap.size rfl rfl K33 ?_; intro w9 k9 kk9))
        have KB : Keeps (fun k => k = w8.heap.size) w8 w9 := ((Keeps.refl _ w8).alloc _).trans kk9
        have hx8 := HX8.out.lt
        have hg8 := HG8.out.lt
        have X9 := HX8.out.keeps KB (by omega)
        have Y9 := k9
        have HB9 : Hid (Below w.heap.size w w9) := hide (HB8.out.trans ((KB.mono (Y := fun k => w.heap.size ≤ k) (fun k _ e => by have := HB8.out.size; omega)).below (B := w.heap.size) HB8.out.size (fun k hk e => by omega)))
        have R1 := HRX8.out.keepsN KB (fun h0 b off e hb => by have := HRX8.out; rw [e] at this; have := this.blt h0; omega)
        have R2 := hRy.keepsN KB (fun h0 b off e hb => by rw [e] at hRy; have := hRy.blt h0; omega)
        have HSG := hide (SameGrid_yes Wx Hx _ _ nx _ _ xs w9 R1 R2)
        clear R1 R2 hRy KB K33 k9 kk9 HX8 HRX8 HB8 HG8 HRL8
        have hEE : (E != E) = false := by simp
        go_wp2_with (first
          | refine wpList_load_gd rfl (.tmp 9) rfl w3.heap.size rfl X9 ?_
          | refine wpList_load_gd rfl (.tmp 13) rfl w8.heap.size rfl Y9 ?_)
        refine HSG.out.mono ?_
        rintro e w10 ⟨rfl, hb10⟩
        have HB10 := hide (HB9.out.trans (hb10.mono HB9.out.size))
        clear hb10 HSG X9 Y9 HB9
        go_wp2_with fail
        go_ret
        exact ⟨by rfl, HB10.out⟩
    obtain ⟨K, rfl⟩ := Int.eq_ofNat_of_zero_le (show 0 ≤ k by omega)
    have hK : 1 ≤ K ∧ K ≤ 10 := by omega
    have k1 : ¬ (K : Int) < 1 := by omega
    have k2 : ¬ (10 : Int) < (K : Int) := by omega
    by_cases hw12 : who = 1 ∨ who = 2
    rotate_left
    · have HTW := hide (fun a' c' w1 (hT1 : Tab w1) (hR : Rd w1 a' n c' zs) => Threats_who gW gH a' n c' K zs who w1 hT1 hR hbw hK (fun e => hw12 (Or.inl e)) (fun e => hw12 (Or.inr e)))
      have b1 : (who != (1 : Int)) = true := by simpa using fun e : who = 1 => hw12 (Or.inl e)
      have b2 : (who != (2 : Int)) = true := by simpa using fun e : who = 2 => hw12 (Or.inr e)
      clear h hT hbw hk hK hw12
      go_enter Tryd.func3, Tryd.ntmps3
      go_wp2_with (refine wpList_load_gd rfl (.tmp 4) rfl w.heap.size rfl G0 ?_)
      refine (HGO.out _ HB0.out).mono ?_
      rintro e w2 ⟨a1, c1, rfl, hO, hb2⟩
      have HB2 := hide (HB0.out.trans (hb2.mono HB0.out.size))
      have HG2 := hide (HG0.out.below hb2 HG0.out.lt)
      have HDR2 := hide (HDP.out a1 c1 w2 (HT.out.mono HB2.out) (Rd.of_own hO))
      clear hb2 hO G0
      go_wp2_with fail
      refine HDR2.out.mono ?_
      rintro e w3 ⟨ax, cx, rfl, hRx, hb3⟩
      have HB3 := hide (HB2.out.trans (hb3.mono HB2.out.size))
      have HG3 := hide (HG2.out.below hb3 HG2.out.lt)
      have h23 := hb3.size
      have hg2 := HG2.out.lt
      clear hb3 HDR2 HG2
      have K22 := Gd.new w3 0 0 none 0 0
      go_upto_region 2 with ((refine wpList_store_gd rfl (.tmp 9) (.tmp 22) rfl w3.heap.size rfl rfl K22 ?_; intro w4 k4 kk4))
      have KA : Keeps (fun k => k = w3.heap.size) w3 w4 := ((Keeps.refl _ w3).alloc _).trans kk4
      have G4 := HG3.out.keeps KA (by omega)
      have HG4 := hide G4
      have HX4 := hide k4
      have HB4 : Hid (Below w.heap.size w w4) := hide (HB3.out.trans ((KA.mono (Y := fun k => w.heap.size ≤ k) (fun k _ e => by have := HB3.out.size; omega)).below (B := w.heap.size) HB3.out.size (fun k hk e => by omega)))
      have HRX := hide (hRx.keepsN KA (fun h0 b off e hb => by rw [e] at hRx; have := hRx.blt h0; omega))
      clear KA kk4 k4 K22 HG3 HB3 hRx
      go_wp2_with (refine wpList_load_gd rfl (.tmp 4) rfl w.heap.size rfl G4 ?_)
      clear G4
      refine (HGO.out _ HB4.out).mono ?_
      rintro e w5 ⟨a2, c2, rfl, hO, hb5⟩
      have HB5 := hide (HB4.out.trans (hb5.mono HB4.out.size))
      have HG5 := hide (HG4.out.below hb5 HG4.out.lt)
      have HX5 := hide (HX4.out.below hb5 HX4.out.lt)
      have HRX5 := hide (HRX.out.mono hb5)
      have HTH5 := hide (HTW.out a2 c2 w5 (HT.out.mono HB5.out) (Rd.of_own hO))
      clear hb5 hO HG4 HX4 HRX HB4 HGO
      go_wp2_with fail
      refine HTH5.out.mono ?_
      rintro e w6 ⟨rfl, hb6⟩
      have HB6 := hide (HB5.out.trans (hb6.mono HB5.out.size))
      have G6 := HG5.out.below hb6 HG5.out.lt
      have HG6 := hide G6
      have HX6 := hide (HX5.out.below hb6 HX5.out.lt)
      have HRX6 := hide (HRX5.out.mono hb6)
      clear hb6 HTH5 HG5 HX5 HRX5 HB5
      go_wp2_with (refine wpList_load_gd rfl (.tmp 4) rfl w.heap.size rfl G6 ?_)
      clear G6
      refine (HWM.out w6 HB6.out).mono ?_
      rintro e w7 ⟨rfl, hb7⟩
      have HB7 := hide (HB6.out.trans (hb7.mono HB6.out.size))
      have G7 := HG6.out.below hb7 HG6.out.lt
      have HG7 := hide G7
      have X7 := HX6.out.below hb7 HX6.out.lt
      have HX7 := hide X7
      have HRX7 := hide (HRX6.out.mono hb7)
      have HRL7 : Hid (True) := hide trivial
      clear hb7 HG6 HX6 HRX6 HB6
      clear X7
      go_wp2_with (refine wpList_load_gd rfl (.tmp 4) rfl w.heap.size rfl G7 ?_)
      clear G7
      refine (HDO.out w7 HB7.out).mono ?_
      rintro e w8 ⟨ay, cy, rfl, hRy, hb8⟩
      have HB8 := hide (HB7.out.trans (hb8.mono HB7.out.size))
      have HG8 := hide (HG7.out.below hb8 HG7.out.lt)
      have HX8 := hide (HX7.out.below hb8 HX7.out.lt)
      have HRX8 := hide (HRX7.out.mono hb8)
      have HRL8 : Hid (True) := hide trivial
      clear hb8 HG7 HX7 HRX7 HB7 HRL7
      have K33 := Gd.new w8 0 0 none 0 0
      go_upto_region 6 with ((refine wpList_store_gd rfl (.tmp 13) (.tmp 55) rfl w8.heap.size rfl rfl K33 ?_; intro w9 k9 kk9))
      have KB : Keeps (fun k => k = w8.heap.size) w8 w9 := ((Keeps.refl _ w8).alloc _).trans kk9
      have hx8 := HX8.out.lt
      have hg8 := HG8.out.lt
      have X9 := HX8.out.keeps KB (by omega)
      have Y9 := k9
      have HB9 : Hid (Below w.heap.size w w9) := hide (HB8.out.trans ((KB.mono (Y := fun k => w.heap.size ≤ k) (fun k _ e => by have := HB8.out.size; omega)).below (B := w.heap.size) HB8.out.size (fun k hk e => by omega)))
      have R1 := HRX8.out.keepsN KB (fun h0 b off e hb => by have := HRX8.out; rw [e] at this; have := this.blt h0; omega)
      have R2 := hRy.keepsN KB (fun h0 b off e hb => by rw [e] at hRy; have := hRy.blt h0; omega)
      have HSG := hide (SameGrid_yes Wx Hx _ _ nx _ _ xs w9 R1 R2)
      clear R1 R2 hRy KB K33 k9 kk9 HX8 HRX8 HB8 HG8 HRL8
      have hEE : (E != E) = false := by simp
      go_wp2_with (first
        | refine wpList_load_gd rfl (.tmp 9) rfl w3.heap.size rfl X9 ?_
        | refine wpList_load_gd rfl (.tmp 13) rfl w8.heap.size rfl Y9 ?_)
      refine HSG.out.mono ?_
      rintro e w10 ⟨rfl, hb10⟩
      have HB10 := hide (HB9.out.trans (hb10.mono HB9.out.size))
      clear hb10 HSG X9 Y9 HB9
      go_wp2_with fail
      go_ret
      exact ⟨by rfl, HB10.out⟩
    obtain ⟨m, hm, rfl⟩ : ∃ m : Nat, (m = 1 ∨ m = 2) ∧ who = m := by
      rcases hw12 with rfl | rfl
      · exact ⟨1, Or.inl rfl, rfl⟩
      · exact ⟨2, Or.inr rfl, rfl⟩
    have HTY := hide (fun a' c' w1 (hT1 : Tab w1) (hR : Rd w1 a' n c' zs) => Threats_yes gW gH a' n c' K m zs w1 hT1 hR hbw hK hm)
    have HTO := hide (fun w1 (hb : Below w.heap.size w w1) => ThreatsOf_any gW gH a n c K m zs w1 (h.mono hb) hbw hK hm)
    have hgo : ((m : Int) != 1) = false ∨ (((m : Int) != 1) = true ∧ ((m : Int) != 2) = false) := by
      rcases hm with rfl | rfl
      · exact Or.inl rfl
      · exact Or.inr ⟨rfl, rfl⟩
    obtain ⟨TL, hTL⟩ : ∃ TL, thr gW gH K zs m n = TL := ⟨_, rfl⟩
    rw [hTL] at HTY HTO
    clear h hT hbw hk hK hw12 hTL hm
    rcases hgo with b1 | ⟨b1, b2⟩
    · skip
      go_enter Tryd.func3, Tryd.ntmps3
      go_wp2_with (refine wpList_load_gd rfl (.tmp 4) rfl w.heap.size rfl G0 ?_)
      refine (HGO.out _ HB0.out).mono ?_
      rintro e w2 ⟨a1, c1, rfl, hO, hb2⟩
      have HB2 := hide (HB0.out.trans (hb2.mono HB0.out.size))
      have HG2 := hide (HG0.out.below hb2 HG0.out.lt)
      have HDR2 := hide (HDP.out a1 c1 w2 (HT.out.mono HB2.out) (Rd.of_own hO))
      clear hb2 hO G0
      go_wp2_with fail
      refine HDR2.out.mono ?_
      rintro e w3 ⟨ax, cx, rfl, hRx, hb3⟩
      have HB3 := hide (HB2.out.trans (hb3.mono HB2.out.size))
      have HG3 := hide (HG2.out.below hb3 HG2.out.lt)
      have h23 := hb3.size
      have hg2 := HG2.out.lt
      clear hb3 HDR2 HG2
      have K22 := Gd.new w3 0 0 none 0 0
      go_upto_region 2 with ((refine wpList_store_gd rfl (.tmp 9) (.tmp 22) rfl w3.heap.size rfl rfl K22 ?_; intro w4 k4 kk4))
      have KA : Keeps (fun k => k = w3.heap.size) w3 w4 := ((Keeps.refl _ w3).alloc _).trans kk4
      have G4 := HG3.out.keeps KA (by omega)
      have HG4 := hide G4
      have HX4 := hide k4
      have HB4 : Hid (Below w.heap.size w w4) := hide (HB3.out.trans ((KA.mono (Y := fun k => w.heap.size ≤ k) (fun k _ e => by have := HB3.out.size; omega)).below (B := w.heap.size) HB3.out.size (fun k hk e => by omega)))
      have HRX := hide (hRx.keepsN KA (fun h0 b off e hb => by rw [e] at hRx; have := hRx.blt h0; omega))
      clear KA kk4 k4 K22 HG3 HB3 hRx
      go_wp2_with (refine wpList_load_gd rfl (.tmp 4) rfl w.heap.size rfl G4 ?_)
      clear G4
      refine (HGO.out _ HB4.out).mono ?_
      rintro e w5 ⟨a2, c2, rfl, hO, hb5⟩
      have HB5 := hide (HB4.out.trans (hb5.mono HB4.out.size))
      have HG5 := hide (HG4.out.below hb5 HG4.out.lt)
      have HX5 := hide (HX4.out.below hb5 HX4.out.lt)
      have HRX5 := hide (HRX.out.mono hb5)
      have HTH5 := hide (HTY.out a2 c2 w5 (HT.out.mono HB5.out) (Rd.of_own hO))
      clear hb5 hO HG4 HX4 HRX HB4 HGO
      go_wp2_with fail
      refine HTH5.out.mono ?_
      rintro e w6 ⟨at7, ct7, rfl, hRt, hb6⟩
      have HB6 := hide (HB5.out.trans (hb6.mono HB5.out.size))
      have G6 := HG5.out.below hb6 HG5.out.lt
      have HG6 := hide G6
      have HX6 := hide (HX5.out.below hb6 HX5.out.lt)
      have HRX6 := hide (HRX5.out.mono hb6)
      clear hb6 HTH5 HG5 HX5 HRX5 HB5
      go_wp2_with (refine wpList_load_gd rfl (.tmp 4) rfl w.heap.size rfl G6 ?_)
      clear G6
      refine (HWM.out w6 HB6.out).mono ?_
      rintro e w7 ⟨rfl, hb7⟩
      have HB7 := hide (HB6.out.trans (hb7.mono HB6.out.size))
      have G7 := HG6.out.below hb7 HG6.out.lt
      have HG7 := hide G7
      have X7 := HX6.out.below hb7 HX6.out.lt
      have HX7 := hide X7
      have HRX7 := hide (HRX6.out.mono hb7)
      have HRL7 : Hid (Rd w7 at7 TL.length ct7 (toI TL)) := hide (hRt.mono hb7)
      clear hRt hb7 HG6 HX6 HRX6 HB6
      clear X7
      go_wp2_with (refine wpList_load_gd rfl (.tmp 4) rfl w.heap.size rfl G7 ?_)
      clear G7
      refine (HDO.out w7 HB7.out).mono ?_
      rintro e w8 ⟨ay, cy, rfl, hRy, hb8⟩
      have HB8 := hide (HB7.out.trans (hb8.mono HB7.out.size))
      have HG8 := hide (HG7.out.below hb8 HG7.out.lt)
      have HX8 := hide (HX7.out.below hb8 HX7.out.lt)
      have HRX8 := hide (HRX7.out.mono hb8)
      have HRL8 : Hid (Rd w8 at7 TL.length ct7 (toI TL)) := hide (HRL7.out.mono hb8)
      clear hb8 HG7 HX7 HRX7 HB7 HRL7
      have K33 := Gd.new w8 0 0 none 0 0
      go_upto_region 6 with ((refine wpList_store_gd rfl (.tmp 13) (.tmp 55) rfl w8.heap.size rfl rfl K33 ?_; intro w9 k9 kk9))
      have KB : Keeps (fun k => k = w8.heap.size) w8 w9 := ((Keeps.refl _ w8).alloc _).trans kk9
      have hx8 := HX8.out.lt
      have hg8 := HG8.out.lt
      have X9 := HX8.out.keeps KB (by omega)
      have Y9 := k9
      have HB9 : Hid (Below w.heap.size w w9) := hide (HB8.out.trans ((KB.mono (Y := fun k => w.heap.size ≤ k) (fun k _ e => by have := HB8.out.size; omega)).below (B := w.heap.size) HB8.out.size (fun k hk e => by omega)))
      have R1 := HRX8.out.keepsN KB (fun h0 b off e hb => by have := HRX8.out; rw [e] at this; have := this.blt h0; omega)
      have R2 := hRy.keepsN KB (fun h0 b off e hb => by rw [e] at hRy; have := hRy.blt h0; omega)
      have HSG := hide (SameGrid_yes Wx Hx _ _ nx _ _ xs w9 R1 R2)
      have RL9 := HRL8.out.keepsN KB (fun h0 b off e hb => by have := HRL8.out; rw [e] at this; have := this.blt h0; omega)
      have HRL9 := hide RL9
      have HG9 := hide (HG8.out.keeps KB (by omega))
      clear RL9
      clear R1 R2 hRy KB K33 k9 kk9 HX8 HRX8 HB8 HG8 HRL8
      have hEE : (E != E) = false := by simp
      go_wp2_with (first
        | refine wpList_load_gd rfl (.tmp 9) rfl w3.heap.size rfl X9 ?_
        | refine wpList_load_gd rfl (.tmp 13) rfl w8.heap.size rfl Y9 ?_)
      refine HSG.out.mono ?_
      rintro e w10 ⟨rfl, hb10⟩
      have HB10 := hide (HB9.out.trans (hb10.mono HB9.out.size))
      have HRL10 := hide (HRL9.out.mono hb10)
      have G10 := HG9.out.below hb10 HG9.out.lt
      clear hb10 HSG X9 Y9 HB9
      go_wp2_with (refine wpList_load_gd rfl (.tmp 4) rfl w.heap.size rfl G10 ?_)
      refine (HTO.out w10 HB10.out).mono ?_
      rintro e w11 ⟨au, cu, rfl, hRu, hb11⟩
      have HB11 := hide (HB10.out.trans (hb11.mono HB10.out.size))
      have HSI := hide (sameInts_any _ _ _ _ _ _ _ _ w11 (HRL10.out.mono hb11) hRu)
      rw [decide_eq_true rfl] at HSI
      clear hb11 hRu G10
      go_wp2_with fail
      refine HSI.out.mono ?_
      rintro e w12 ⟨rfl, q, rfl⟩
      have HB12 := hide (HB11.out.trans (drewN_below w.heap.size w11 q))
      clear HSI
      go_wp2_with fail
      go_ret
      exact ⟨by rfl, HB12.out⟩
    · skip
      go_enter Tryd.func3, Tryd.ntmps3
      go_wp2_with (refine wpList_load_gd rfl (.tmp 4) rfl w.heap.size rfl G0 ?_)
      refine (HGO.out _ HB0.out).mono ?_
      rintro e w2 ⟨a1, c1, rfl, hO, hb2⟩
      have HB2 := hide (HB0.out.trans (hb2.mono HB0.out.size))
      have HG2 := hide (HG0.out.below hb2 HG0.out.lt)
      have HDR2 := hide (HDP.out a1 c1 w2 (HT.out.mono HB2.out) (Rd.of_own hO))
      clear hb2 hO G0
      go_wp2_with fail
      refine HDR2.out.mono ?_
      rintro e w3 ⟨ax, cx, rfl, hRx, hb3⟩
      have HB3 := hide (HB2.out.trans (hb3.mono HB2.out.size))
      have HG3 := hide (HG2.out.below hb3 HG2.out.lt)
      have h23 := hb3.size
      have hg2 := HG2.out.lt
      clear hb3 HDR2 HG2
      have K22 := Gd.new w3 0 0 none 0 0
      go_upto_region 2 with ((refine wpList_store_gd rfl (.tmp 9) (.tmp 22) rfl w3.heap.size rfl rfl K22 ?_; intro w4 k4 kk4))
      have KA : Keeps (fun k => k = w3.heap.size) w3 w4 := ((Keeps.refl _ w3).alloc _).trans kk4
      have G4 := HG3.out.keeps KA (by omega)
      have HG4 := hide G4
      have HX4 := hide k4
      have HB4 : Hid (Below w.heap.size w w4) := hide (HB3.out.trans ((KA.mono (Y := fun k => w.heap.size ≤ k) (fun k _ e => by have := HB3.out.size; omega)).below (B := w.heap.size) HB3.out.size (fun k hk e => by omega)))
      have HRX := hide (hRx.keepsN KA (fun h0 b off e hb => by rw [e] at hRx; have := hRx.blt h0; omega))
      clear KA kk4 k4 K22 HG3 HB3 hRx
      go_wp2_with (refine wpList_load_gd rfl (.tmp 4) rfl w.heap.size rfl G4 ?_)
      clear G4
      refine (HGO.out _ HB4.out).mono ?_
      rintro e w5 ⟨a2, c2, rfl, hO, hb5⟩
      have HB5 := hide (HB4.out.trans (hb5.mono HB4.out.size))
      have HG5 := hide (HG4.out.below hb5 HG4.out.lt)
      have HX5 := hide (HX4.out.below hb5 HX4.out.lt)
      have HRX5 := hide (HRX.out.mono hb5)
      have HTH5 := hide (HTY.out a2 c2 w5 (HT.out.mono HB5.out) (Rd.of_own hO))
      clear hb5 hO HG4 HX4 HRX HB4 HGO
      go_wp2_with fail
      refine HTH5.out.mono ?_
      rintro e w6 ⟨at7, ct7, rfl, hRt, hb6⟩
      have HB6 := hide (HB5.out.trans (hb6.mono HB5.out.size))
      have G6 := HG5.out.below hb6 HG5.out.lt
      have HG6 := hide G6
      have HX6 := hide (HX5.out.below hb6 HX5.out.lt)
      have HRX6 := hide (HRX5.out.mono hb6)
      clear hb6 HTH5 HG5 HX5 HRX5 HB5
      go_wp2_with (refine wpList_load_gd rfl (.tmp 4) rfl w.heap.size rfl G6 ?_)
      clear G6
      refine (HWM.out w6 HB6.out).mono ?_
      rintro e w7 ⟨rfl, hb7⟩
      have HB7 := hide (HB6.out.trans (hb7.mono HB6.out.size))
      have G7 := HG6.out.below hb7 HG6.out.lt
      have HG7 := hide G7
      have X7 := HX6.out.below hb7 HX6.out.lt
      have HX7 := hide X7
      have HRX7 := hide (HRX6.out.mono hb7)
      have HRL7 : Hid (Rd w7 at7 TL.length ct7 (toI TL)) := hide (hRt.mono hb7)
      clear hRt hb7 HG6 HX6 HRX6 HB6
      clear X7
      go_wp2_with (refine wpList_load_gd rfl (.tmp 4) rfl w.heap.size rfl G7 ?_)
      clear G7
      refine (HDO.out w7 HB7.out).mono ?_
      rintro e w8 ⟨ay, cy, rfl, hRy, hb8⟩
      have HB8 := hide (HB7.out.trans (hb8.mono HB7.out.size))
      have HG8 := hide (HG7.out.below hb8 HG7.out.lt)
      have HX8 := hide (HX7.out.below hb8 HX7.out.lt)
      have HRX8 := hide (HRX7.out.mono hb8)
      have HRL8 : Hid (Rd w8 at7 TL.length ct7 (toI TL)) := hide (HRL7.out.mono hb8)
      clear hb8 HG7 HX7 HRX7 HB7 HRL7
      have K33 := Gd.new w8 0 0 none 0 0
      go_upto_region 6 with ((refine wpList_store_gd rfl (.tmp 13) (.tmp 55) rfl w8.heap.size rfl rfl K33 ?_; intro w9 k9 kk9))
      have KB : Keeps (fun k => k = w8.heap.size) w8 w9 := ((Keeps.refl _ w8).alloc _).trans kk9
      have hx8 := HX8.out.lt
      have hg8 := HG8.out.lt
      have X9 := HX8.out.keeps KB (by omega)
      have Y9 := k9
      have HB9 : Hid (Below w.heap.size w w9) := hide (HB8.out.trans ((KB.mono (Y := fun k => w.heap.size ≤ k) (fun k _ e => by have := HB8.out.size; omega)).below (B := w.heap.size) HB8.out.size (fun k hk e => by omega)))
      have R1 := HRX8.out.keepsN KB (fun h0 b off e hb => by have := HRX8.out; rw [e] at this; have := this.blt h0; omega)
      have R2 := hRy.keepsN KB (fun h0 b off e hb => by rw [e] at hRy; have := hRy.blt h0; omega)
      have HSG := hide (SameGrid_yes Wx Hx _ _ nx _ _ xs w9 R1 R2)
      have RL9 := HRL8.out.keepsN KB (fun h0 b off e hb => by have := HRL8.out; rw [e] at this; have := this.blt h0; omega)
      have HRL9 := hide RL9
      have HG9 := hide (HG8.out.keeps KB (by omega))
      clear RL9
      clear R1 R2 hRy KB K33 k9 kk9 HX8 HRX8 HB8 HG8 HRL8
      have hEE : (E != E) = false := by simp
      go_wp2_with (first
        | refine wpList_load_gd rfl (.tmp 9) rfl w3.heap.size rfl X9 ?_
        | refine wpList_load_gd rfl (.tmp 13) rfl w8.heap.size rfl Y9 ?_)
      refine HSG.out.mono ?_
      rintro e w10 ⟨rfl, hb10⟩
      have HB10 := hide (HB9.out.trans (hb10.mono HB9.out.size))
      have HRL10 := hide (HRL9.out.mono hb10)
      have G10 := HG9.out.below hb10 HG9.out.lt
      clear hb10 HSG X9 Y9 HB9
      go_wp2_with (refine wpList_load_gd rfl (.tmp 4) rfl w.heap.size rfl G10 ?_)
      refine (HTO.out w10 HB10.out).mono ?_
      rintro e w11 ⟨au, cu, rfl, hRu, hb11⟩
      have HB11 := hide (HB10.out.trans (hb11.mono HB10.out.size))
      have HSI := hide (sameInts_any _ _ _ _ _ _ _ _ w11 (HRL10.out.mono hb11) hRu)
      rw [decide_eq_true rfl] at HSI
      clear hb11 hRu G10
      go_wp2_with fail
      refine HSI.out.mono ?_
      rintro e w12 ⟨rfl, q, rfl⟩
      have HB12 := hide (HB11.out.trans (drewN_below w.heap.size w11 q))
      clear HSI
      go_wp2_with fail
      go_ret
      exact ⟨by rfl, HB12.out⟩

end Go.Proofs.YtaglhmkjdajgpaaDoor
