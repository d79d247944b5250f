/-
  New, May and Moves beside what the document says: the law, walked. No conditions beyond those that each theorem bears.
-/
import Derived.Test.YtnbaangnpoblfaaDoorMv
import Derived.Test.YtnbaangnpoblfaaDoorRm
import Derived.Test.YtnbaangnpoblfaaDoorRj
import Derived.Test.YtnbaangnpoblfaaDoorDn
import Derived.Test.YtnbaangnpoblfaaDoorSa
namespace Go.Proofs.YtnbaangnpoblfaaDoor
open Go.RowKit Go.Shelf

theorem sameSt (a b : Option Addr) (c d : Nat) (w : World) (hx : Rd w a 33 c st0) (hy : Rd w b 33 d st0) :
    Calls Tryd.prog 11 #[.agg (dgA a 33 c 1), .agg (dgA b 33 d 1)] w fun e w' => e = .returned (.bool true) ∧ Below w.heap.size w w' := by
  have h := sameD_any 1 1 a 33 c st0 b 33 d st0 w hx hy
  rw [show (decide ((1 : Int) = 1) && decide (st0 = st0)) = true by simp] at h
  exact h

attribute [local irreducible] mayD mvN rMv st0

set_option maxRecDepth 100000 in
set_option maxHeartbeats 8000000 in
theorem ways_law (t : Int) (a : Option Addr) (n c : Nat) (zs : List Int) (w : World) (hL : DTab w ∧ TzT w) (h : Rd w a n c zs) (hr : n * 8 ≤ 140737488351232) :
    Calls Tryd.prog 3 #[.agg (dgA a n c t)] w fun e w' => e = .returned (.bool true) ∧ Below w.heap.size w w' := by
  obtain ⟨w1, hw1⟩ : ∃ w1, w.alloc (.cells (dgA a n c t) 24) = w1 := ⟨_, rfl⟩
  have HB1 : Hid (Below w.heap.size w w1) := hide (by rw [← hw1]; exact (Below.refl _ _).alloc (Nat.le_refl _) _)
  have G1 : Dg w1 w.heap.size a n c t := by rw [← hw1]; exact Dg.new _ _ _ _ _
  have R1 := h.mono HB1.out
  have HDO := hide (DraughtsOf_own t a n c zs w1 R1 hr)
  have HR1 := hide R1
  have HRR := hide hr
  have HL1 : Hid (DTab w1 ∧ TzT w1) := hide ⟨hL.1.mono HB1.out, hL.2.mono HB1.out⟩
  clear h R1 hL hr
  cases hmay : mayD zs t with
  | false =>
    have HMY := hide hmay
    clear hmay
    go_enter Tryd.func3, Tryd.ntmps3
    go_upto_region 1 with fail
    clear hw1
    go_wp2_with (refine wpList_load_dg rfl (.tmp 1) rfl w.heap.size rfl G1 ?_)
    refine HDO.out.mono ?_
    rintro e w2 ⟨a2, c2, rfl, hO2, hb2⟩
    have HB2 := hide (HB1.out.trans (hb2.mono HB1.out.size))
    have G2 := G1.below hb2 G1.lt
    have HR2 := hide (HR1.out.mono hb2)
    have HL2 : Hid (DTab w2 ∧ TzT w2) := hide ⟨HL1.out.1.mono hb2, HL1.out.2.mono hb2⟩
    have HM2 := hide (May_any t a2 n c2 zs w2 (Rd.of_own hO2))
    rw [HMY.out] at HM2
    clear hO2 hb2 G1 HDO HR1 HL1 HB1
    go_wp2_with fail
    refine HM2.out.mono ?_
    rintro e w3 ⟨rfl, hb3⟩
    have HB3 := hide (HB2.out.trans (hb3.mono HB2.out.size))
    have G3 := G2.below hb3 G2.lt
    have HR3 := hide (HR2.out.mono hb3)
    have HL3 : Hid (DTab w3 ∧ TzT w3) := hide ⟨HL2.out.1.mono hb3, HL2.out.2.mono hb3⟩
    have HDO3 := hide (DraughtsOf_own t a n c zs w3 HR3.out HRR.out)
    clear hb3 G2 HM2 HR2 HL2 HB2
    go_wp2_with (refine wpList_load_dg rfl (.tmp 1) rfl w.heap.size rfl G3 ?_)
    refine HDO3.out.mono ?_
    rintro e w4 ⟨a4, c4, rfl, hO4, hb4⟩
    have HB4 := hide (HB3.out.trans (hb4.mono HB3.out.size))
    have G4 := G3.below hb4 G3.lt
    have HR4 := hide (HR3.out.mono hb4)
    have HL4 : Hid (DTab w4 ∧ TzT w4) := hide ⟨HL3.out.1.mono hb4, HL3.out.2.mono hb4⟩
    have HMV := hide (Moves_no t a4 n c4 zs w4 (Rd.of_own hO4) HMY.out)
    clear hO4 hb4 G3 HDO3 HR3 HL3 HB3
    go_wp2_with fail
    refine HMV.out.mono ?_
    rintro e w5 ⟨rfl, hb5⟩
    have HB5 := hide (HB4.out.trans (hb5.mono HB4.out.size))
    have G5 := G4.below hb5 G4.lt
    have HR5 := hide (HR4.out.mono hb5)
    clear hb5 G4 HMV HR4 HL4 HB4
    go_wp2_with fail
    refine (New_any _).mono ?_
    rintro e w6 ⟨a6, c6, rfl, hR6, hb6⟩
    have HB6 := hide (HB5.out.trans (hb6.mono HB5.out.size))
    have G6 := G5.below hb6 G5.lt
    have HR6 := hide (HR5.out.mono hb6)
    have HS6 := hide hR6
    clear hb6 G5 HR5 hR6 HB5
    go_wp2_with fail
    refine (DraughtsNew_any _).mono ?_
    rintro e w7 ⟨a7, c7, rfl, hR7, hb7⟩
    have HB7 := hide (HB6.out.trans (hb7.mono HB6.out.size))
    have G7 := G6.below hb7 G6.lt
    have HR7 := hide (HR6.out.mono hb7)
    have HSS := hide (sameSt a6 a7 c6 c7 w7 (HS6.out.mono hb7) hR7)
    clear hb7 G6 HR6 hR7 HB6 HS6
    go_wp2_with fail
    refine HSS.out.mono ?_
    rintro e w8 ⟨rfl, hb8⟩
    have HB8 := hide (HB7.out.trans (hb8.mono HB7.out.size))
    have G8 := G7.below hb8 G7.lt
    have HR8 := hide (HR7.out.mono hb8)
    have HDM := hide (DraughtsMay_any t a n c zs w8 HR8.out)
    rw [HMY.out] at HDM
    clear hb8 G7 HR7 HB7 HSS
    go_wp2_with (refine wpList_load_dg rfl (.tmp 1) rfl w.heap.size rfl G8 ?_)
    refine HDM.out.mono ?_
    rintro e w9 ⟨rfl, hb9⟩
    have HB9 := hide (HB8.out.trans (hb9.mono HB8.out.size))
    clear hb9 G8 HR8 HB8 HDM
    go_wp2_with fail
    go_ret
    exact ⟨rfl, HB9.out⟩
  | true =>
    have HM := hide ((mayD_iff zs t).1 hmay)
    have HMY := hide hmay
    clear hmay
    obtain ⟨s, rfl⟩ := Int.eq_ofNat_of_zero_le (show 0 ≤ t by have := HM.out.tt; omega)
    obtain rfl : n = 33 := by have := HM.out.len; have := HR1.out.len; omega
    go_enter Tryd.func3, Tryd.ntmps3
    go_upto_region 1 with fail
    clear hw1
    go_wp2_with (refine wpList_load_dg rfl (.tmp 1) rfl w.heap.size rfl G1 ?_)
    refine HDO.out.mono ?_
    rintro e w2 ⟨a2, c2, rfl, hO2, hb2⟩
    have HB2 := hide (HB1.out.trans (hb2.mono HB1.out.size))
    have G2 := G1.below hb2 G1.lt
    have HR2 := hide (HR1.out.mono hb2)
    have HL2 : Hid (DTab w2 ∧ TzT w2) := hide ⟨HL1.out.1.mono hb2, HL1.out.2.mono hb2⟩
    have HM2 := hide (May_any (s : Nat) a2 33 c2 zs w2 (Rd.of_own hO2))
    rw [HMY.out] at HM2
    clear hO2 hb2 G1 HDO HR1 HL1 HB1
    go_wp2_with fail
    refine HM2.out.mono ?_
    rintro e w3 ⟨rfl, hb3⟩
    have HB3 := hide (HB2.out.trans (hb3.mono HB2.out.size))
    have G3 := G2.below hb3 G2.lt
    have HR3 := hide (HR2.out.mono hb3)
    have HL3 : Hid (DTab w3 ∧ TzT w3) := hide ⟨HL2.out.1.mono hb3, HL2.out.2.mono hb3⟩
    have HDO3 := hide (DraughtsOf_own (s : Nat) a 33 c zs w3 HR3.out HRR.out)
    clear hb3 G2 HM2 HR2 HL2 HB2
    go_wp2_with (refine wpList_load_dg rfl (.tmp 1) rfl w.heap.size rfl G3 ?_)
    refine HDO3.out.mono ?_
    rintro e w4 ⟨a4, c4, rfl, hO4, hb4⟩
    have HB4 := hide (HB3.out.trans (hb4.mono HB3.out.size))
    have G4 := G3.below hb4 G3.lt
    have HR4 := hide (HR3.out.mono hb4)
    have HL4 : Hid (DTab w4 ∧ TzT w4) := hide ⟨HL3.out.1.mono hb4, HL3.out.2.mono hb4⟩
    have HMV := hide (Moves_yes s a4 c4 zs w4 (Rd.of_own hO4) HM.out HL4.out.1 HL4.out.2)
    clear hO4 hb4 G3 HDO3 HR3 HL3 HB3
    go_wp2_with fail
    refine HMV.out.mono ?_
    rintro e w5 ⟨v5, rfl, hF5, hb5⟩
    obtain ⟨a5, c5, rfl⟩ := hF5.form
    have HB5 := hide (HB4.out.trans (hb5.mono HB4.out.size))
    have G5 := G4.below hb5 G4.lt
    have HR5 := hide (HR4.out.mono hb5)
    obtain ⟨N, hN⟩ : ∃ N, ((mvN zs s).map toI).length = N := ⟨_, rfl⟩
    have HN : Hid (((rMv zs s).map toI).length = N) := hide (by rw [rMv_eq HM.out]; exact hN)
    rw [hN] at hF5 ⊢
    have HF5 : Hid (Fr (fun k => w4.heap.size ≤ k) w5 a5 N c5 ((rMv zs s).map toI)) := hide (by
      have := hF5.fr
      rw [rMv_eq HM.out]
      exact this)
    clear hF5 hN
    clear hb5 G4 HMV HR4 HL4 HB4
    go_wp2_with fail
    refine (New_any _).mono ?_
    rintro e w6 ⟨a6, c6, rfl, hR6, hb6⟩
    have HB6 := hide (HB5.out.trans (hb6.mono HB5.out.size))
    have G6 := G5.below hb6 G5.lt
    have HR6 := hide (HR5.out.mono hb6)
    have HS6 := hide hR6
    have HF6 := hide (HF5.out.mono hb6)
    clear HF5
    clear hb6 G5 HR5 hR6 HB5
    go_wp2_with fail
    refine (DraughtsNew_any _).mono ?_
    rintro e w7 ⟨a7, c7, rfl, hR7, hb7⟩
    have HB7 := hide (HB6.out.trans (hb7.mono HB6.out.size))
    have G7 := G6.below hb7 G6.lt
    have HR7 := hide (HR6.out.mono hb7)
    have HSS := hide (sameSt a6 a7 c6 c7 w7 (HS6.out.mono hb7) hR7)
    have HF7 := hide (HF6.out.mono hb7)
    clear HF6
    clear hb7 G6 HR6 hR7 HB6 HS6
    go_wp2_with fail
    refine HSS.out.mono ?_
    rintro e w8 ⟨rfl, hb8⟩
    have HB8 := hide (HB7.out.trans (hb8.mono HB7.out.size))
    have G8 := G7.below hb8 G7.lt
    have HR8 := hide (HR7.out.mono hb8)
    have HDM := hide (DraughtsMay_any (s : Nat) a 33 c zs w8 HR8.out)
    rw [HMY.out] at HDM
    have HF8 := hide (HF7.out.mono hb8)
    clear HF7
    clear hb8 G7 HR7 HB7 HSS
    go_wp2_with (refine wpList_load_dg rfl (.tmp 1) rfl w.heap.size rfl G8 ?_)
    refine HDM.out.mono ?_
    rintro e w9 ⟨rfl, hb9⟩
    have HB9 := hide (HB8.out.trans (hb9.mono HB8.out.size))
    have G9 := G8.below hb9 G8.lt
    have HR9 := hide (HR8.out.mono hb9)
    have HF9 := hide (HF8.out.mono hb9)
    have HDD := hide (DraughtsMoves_any s a c zs w9 HR9.out HM.out (fun p hp => jumpsOn_all zs s p HM.out hp 13 (Nat.le_refl _)))
    clear hb9 G8 HR8 HB8 HDM HF8
    go_wp2_with (refine wpList_load_dg rfl (.tmp 1) rfl w.heap.size rfl G9 ?_)
    refine HDD.out.mono ?_
    rintro e w10 ⟨v10, rfl, hF10, hb10⟩
    obtain ⟨a10, c10, rfl⟩ := hF10.form
    have HB10 := hide (HB9.out.trans (hb10.mono HB9.out.size))
    rw [HN.out] at hF10 ⊢
    have HSR := hide (sameRows_eq _ _ a5 a10 _ c5 c10 _ w10 (HF9.out.mono hb10) hF10.fr)
    clear hb10 G9 HR9 HB9 HDD HF9 hF10
    go_wp2_with fail
    refine HSR.out.mono ?_
    rintro e w11 ⟨rfl, hb11⟩
    have HB11 := hide (HB10.out.trans (hb11.mono HB10.out.size))
    clear hb11 HB10
    go_wp2_with fail
    go_ret
    exact ⟨rfl, HB11.out⟩

end Go.Proofs.YtnbaangnpoblfaaDoor
