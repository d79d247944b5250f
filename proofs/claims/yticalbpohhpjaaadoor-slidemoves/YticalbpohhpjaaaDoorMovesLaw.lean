/-
  The law of moves: what the program answers is what the document says. No conditions beyond those that each theorem bears.
-/
import Derived.Test.YticalbpohhpjaaaDoorPa
namespace Go.Proofs.YticalbpohhpjaaaDoor
open Go.RowKit

theorem Keeps.after {X Y : Nat → Prop} {a b c : World} (h : Keeps X a b) (k : Keeps Y b c) (hs : ∀ i, i < a.heap.size → Y i → X i) : Keeps X a c :=
  ⟨k.os.trans h.os, k.tape.trans h.tape, k.output.trans h.output, Nat.le_trans h.size k.size, fun i hi hx => (k.block i (Nat.lt_of_lt_of_le hi h.size) (fun y => hx (hs i hi y))).trans (h.block i hi hx)⟩

theorem below_call {w a b : World} (h : Below w.heap.size w a) (k : Below a.heap.size a b) : Below w.heap.size w b := h.trans (k.mono h.size)

set_option maxRecDepth 100000 in
set_option maxHeartbeats 8000000 in
theorem moves_no (W H : Int) (a la : Option Addr) (n c ln lc : Nat) (zs ls : List Int) (w : World) (hT : Tab w) (h : Rd w a n c zs) (hr : n * 8 ≤ 140737488351232) (hL : Rd w la ln lc ls) (hlr : ln * 8 ≤ 140737488351232) (hm : mayB W H zs = false) :
    Calls Tryd.prog 3 #[.agg (gdA W H a n c), .slice la ln lc] w fun e w' => e = .returned (.bool true) ∧ Below w.heap.size w w' := by
  obtain ⟨w1, hw1⟩ : ∃ w1, w.alloc (.cells (gdA W H a n c) 24) = w1 := ⟨_, rfl⟩
  have B1 : Below w.heap.size w w1 := by rw [← hw1]; exact (Below.refl _ _).alloc (Nat.le_refl _) _
  have HB1 := hide B1
  have K1 : Gd w1 w.heap.size W H a n c := by rw [← hw1]; exact Gd.new _ _ _ _ _ _
  have HR1 := hide (h.mono B1)
  have HL1 := hide (hL.mono B1)
  have HT1 := hide (hT.mono B1)
  have S1 : Hid (w.heap.size < w1.heap.size) := hide (by rw [← hw1]; simp)
  have hllen := hL.len
  have hlcap := hL.cap
  have hlmax := hL.max
  unfold maxLen at hlmax
  clear h hL hT B1
  go_enter Tryd.func3, Tryd.ntmps3
  go_upto_region 1 with fail
  clear hw1
  go_wp2_with (refine wpList_load_gd rfl (.tmp 2) rfl w.heap.size rfl K1 ?_)
  refine (GridOf_own W H a n c zs w1 HR1.out hr).mono ?_
  rintro e w2 ⟨a1, a1c, rfl, o2, b2⟩
  have R2 := hide (Rd.of_own o2)
  have K2 := K1.below b2 (by have := S1.out; omega)
  have HB2 := hide (below_call HB1.out b2)
  have HR2 := hide (HR1.out.mono b2)
  have HL2 := hide (HL1.out.mono b2)
  have HT2 := hide (HT1.out.mono b2)
  have S2 : Hid (w.heap.size < w2.heap.size) := hide (by have := S1.out; have := (b2).size; omega)
  clear K1 HB1 HR1 HL1 HT1 S1 o2 b2
  go_wp2_with fail
  refine (May_any W H a1 n a1c zs w2 R2.out).mono ?_
  rintro e w3 ⟨rfl, b3⟩
  have K3 := K2.below b3 (by have := S2.out; omega)
  have HB3 := hide (below_call HB2.out b3)
  have HR3 := hide (HR2.out.mono b3)
  have HL3 := hide (HL2.out.mono b3)
  have HT3 := hide (HT2.out.mono b3)
  have S3 : Hid (w.heap.size < w3.heap.size) := hide (by have := S2.out; have := (b3).size; omega)
  clear K2 HB2 HR2 HL2 HT2 S2 b3 R2
  rw [hm]
  go_wp2_with (refine wpList_load_gd rfl (.tmp 2) rfl w.heap.size rfl K3 ?_)
  refine (GridOf_own W H a n c zs w3 HR3.out hr).mono ?_
  rintro e w4 ⟨a2, a2c, rfl, o4, b4⟩
  have R4 := hide (Rd.of_own o4)
  have K4 := K3.below b4 (by have := S3.out; omega)
  have HB4 := hide (below_call HB3.out b4)
  have HR4 := hide (HR3.out.mono b4)
  have HL4 := hide (HL3.out.mono b4)
  have HT4 := hide (HT3.out.mono b4)
  have S4 : Hid (w.heap.size < w4.heap.size) := hide (by have := S3.out; have := (b4).size; omega)
  clear K3 HB3 HR3 HL3 HT3 S3 o4 b4
  go_wp2_with fail
  refine (lints_own la ln lc ls w4 HL4.out hlr).mono ?_
  rintro e w5 ⟨l1, l1c, rfl, o5, b5⟩
  have RL5 := hide (Rd.of_own o5)
  have R5 := hide (R4.out.mono b5)
  have K5 := K4.below b5 (by have := S4.out; omega)
  have HB5 := hide (below_call HB4.out b5)
  have HR5 := hide (HR4.out.mono b5)
  have HL5 := hide (HL4.out.mono b5)
  have HT5 := hide (HT4.out.mono b5)
  have S5 : Hid (w.heap.size < w5.heap.size) := hide (by have := S4.out; have := (b5).size; omega)
  clear K4 HB4 HR4 HL4 HT4 S4 R4 o5 b5
  go_wp2_with fail
  refine (Do_no W H a2 l1 n a2c ln l1c zs w5 R5.out hm).mono ?_
  rintro e w6 ⟨rfl, b6⟩
  have K6 := K5.below b6 (by have := S5.out; omega)
  have HB6 := hide (below_call HB5.out b6)
  have HR6 := hide (HR5.out.mono b6)
  have HL6 := hide (HL5.out.mono b6)
  have HT6 := hide (HT5.out.mono b6)
  have S6 : Hid (w.heap.size < w6.heap.size) := hide (by have := S5.out; have := (b6).size; omega)
  clear K5 HB5 HR5 HL5 HT5 S5 b6 R5 RL5
  go_upto_region 3 with fail
  obtain ⟨w7, hw7⟩ : ∃ w7, w6.alloc (Obj.cells (gdA 0 0 none 0 0) 24) = w7 := ⟨_, rfl⟩
  rw [hw7]
  have b7 : Below w6.heap.size w6 w7 := by rw [← hw7]; exact (Below.refl _ w6).alloc (Nat.le_refl _) _
  have KX7 : Gd w7 w6.heap.size 0 0 none 0 0 := by rw [← hw7]; exact Gd.new _ _ _ _ _ _
  have SX7 : Hid (w6.heap.size < w7.heap.size) := hide (by rw [← hw7]; simp)
  clear hw7
  have K7 := K6.below b7 (by have := S6.out; omega)
  have HB7 := hide (below_call HB6.out b7)
  have HR7 := hide (HR6.out.mono b7)
  have HL7 := hide (HL6.out.mono b7)
  have HT7 := hide (HT6.out.mono b7)
  have S7 : Hid (w.heap.size < w7.heap.size) := hide (by have := S6.out; have := (b7).size; omega)
  generalize w6.heap.size = xb at *
  clear K6 HB6 HR6 HL6 HT6 S6 b7
  go_wp2_with (refine wpList_load_gd rfl (.tmp 2) rfl w.heap.size rfl K7 ?_)
  refine (GridOf_own W H a n c zs w7 HR7.out hr).mono ?_
  rintro e w8 ⟨a3, a3c, rfl, o8, b8⟩
  have R8 := hide (Rd.of_own o8)
  have K8 := K7.below b8 (by have := S7.out; omega)
  have HB8 := hide (below_call HB7.out b8)
  have HR8 := hide (HR7.out.mono b8)
  have HL8 := hide (HL7.out.mono b8)
  have HT8 := hide (HT7.out.mono b8)
  have S8 : Hid (w.heap.size < w8.heap.size) := hide (by have := S7.out; have := (b8).size; omega)
  have KX8 := KX7.below b8 (by have := SX7.out; omega)
  have SX8 : Hid (xb < w8.heap.size) := hide (by have := SX7.out; have := b8.size; omega)
  clear KX7 SX7
  clear K7 HB7 HR7 HL7 HT7 S7 o8 b8
  go_wp2_with fail
  refine (Can_no W H a3 n a3c zs w8 R8.out hm).mono ?_
  rintro e w9 ⟨rfl, b9⟩
  have K9 := K8.below b9 (by have := S8.out; omega)
  have HB9 := hide (below_call HB8.out b9)
  have HR9 := hide (HR8.out.mono b9)
  have HL9 := hide (HL8.out.mono b9)
  have HT9 := hide (HT8.out.mono b9)
  have S9 : Hid (w.heap.size < w9.heap.size) := hide (by have := S8.out; have := (b9).size; omega)
  have KX9 := KX8.below b9 (by have := SX8.out; omega)
  have SX9 : Hid (xb < w9.heap.size) := hide (by have := SX8.out; have := b9.size; omega)
  clear KX8 SX8
  clear K8 HB8 HR8 HL8 HT8 S8 b9 R8
  go_wp2_with (refine wpList_load_gd rfl (.tmp 2) rfl w.heap.size rfl K9 ?_)
  refine (GridOf_own W H a n c zs w9 HR9.out hr).mono ?_
  rintro e w10 ⟨a4, a4c, rfl, o10, b10⟩
  have R10 := hide (Rd.of_own o10)
  have K10 := K9.below b10 (by have := S9.out; omega)
  have HB10 := hide (below_call HB9.out b10)
  have HR10 := hide (HR9.out.mono b10)
  have HL10 := hide (HL9.out.mono b10)
  have HT10 := hide (HT9.out.mono b10)
  have S10 : Hid (w.heap.size < w10.heap.size) := hide (by have := S9.out; have := (b10).size; omega)
  have KX10 := KX9.below b10 (by have := SX9.out; omega)
  have SX10 : Hid (xb < w10.heap.size) := hide (by have := SX9.out; have := b10.size; omega)
  clear KX9 SX9
  clear K9 HB9 HR9 HL9 HT9 S9 o10 b10
  go_wp2_with fail
  refine (Least_no W H a4 n a4c zs w10 R10.out hm).mono ?_
  rintro e w11 ⟨rfl, b11⟩
  have K11 := K10.below b11 (by have := S10.out; omega)
  have HB11 := hide (below_call HB10.out b11)
  have HR11 := hide (HR10.out.mono b11)
  have HL11 := hide (HL10.out.mono b11)
  have HT11 := hide (HT10.out.mono b11)
  have S11 : Hid (w.heap.size < w11.heap.size) := hide (by have := S10.out; have := (b11).size; omega)
  have KX11 := KX10.below b11 (by have := SX10.out; omega)
  have SX11 : Hid (xb < w11.heap.size) := hide (by have := SX10.out; have := b11.size; omega)
  clear KX10 SX10
  clear K10 HB10 HR10 HL10 HT10 S10 b11 R10
  go_wp2_with (refine wpList_load_gd rfl (.tmp 2) rfl w.heap.size rfl K11 ?_)
  refine (SlideMay_any W H a n c zs w11 HR11.out).mono ?_
  rintro e w12 ⟨rfl, b12⟩
  have KX12 := KX11.below b12 (by have := SX11.out; omega)
  have SX12 : Hid (xb < w12.heap.size) := hide (by have := SX11.out; have := b12.size; omega)
  clear KX11 SX11
  have HB12 := hide (below_call HB11.out b12)
  clear K11 HB11 HR11 HL11 HT11 S11 b12
  rw [hm]
  go_wp2_with (refine wpList_load_gd rfl (.tmp 6) rfl xb rfl KX12 ?_)
  refine (noGrid_zero w12).mono ?_
  rintro e w13 ⟨rfl, b13⟩
  have HB13 := hide (below_call HB12.out b13)
  clear b13
  go_wp2_with fail
  go_ret
  exact ⟨rfl, HB13.out⟩

set_option maxRecDepth 100000 in
set_option maxHeartbeats 16000000 in
theorem moves_yes (W H : Nat) (a la : Option Addr) (n c ln lc g : Nat) (zs ls : List Int) (w : World) (hT : Tab w) (h : Rd w a n c zs) (hr : n * 8 ≤ 140737488351232) (hL : Rd w la ln lc ls) (hlr : ln * 8 ≤ 140737488351232) (hm : mayS W H zs) (hu : 2 ≤ W ∧ W ≤ 5) (hv : 2 ≤ H ∧ H ≤ 5) (hN : W * H = zs.length) (ho : IsOrd zs) (hg : ix zs 0 = g) :
    Calls Tryd.prog 3 #[.agg (gdA W H a n c), .slice la ln lc] w fun e w' => e = .returned (.bool true) ∧ Below w.heap.size w w' := by
  have hlen := h.len
  have hb := len_bd hu hv (hN.trans hlen)
  have hNn : W * H = n := hN.trans hlen
  obtain ⟨hgn, hgz⟩ := gap_lt hlen hg
  have HLB : Hid (0 < ln → ∀ b off, la = some ⟨b, off, none⟩ → b < w.heap.size) := hide (fun h0 b off e => by
    obtain ⟨b', off', e', hc⟩ := hL.cells h0
    rw [e] at e'
    cases e'
    exact World.block_lt_of_cell? w _ (hc 0 h0))
  have HAB : Hid (∀ b off, a = some ⟨b, off, none⟩ → b < w.heap.size) := hide (fun b off e => by
    obtain ⟨b', off', e', hc⟩ := h.cells (by omega)
    rw [e] at e'
    cases e'
    exact World.block_lt_of_cell? w _ (hc 0 (by omega)))
  have HCE := hide (can_eq hu hv hNn ho hlen hgn hgz)
  have HLE := hide (lst_eq (W := W) ho hlen (by omega) hgn hgz)
  have HO := hide ho
  have HM := hide hm
  obtain ⟨w1, hw1⟩ : ∃ w1, w.alloc (.cells (gdA W H a n c) 24) = w1 := ⟨_, rfl⟩
  have B1 : Below w.heap.size w w1 := by rw [← hw1]; exact (Below.refl _ _).alloc (Nat.le_refl _) _
  have HB1 := hide B1
  have K1 : Gd w1 w.heap.size W H a n c := by rw [← hw1]; exact Gd.new _ _ _ _ _ _
  have HR1 := hide (h.mono B1)
  have HL1 := hide (hL.mono B1)
  have HT1 := hide (hT.mono B1)
  have S1 : Hid (w.heap.size < w1.heap.size) := hide (by rw [← hw1]; simp)
  have hllen := hL.len
  have hlcap := hL.cap
  have hlmax := hL.max
  unfold maxLen at hlmax
  clear h hL hT B1
  go_enter Tryd.func3, Tryd.ntmps3
  go_upto_region 1 with fail
  clear hw1
  go_wp2_with (refine wpList_load_gd rfl (.tmp 2) rfl w.heap.size rfl K1 ?_)
  refine (GridOf_own W H a n c zs w1 HR1.out hr).mono ?_
  rintro e w2 ⟨a1, a1c, rfl, o2, b2⟩
  have R2 := hide (Rd.of_own o2)
  have K2 := K1.below b2 (by have := S1.out; omega)
  have HB2 := hide (below_call HB1.out b2)
  have HR2 := hide (HR1.out.mono b2)
  have HL2 := hide (HL1.out.mono b2)
  have HT2 := hide (HT1.out.mono b2)
  have S2 : Hid (w.heap.size < w2.heap.size) := hide (by have := S1.out; have := (b2).size; omega)
  clear o2
  clear K1 HB1 HR1 HL1 HT1 S1 b2
  go_wp2_with fail
  refine (May_any W H a1 n a1c zs w2 R2.out).mono ?_
  rintro e w3 ⟨rfl, b3⟩
  have K3 := K2.below b3 (by have := S2.out; omega)
  have HB3 := hide (below_call HB2.out b3)
  have HR3 := hide (HR2.out.mono b3)
  have HL3 := hide (HL2.out.mono b3)
  have HT3 := hide (HT2.out.mono b3)
  have S3 : Hid (w.heap.size < w3.heap.size) := hide (by have := S2.out; have := (b3).size; omega)
  clear R2
  clear K2 HB2 HR2 HL2 HT2 S2 b3
  rw [mayB_yes HM.out]
  go_wp2_with (refine wpList_load_gd rfl (.tmp 2) rfl w.heap.size rfl K3 ?_)
  refine (GridOf_own W H a n c zs w3 HR3.out hr).mono ?_
  rintro e w4 ⟨a2, a2c, rfl, o4, b4⟩
  have R4 := hide (Rd.of_own o4)
  have K4 := K3.below b4 (by have := S3.out; omega)
  have HB4 := hide (below_call HB3.out b4)
  have HR4 := hide (HR3.out.mono b4)
  have HL4 := hide (HL3.out.mono b4)
  have HT4 := hide (HT3.out.mono b4)
  have S4 : Hid (w.heap.size < w4.heap.size) := hide (by have := S3.out; have := (b4).size; omega)
  clear o4
  clear K3 HB3 HR3 HL3 HT3 S3 b4
  go_wp2_with fail
  refine (lints_own la ln lc ls w4 HL4.out hlr).mono ?_
  rintro e w5 ⟨l1, l1c, rfl, o5, b5⟩
  have RL5 := hide (Rd.of_own o5)
  have R5 := hide (R4.out.mono b5)
  have K5 := K4.below b5 (by have := S4.out; omega)
  have HB5 := hide (below_call HB4.out b5)
  have HR5 := hide (HR4.out.mono b5)
  have HL5 := hide (HL4.out.mono b5)
  have HT5 := hide (HT4.out.mono b5)
  have S5 : Hid (w.heap.size < w5.heap.size) := hide (by have := S4.out; have := (b5).size; omega)
  clear K4 HB4 HR4 HL4 HT4 S4 R4 o5 b5
  go_wp2_with fail
  refine (Do_yes W H a2 l1 n a2c ln l1c g zs ls w5 HT5.out R5.out RL5.out HM.out hu hv hN hg hgn).mono ?_
  rintro e w6 ⟨xcb, xc, rfl, bx, -, b6⟩
  have K6 := K5.below b6 (by have := S5.out; omega)
  have HB6 := hide (below_call HB5.out b6)
  have HR6 := hide (HR5.out.mono b6)
  have HL6 := hide (HL5.out.mono b6)
  have HT6 := hide (HT5.out.mono b6)
  have S6 : Hid (w.heap.size < w6.heap.size) := hide (by have := S5.out; have := (b6).size; omega)
  have BX6 := hide bx
  clear K5 HB5 HR5 HL5 HT5 S5 R5 RL5 b6 bx
  generalize hRR : runA W H zs g 0 ls = RR at *
  have HRR := hide hRR
  clear hRR
  obtain ⟨m0, hm0⟩ : ∃ m0, RR.2.1 = m0 := ⟨_, rfl⟩
  obtain ⟨e0, he0⟩ : ∃ e0, errR RR.2.2 = e0 := ⟨_, rfl⟩
  rw [hm0, he0]
  have HM0 := hide hm0
  have HE0 := hide he0
  clear hm0 he0
  go_upto_region 3 with fail
  obtain ⟨w7, hw7⟩ : ∃ w7, w6.alloc (Obj.cells (gdA W H (some ⟨xcb, 0, none⟩) n xc) 24) = w7 := ⟨_, rfl⟩
  rw [hw7]
  have b7 : Below w6.heap.size w6 w7 := by rw [← hw7]; exact (Below.refl _ w6).alloc (Nat.le_refl _) _
  have KX7 : Gd w7 w6.heap.size W H (some ⟨xcb, 0, none⟩) n xc := by rw [← hw7]; exact Gd.new _ _ _ _ _ _
  have SX7 : Hid (w6.heap.size < w7.heap.size) := hide (by rw [← hw7]; simp)
  have BX7 := hide (BX6.out.mono b7)
  clear hw7
  have K7 := K6.below b7 (by have := S6.out; omega)
  have HB7 := hide (below_call HB6.out b7)
  have HR7 := hide (HR6.out.mono b7)
  have HL7 := hide (HL6.out.mono b7)
  have HT7 := hide (HT6.out.mono b7)
  have S7 : Hid (w.heap.size < w7.heap.size) := hide (by have := S6.out; have := (b7).size; omega)
  have SXW : Hid (w.heap.size < w6.heap.size) := S6
  generalize w6.heap.size = xb at *
  clear K6 HB6 HR6 HL6 HT6 S6 b7 BX6
  go_wp2_with (refine wpList_load_gd rfl (.tmp 2) rfl w.heap.size rfl K7 ?_)
  refine (GridOf_own W H a n c zs w7 HR7.out hr).mono ?_
  rintro e w8 ⟨a3, a3c, rfl, o8, b8⟩
  have R8 := hide (Rd.of_own o8)
  have K8 := K7.below b8 (by have := S7.out; omega)
  have HB8 := hide (below_call HB7.out b8)
  have HR8 := hide (HR7.out.mono b8)
  have HL8 := hide (HL7.out.mono b8)
  have HT8 := hide (HT7.out.mono b8)
  have S8 : Hid (w.heap.size < w8.heap.size) := hide (by have := S7.out; have := (b8).size; omega)
  have KX8 := KX7.below b8 (by have := SX7.out; omega)
  have SX8 : Hid (xb < w8.heap.size) := hide (by have := SX7.out; have := (b8).size; omega)
  have BX8 := hide (BX7.out.mono b8)
  clear o8
  clear K7 HB7 HR7 HL7 HT7 S7 b8 KX7 SX7 BX7
  go_wp2_with fail
  refine (Can_yes W H a3 n a3c g zs w8 R8.out HM.out hu hv hN HO.out hg hgn).mono ?_
  rintro e w9 ⟨rfl, b9⟩
  have K9 := K8.below b9 (by have := S8.out; omega)
  have HB9 := hide (below_call HB8.out b9)
  have HR9 := hide (HR8.out.mono b9)
  have HL9 := hide (HL8.out.mono b9)
  have HT9 := hide (HT8.out.mono b9)
  have S9 : Hid (w.heap.size < w9.heap.size) := hide (by have := S8.out; have := (b9).size; omega)
  have KX9 := KX8.below b9 (by have := SX8.out; omega)
  have SX9 : Hid (xb < w9.heap.size) := hide (by have := SX8.out; have := (b9).size; omega)
  have BX9 := hide (BX8.out.mono b9)
  clear R8
  clear K8 HB8 HR8 HL8 HT8 S8 b9 KX8 SX8 BX8
  go_wp2_with (refine wpList_load_gd rfl (.tmp 2) rfl w.heap.size rfl K9 ?_)
  refine (GridOf_own W H a n c zs w9 HR9.out hr).mono ?_
  rintro e w10 ⟨a4, a4c, rfl, o10, b10⟩
  have R10 := hide (Rd.of_own o10)
  have K10 := K9.below b10 (by have := S9.out; omega)
  have HB10 := hide (below_call HB9.out b10)
  have HR10 := hide (HR9.out.mono b10)
  have HL10 := hide (HL9.out.mono b10)
  have HT10 := hide (HT9.out.mono b10)
  have S10 : Hid (w.heap.size < w10.heap.size) := hide (by have := S9.out; have := (b10).size; omega)
  have KX10 := KX9.below b10 (by have := SX9.out; omega)
  have SX10 : Hid (xb < w10.heap.size) := hide (by have := SX9.out; have := (b10).size; omega)
  have BX10 := hide (BX9.out.mono b10)
  clear o10
  clear K9 HB9 HR9 HL9 HT9 S9 b10 KX9 SX9 BX9
  go_wp2_with fail
  refine (Least_yes W H a4 n a4c g zs w10 R10.out HM.out hu hv hN HO.out hg hgn).mono ?_
  rintro e w11 ⟨rfl, b11⟩
  have K11 := K10.below b11 (by have := S10.out; omega)
  have HB11 := hide (below_call HB10.out b11)
  have HR11 := hide (HR10.out.mono b11)
  have HL11 := hide (HL10.out.mono b11)
  have HT11 := hide (HT10.out.mono b11)
  have S11 : Hid (w.heap.size < w11.heap.size) := hide (by have := S10.out; have := (b11).size; omega)
  have KX11 := KX10.below b11 (by have := SX10.out; omega)
  have SX11 : Hid (xb < w11.heap.size) := hide (by have := SX10.out; have := (b11).size; omega)
  have BX11 := hide (BX10.out.mono b11)
  clear R10
  clear K10 HB10 HR10 HL10 HT10 S10 b11 KX10 SX10 BX10
  go_wp2_with (refine wpList_load_gd rfl (.tmp 2) rfl w.heap.size rfl K11 ?_)
  refine (SlideMay_any W H a n c zs w11 HR11.out).mono ?_
  rintro e w12 ⟨rfl, b12⟩
  have K12 := K11.below b12 (by have := S11.out; omega)
  have HB12 := hide (below_call HB11.out b12)
  have HR12 := hide (HR11.out.mono b12)
  have HL12 := hide (HL11.out.mono b12)
  have HT12 := hide (HT11.out.mono b12)
  have S12 : Hid (w.heap.size < w12.heap.size) := hide (by have := S11.out; have := (b12).size; omega)
  have KX12 := KX11.below b12 (by have := SX11.out; omega)
  have SX12 : Hid (xb < w12.heap.size) := hide (by have := SX11.out; have := (b12).size; omega)
  have BX12 := hide (BX11.out.mono b12)
  clear K11 HB11 HR11 HL11 HT11 S11 b12 KX11 SX11 BX11
  rw [mayB_yes HM.out]
  generalize hCC : decide (pairs (hms zs n) % 2 = dst W g (hom zs n g) % 2) = CC at *
  have hll := lst_le (g := g) (zs := zs) hu (by omega) (Nat.le_refl n)
  generalize hLL : lst W zs n g n = LL at *
  have HCC : Hid (canR zs W H n g = CC) := HCE
  have HLL : Hid (LL = lsr W zs (n - 1)) := HLE
  clear hCC hLL HCE HLE
  go_wp2_with (refine wpList_load_gd rfl (.tmp 2) rfl w.heap.size rfl K12 ?_)
  refine (GridOf_bw W H a n c zs w12 HR12.out (by omega)).mono ?_
  rintro e w13 ⟨cb, cc, rfl, bw, -, b13⟩
  have K13 := K12.below b13 (by have := S12.out; omega)
  have HB13 := hide (below_call HB12.out b13)
  have HR13 := hide (HR12.out.mono b13)
  have HL13 := hide (HL12.out.mono b13)
  have HT13 := hide (HT12.out.mono b13)
  have S13 : Hid (w.heap.size < w13.heap.size) := hide (by have := S12.out; have := (b13).size; omega)
  have KX13 := KX12.below b13 (by have := SX12.out; omega)
  have SX13 : Hid (xb < w13.heap.size) := hide (by have := SX12.out; have := (b13).size; omega)
  have BX13 := hide (BX12.out.mono b13)
  have BN13 := hide bw
  clear K12 HB12 HR12 HL12 HT12 S12 b13 KX12 SX12 BX12
  clear bw
  go_upto_region 8 with fail
  obtain ⟨w14, hw14⟩ : ∃ w14, w13.alloc (Obj.cells (gdA W H (some ⟨cb, 0, none⟩) n cc) 24) = w14 := ⟨_, rfl⟩
  rw [hw14]
  have b14 : Below w13.heap.size w13 w14 := by rw [← hw14]; exact (Below.refl _ w13).alloc (Nat.le_refl _) _
  have KN14 : Gd w14 w13.heap.size W H (some ⟨cb, 0, none⟩) n cc := by rw [← hw14]; exact Gd.new _ _ _ _ _ _
  have SN14 : Hid (w13.heap.size < w14.heap.size) := hide (by rw [← hw14]; simp)
  have BN14 := hide (BN13.out.mono b14)
  clear hw14
  have K14 := K13.below b14 (by have := S13.out; omega)
  have HB14 := hide (below_call HB13.out b14)
  have HR14 := hide (HR13.out.mono b14)
  have HL14 := hide (HL13.out.mono b14)
  have HT14 := hide (HT13.out.mono b14)
  have S14 : Hid (w.heap.size < w14.heap.size) := hide (by have := S13.out; have := (b14).size; omega)
  have KX14 := KX13.below b14 (by have := SX13.out; omega)
  have SX14 : Hid (xb < w14.heap.size) := hide (by have := SX13.out; have := (b14).size; omega)
  have BX14 := hide (BX13.out.mono b14)
  have SNX : Hid (xb < w13.heap.size) := SX13
  have SNW : Hid (w.heap.size < w13.heap.size) := S13
  generalize w13.heap.size = nb at *
  clear K13 HB13 HR13 HL13 HT13 S13 b14 KX13 SX13 BX13
  clear BN13
  have hxlt := BX14.out.lt
  have hnx : xcb ≠ nb := BX14.out.notCells KN14 (by decide)
  go_wp2_with fail
  go_loopw [14, 15, 16] (fun v14 v15 v16 wr => ∃ (i mk q cb cc : Nat) (Z : List Int) (okf : Bool), v14 = .int .i64 mk ∧ v15 = .int .i64 (errR okf) ∧ v16 = .int .i64 i ∧ i ≤ ln ∧ mk ≤ ln ∧ (okf = true → i = mk) ∧ Hid (okf = true → runA W H Z q mk (ls.drop mk) = RR) ∧ Hid (okf = false → (Z, mk, false) = RR) ∧ ix Z 0 = q ∧ Hid (IsOrd Z) ∧ Hid (Gd wr nb W H (some ⟨cb, 0, none⟩) n cc) ∧ Hid (Bw wr cb n cc Z) ∧ Hid (Keeps (fun k => k = nb ∨ w14.heap.size ≤ k) w14 wr)) (fun _ _ v16 _ => ln - (intOf v16).toNat)
  case atStart => exact ⟨0, 0, g, cb, cc, zs, true, rfl, rfl, rfl, by omega, by omega, fun _ => rfl, hide (fun _ => HRR.out), hide (fun h => by cases h), hg, HO, hide KN14, BN14, hide (Keeps.refl _ _)⟩
  case round =>
    obtain ⟨i, mk, q, cb, cc, Z, okf, rfl, rfl, rfl, hi, hmk, hik, HRU, HST, hq, HOZ, HKN, HBN, HK⟩ := hrel
    have hZl : Z.length = n := HBN.out.rd.len
    obtain ⟨hqn, hqz⟩ := gap_lt hZl hq
    have HLr := hide (HL14.out.keepsN HK.out (fun h0 b off e => by have := HLB.out h0 b off e; have := SNW.out; have := S14.out; omega))
    have HRr := hide (HR14.out.keeps HK.out (fun b off e => by have := HAB.out b off e; have := SNW.out; have := S14.out; omega))
    by_cases hgo : okf = true ∧ i < ln
    · obtain ⟨rfl, hil⟩ := hgo
      obtain rfl : i = mk := hik rfl
      have e00 : errR true = 0 := rfl
      rw [e00]
      have hlt' : (i : Int) < (ln : Int) := by omega
      have HRU2 := hide (HRU.out rfl)
      rw [drop_one ls i (by omega)] at HRU2
      obtain ⟨lb, loff, rfl, hlc⟩ := HLr.out.cells (by omega)
      have hck := hlc i hil
      clear hlc HRU HST hik
      generalize ls.getD i 0 = d at *
      have KNr := HKN.out
      have HCL := hide (SlideMove_any W H (some ⟨cb, 0, none⟩) n cc q Z d)
      obtain ⟨cd, hcd⟩ : ∃ cd, canD W H q d = cd := ⟨_, rfl⟩
      have HCD := hide hcd
      rw [hcd] at HCL
      clear hcd
      obtain ⟨Z2, hZ2⟩ : ∃ Z2, stpZ W H Z q d = Z2 := ⟨_, rfl⟩
      have HZ2 := hide hZ2
      rw [hZ2] at HCL
      clear hZ2
      go_upto_region 13 with fail
      refine wp_region_held (S := fun W4 => Keeps (fun _ => False) wr W4) (by kernel_rfl) ?_
      change wpAnyH _ _ _ _ _ _ _ _ (World.drew _)
      have SW : Keeps (fun _ => False) wr wr.drew := (Keeps.refl _ wr).drew
      refine wpAnyH_take (i := 0) (v := .agg (gdA W H (some ⟨cb, 0, none⟩) n cc)) rfl (by kernel_rfl) (by kernel_rfl) (by kernel_rfl) (fun _ _ _ h => h) (yieldsIf_load_mid (by rfl) 24 _ rfl nb 0 (by rfl) (gdA W H (some ⟨cb, 0, none⟩) n cc).toList _ (fun W4 hW4 => World.rangeAt_of_block (KNr.keeps hW4 (fun h => h)) 0 3) Tryd.underlying24 rfl (by exact size24)) SW ?_
      go_simp
      refine wpAnyH_take (i := 1) (v := .slice (some ⟨lb, loff, none⟩) ln lc) rfl (by kernel_rfl) (by kernel_rfl) (by kernel_rfl) (fun _ _ _ h => h) (Or.inl ⟨by rfl, ?_⟩) SW ?_
      · intro W4 hW4
        go_simp <;> first | done | rfl | (rw [IntKind.wrap_i64]; omega) | omega
      go_simp
      refine wpAnyH_take (i := 2) (v := .int .i64 i) rfl (by kernel_rfl) (by kernel_rfl) (by kernel_rfl) (fun _ _ _ h => h) (Or.inl ⟨by rfl, ?_⟩) SW ?_
      · intro W4 hW4
        go_simp <;> first | done | rfl | (rw [IntKind.wrap_i64]; omega) | omega
      go_simp
      refine wpAnyH_take (i := 3) (v := .pointer (some ⟨lb, loff + i, none⟩)) rfl (by kernel_rfl) (by kernel_rfl) (by kernel_rfl) (fun _ _ _ h => h) (Or.inl ⟨by rfl, ?_⟩) SW ?_
      · intro W4 hW4
        go_simp <;> first | done | rfl | (rw [IntKind.wrap_i64]; omega) | omega
      go_simp
      refine wpAnyH_take (i := 4) (v := .int .i64 d) rfl (by kernel_rfl) (by kernel_rfl) (by kernel_rfl) (fun _ _ _ h => h) (Or.inl ⟨by rfl, ?_⟩) SW ?_
      · intro W4 hW4
        have hc := hW4.cell hck (fun h => h)
        go_simp <;> first | done | rfl | (rw [IntKind.wrap_i64]; omega) | omega
      go_simp
      refine wpAnyH_ready (rs := [5, 9]) (by kernel_rfl) (by simp) ?_
      refine AllReadyH.cons rfl (fun K1 hK1 => ?_) (AllReadyH.cons rfl (fun K1 hK1 => ?_) AllReadyH.nil)
      · go_simp
        refine (HCL.out _ (HBN.out.keeps SW (fun h => h)).rd hu hv hNn hq).mono ?_
        rintro e w15 ⟨cb2, cc2, rfl, bw2, b15⟩
        have hcb2 := bw2.lt
        have HBW15 := hide bw2
        clear bw2
        refine hK1.out _ _ (SW.trans (Keeps.of_all b15)) (fun SW => ?_)
        clear hK1 K1
        go_simp
        refine wpAnyH_take (i := 6) (v := .tuple #[.agg (gdA W H (some ⟨cb2, 0, none⟩) n cc2), .bool cd]) rfl (by kernel_rfl) (by kernel_rfl) (by kernel_rfl) (fun _ _ _ h => h) (Or.inl ⟨by rfl, ?_⟩) SW ?_
        · intro W4 hW4
          go_simp <;> first | done | rfl | (rw [IntKind.wrap_i64]; omega) | omega
        go_simp
        refine wpAnyH_take (i := 7) (v := .agg (gdA W H (some ⟨cb2, 0, none⟩) n cc2)) rfl (by kernel_rfl) (by kernel_rfl) (by kernel_rfl) (fun _ _ _ h => h) (Or.inl ⟨by rfl, ?_⟩) SW ?_
        · intro W4 hW4
          go_simp <;> first | done | rfl | (rw [IntKind.wrap_i64]; omega) | omega
        go_simp
        refine wpAnyH_take (i := 8) (v := .bool cd) rfl (by kernel_rfl) (by kernel_rfl) (by kernel_rfl) (fun _ _ _ h => h) (Or.inl ⟨by rfl, ?_⟩) SW ?_
        · intro W4 hW4
          go_simp <;> first | done | rfl | (rw [IntKind.wrap_i64]; omega) | omega
        go_simp
        refine wpAnyH_ready (rs := [9]) (by kernel_rfl) (by simp) ?_
        refine AllReadyH.cons rfl (fun K1 hK1 => ?_) AllReadyH.nil
        go_simp
        have SWa : Keeps (fun _ => False) wr (w15.alloc (.cells (gdA 0 0 none 0 0) 24)) := SW.alloc _
        refine hK1.out _ _ SWa (fun SW => ?_)
        clear hK1 K1 SWa
        have G0 := Gd.new w15 0 0 none 0 0
        have HBW0 := HBW15.out.keeps (X := fun _ => False) (Keeps.of_all ((Below.refl _ w15).alloc (Nat.le_refl _) (.cells (gdA 0 0 none 0 0) 24))) (fun h => h)
        have hnk : wr.heap.size ≤ w15.heap.size := Nat.le_trans (Nat.le_refl _) b15.size
        obtain ⟨nk, hnke⟩ : ∃ nk, w15.heap.size = nk := ⟨_, rfl⟩
        rw [hnke] at G0 hnk hcb2
        go_simp
        refine wpAnyH_ready (rs := [10]) (by kernel_rfl) (by simp) ?_
        refine AllReadyH.cons rfl (fun K1 hK1 => ?_) AllReadyH.nil
        refine wp_storeG (.tmp 17) (.tmp 95) rfl _ rfl rfl G0 ?_
        intro w16 k16 kk16
        refine hK1.out _ _ (SW.after kk16 (fun i hi e => by omega)) (fun SW => ?_)
        clear hK1 K1
        go_simp
        refine wpAnyH_ready (rs := [11]) (by kernel_rfl) (by simp) ?_
        refine AllReadyH.cons rfl (fun K1 hK1 => ?_) AllReadyH.nil
        go_simp
        refine hK1.out _ _ SW (fun SW => ?_)
        clear hK1 K1
        go_simp
        refine wpAnyH_done (by kernel_rfl) ?_ _
        have HGD16 := hide k16
        have HBW16 := hide (HBW0.keeps kk16 (by omega))
        have HKB := hide SW
        have hcbn : cb2 ≠ nb := HBW15.out.notCells (KNr.keeps ((Keeps.refl (fun _ => False) wr).drew.trans (Keeps.of_all b15)) (fun h => h)) (by decide)
        clear k16 kk16 SW G0 HBW0 HBW15 b15 hnke hnk
        cases cd with
        | false =>
          have HEX : Hid ((Z, i, false) = RR) := hide ((runA_stop HCD.out).symm.trans HRU2.out)
          have HK16 := hide (HK.out.trans (HKB.out.mono (fun _ _ h => h.elim)))
          have HKN16 := hide (HKN.out.keeps HKB.out (fun h => h))
          have HBN16 := hide (HBN.out.keeps HKB.out (fun h => h))
          clear HKN HBN HK HKB hck KNr
          go_wp2_with fail
          go_roundw
          case rel => exact ⟨i + 1, i, q, cb, cc, Z, false, rfl, rfl, by go_num, by omega, by omega, (fun h => by cases h), hide (fun h => by cases h), hide (fun _ => HEX.out), hq, HOZ, HKN16, HBN16, HK16⟩
          case measure => simp [intOf]; omega
        | true =>
          have hcd := HCD.out
          have HZE := HZ2.out
          rw [stpZ_yes hcd] at HZE
          have hdd : 0 ≤ d ∧ d < 4 := by
            unfold canD at hcd
            exact of_decide_eq_true (Bool.and_eq_true _ _ ▸ hcd).1
          obtain ⟨m, rfl⟩ := Int.eq_ofNat_of_zero_le hdd.1
          have hcm : cmv W H q m = true := by
            unfold canD at hcd
            have := (Bool.and_eq_true _ _ ▸ hcd).2
            rwa [Int.toNat_natCast] at this
          obtain ⟨r, hr, hrn⟩ := frm_nat hcm
          rw [hNn] at hrn
          have hrq := frm_ne hu.1 (by omega) hcm hr
          have HRU3 := (runA_go hcd).symm.trans HRU2.out
          rw [Int.toNat_natCast, hr, Int.toNat_natCast] at HZE HRU3
          have HRU4 := hide HRU3
          have HO2 : Hid (IsOrd Z2) := hide (by rw [← HZE]; exact mvl_ord HOZ.out hZl hqn hrn hqz hrq)
          have hq2 : ix Z2 0 = r := by rw [← HZE]; exact mvl_gap HOZ.out hZl hqn hrn hqz hrq
          rw [HZE] at HRU4
          have HKN16 := HKN.out.keeps HKB.out (fun h => h)
          have HGDo := HGD16.out
          clear HKN HBN hck KNr HRU3 HZE hcd hcm hr HRU2
          go_wp2_with (first
            | refine wpList_load_gd rfl (.tmp 17) rfl nk rfl HGDo ?_
            | (refine wpList_store_gd rfl (.tmp 13) (.tmp 99) rfl nb rfl rfl HKN16 ?_; intro w17 k17 kk17))
          have HKN17 := hide k17
          have HBN17 := hide (HBW16.out.keeps kk17 (by omega))
          have HK17 := hide ((HK.out.trans (HKB.out.mono (fun _ _ h => h.elim))).trans (kk17.mono (fun _ _ h => .inl h)))
          clear k17 kk17 HGD16 HBW16 HKB HK HGDo HKN16
          go_wp2_with fail
          go_roundw
          case rel => exact ⟨i + 1, i + 1, r, cb2, cc2, Z2, true, by go_num, rfl, by go_num, by omega, by omega, fun _ => rfl, hide (fun _ => HRU4.out), hide (fun h => by cases h), hq2, HO2, HKN17, HBN17, HK17⟩
          case measure => simp [intOf]; omega
      · go_simp
        have SWa : Keeps (fun _ => False) wr (wr.alloc (.cells (gdA 0 0 none 0 0) 24)).drew := ((Keeps.refl _ wr).alloc _).drew
        have G0 : Gd (wr.alloc (.cells (gdA 0 0 none 0 0) 24)).drew wr.heap.size 0 0 none 0 0 := Gd.new wr 0 0 none 0 0
        have sa : wr.heap.size < (wr.alloc (.cells (gdA 0 0 none 0 0) 24)).drew.heap.size := by simp
        obtain ⟨wa, hwa⟩ : ∃ wa, (wr.alloc (.cells (gdA 0 0 none 0 0) 24)).drew = wa := ⟨_, rfl⟩
        rw [hwa] at SWa G0 sa ⊢
        refine hK1.out _ _ SWa (fun SW => ?_)
        clear hK1 K1 hwa
        obtain ⟨nk, hnke⟩ : ∃ nk, wr.heap.size = nk := ⟨_, rfl⟩
        rw [hnke] at G0 sa
        go_simp
        refine wpAnyH_ready (rs := [5]) (by kernel_rfl) (by simp) ?_
        refine AllReadyH.cons rfl (fun K1 hK1 => ?_) AllReadyH.nil
        go_simp
        refine (HCL.out _ (HBN.out.keeps SWa (fun h => h)).rd hu hv hNn hq).mono ?_
        rintro e w15 ⟨cb2, cc2, rfl, bw2, b15⟩
        have hcb2 := bw2.lt
        have HBW15 := hide bw2
        clear bw2
        refine hK1.out _ _ (SW.trans (Keeps.of_all b15)) (fun SW => ?_)
        clear hK1 K1
        have G0 := G0.below b15 sa
        go_simp
        refine wpAnyH_take (i := 6) (v := .tuple #[.agg (gdA W H (some ⟨cb2, 0, none⟩) n cc2), .bool cd]) rfl (by kernel_rfl) (by kernel_rfl) (by kernel_rfl) (fun _ _ _ h => h) (Or.inl ⟨by rfl, ?_⟩) SW ?_
        · intro W4 hW4
          go_simp <;> first | done | rfl | (rw [IntKind.wrap_i64]; omega) | omega
        go_simp
        refine wpAnyH_take (i := 7) (v := .agg (gdA W H (some ⟨cb2, 0, none⟩) n cc2)) rfl (by kernel_rfl) (by kernel_rfl) (by kernel_rfl) (fun _ _ _ h => h) (Or.inl ⟨by rfl, ?_⟩) SW ?_
        · intro W4 hW4
          go_simp <;> first | done | rfl | (rw [IntKind.wrap_i64]; omega) | omega
        go_simp
        refine wpAnyH_take (i := 8) (v := .bool cd) rfl (by kernel_rfl) (by kernel_rfl) (by kernel_rfl) (fun _ _ _ h => h) (Or.inl ⟨by rfl, ?_⟩) SW ?_
        · intro W4 hW4
          go_simp <;> first | done | rfl | (rw [IntKind.wrap_i64]; omega) | omega
        go_simp
        have hcbk : cb2 ≠ nk := HBW15.out.notCells G0 (by decide)
        refine wpAnyH_ready (rs := [10]) (by kernel_rfl) (by simp) ?_
        refine AllReadyH.cons rfl (fun K1 hK1 => ?_) AllReadyH.nil
        refine wp_storeG (.tmp 17) (.tmp 95) rfl _ rfl rfl G0 ?_
        intro w16 k16 kk16
        refine hK1.out _ _ (SW.after kk16 (fun i hi e => by omega)) (fun SW => ?_)
        clear hK1 K1
        go_simp
        refine wpAnyH_ready (rs := [11]) (by kernel_rfl) (by simp) ?_
        refine AllReadyH.cons rfl (fun K1 hK1 => ?_) AllReadyH.nil
        go_simp
        refine hK1.out _ _ SW (fun SW => ?_)
        clear hK1 K1
        go_simp
        refine wpAnyH_done (by kernel_rfl) ?_ _
        have HGD16 := hide k16
        have HBW16 := hide (HBW15.out.keeps kk16 hcbk)
        have HKB := hide SW
        have hcbn : cb2 ≠ nb := HBW15.out.notCells (KNr.keeps (SWa.trans (Keeps.of_all b15)) (fun h => h)) (by decide)
        clear k16 kk16 SW G0 HBW15 b15 hnke SWa sa hcbk
        cases cd with
        | false =>
          have HEX : Hid ((Z, i, false) = RR) := hide ((runA_stop HCD.out).symm.trans HRU2.out)
          have HK16 := hide (HK.out.trans (HKB.out.mono (fun _ _ h => h.elim)))
          have HKN16 := hide (HKN.out.keeps HKB.out (fun h => h))
          have HBN16 := hide (HBN.out.keeps HKB.out (fun h => h))
          clear HKN HBN HK HKB hck KNr
          go_wp2_with fail
          go_roundw
          case rel => exact ⟨i + 1, i, q, cb, cc, Z, false, rfl, rfl, by go_num, by omega, by omega, (fun h => by cases h), hide (fun h => by cases h), hide (fun _ => HEX.out), hq, HOZ, HKN16, HBN16, HK16⟩
          case measure => simp [intOf]; omega
        | true =>
          have hcd := HCD.out
          have HZE := HZ2.out
          rw [stpZ_yes hcd] at HZE
          have hdd : 0 ≤ d ∧ d < 4 := by
            unfold canD at hcd
            exact of_decide_eq_true (Bool.and_eq_true _ _ ▸ hcd).1
          obtain ⟨m, rfl⟩ := Int.eq_ofNat_of_zero_le hdd.1
          have hcm : cmv W H q m = true := by
            unfold canD at hcd
            have := (Bool.and_eq_true _ _ ▸ hcd).2
            rwa [Int.toNat_natCast] at this
          obtain ⟨r, hr, hrn⟩ := frm_nat hcm
          rw [hNn] at hrn
          have hrq := frm_ne hu.1 (by omega) hcm hr
          have HRU3 := (runA_go hcd).symm.trans HRU2.out
          rw [Int.toNat_natCast, hr, Int.toNat_natCast] at HZE HRU3
          have HRU4 := hide HRU3
          have HO2 : Hid (IsOrd Z2) := hide (by rw [← HZE]; exact mvl_ord HOZ.out hZl hqn hrn hqz hrq)
          have hq2 : ix Z2 0 = r := by rw [← HZE]; exact mvl_gap HOZ.out hZl hqn hrn hqz hrq
          rw [HZE] at HRU4
          have HKN16 := HKN.out.keeps HKB.out (fun h => h)
          have HGDo := HGD16.out
          clear HKN HBN hck KNr HRU3 HZE hcd hcm hr HRU2
          go_wp2_with (first
            | refine wpList_load_gd rfl (.tmp 17) rfl nk rfl HGDo ?_
            | (refine wpList_store_gd rfl (.tmp 13) (.tmp 99) rfl nb rfl rfl HKN16 ?_; intro w17 k17 kk17))
          have HKN17 := hide k17
          have HBN17 := hide (HBW16.out.keeps kk17 (by omega))
          have HK17 := hide ((HK.out.trans (HKB.out.mono (fun _ _ h => h.elim))).trans (kk17.mono (fun _ _ h => .inl h)))
          clear k17 kk17 HGD16 HBW16 HKB HK HGDo HKN16
          go_wp2_with fail
          go_roundw
          case rel => exact ⟨i + 1, i + 1, r, cb2, cc2, Z2, true, by go_num, rfl, by go_num, by omega, by omega, fun _ => rfl, hide (fun _ => HRU4.out), hide (fun h => by cases h), hq2, HO2, HKN17, HBN17, HK17⟩
          case measure => simp [intOf]; omega
    · have HEX : Hid ((Z, mk, okf) = RR) := hide (by
        cases okf with
        | false => exact HST.out rfl
        | true =>
          have hil : ¬ i < ln := fun h => hgo ⟨rfl, h⟩
          have := HRU.out rfl
          have he := hik rfl
          rw [List.drop_of_length_le (by omega)] at this
          exact this)
      have he0 : e0 = errR okf := by rw [← HE0.out, ← HEX.out]
      cases okf with
      | true =>
        have hlt' : ¬ (i : Int) < (ln : Int) := fun h => hgo ⟨rfl, by omega⟩
        obtain rfl : e0 = 0 := he0
        rw [show errR true = 0 from rfl]
        clear hgo HRU HST hik
        have hme : m0 = mk := by rw [← HM0.out, ← HEX.out]
        subst hme
        have hRR1 : RR.1 = Z := by rw [← HEX.out]
        have KXr := KX14.keeps HK.out (by have := SX14.out; have := SNX.out; omega)
        have Kr := K14.keeps HK.out (by have := S14.out; have := SNW.out; omega)
        have HXr := hide (BX14.out.keeps HK.out (by omega))
        rw [hRR1] at HXr
        have HBr := hide (HB14.out.trans ((HK.out.mono (Y := fun q => w.heap.size ≤ q) (fun q _ e => by have := S14.out; have := SNW.out; omega)).below (B := w.heap.size) HB14.out.size (fun q hq e => by omega)))
        have KNr := HKN.out
        go_wp2_with (first
          | refine wpList_load_gd rfl (.tmp 6) rfl xb rfl KXr ?_
          | refine wpList_load_gd rfl (.tmp 13) rfl nb rfl KNr ?_)
        refine (SameGrid_any W H (some ⟨xcb, 0, none⟩) (some ⟨cb, 0, none⟩) n xc cc Z Z wr HXr.out.rd HBN.out.rd).mono ?_
        rintro e w18 ⟨rfl, b18⟩
        rw [show decide (Z = Z) = true from decide_eq_true rfl]
        have K18 := Kr.below b18 (by have := HBr.out.size; have := Kr.lt; omega)
        have HR18 := hide (HRr.out.mono b18)
        have HB18 := hide (HBr.out.trans (b18.mono HBr.out.size))
        clear KXr Kr KNr b18
        go_wp2_with (refine wpList_load_gd rfl (.tmp 2) rfl w.heap.size rfl K18 ?_)
        refine (SlideCan_any W H a n c g zs w18 HR18.out hu hv hN HO.out hg hgn).mono ?_
        rintro e w19 ⟨rfl, b19⟩
        have K19 := K18.below b19 K18.lt
        have HR19 := hide (HR18.out.mono b19)
        have HB19 := hide (HB18.out.trans (b19.mono HB18.out.size))
        rw [HCC.out]
        clear K18 b19
        go_wp2_with (refine wpList_load_gd rfl (.tmp 2) rfl w.heap.size rfl K19 ?_)
        refine (SlideLeast_any W H a n c zs w19 HR19.out hu hv hN HO.out).mono ?_
        rintro e w20 ⟨rfl, b20⟩
        have HB20 := hide (HB19.out.trans (b20.mono HB19.out.size))
        rw [← HLL.out]
        clear K19 b20
        go_wp2_with fail
        go_ret
        exact ⟨ret_bool (by simp), HB20.out⟩
      | false =>
        obtain rfl : e0 = 8 := he0
        rw [show errR false = 8 from rfl]
        clear hgo HRU HST hik
        by_cases hil : i < ln
        · have hlt' : (i : Int) < (ln : Int) := by omega
          have hme : m0 = mk := by rw [← HM0.out, ← HEX.out]
          subst hme
          have hRR1 : RR.1 = Z := by rw [← HEX.out]
          have KXr := KX14.keeps HK.out (by have := SX14.out; have := SNX.out; omega)
          have Kr := K14.keeps HK.out (by have := S14.out; have := SNW.out; omega)
          have HXr := hide (BX14.out.keeps HK.out (by omega))
          rw [hRR1] at HXr
          have HBr := hide (HB14.out.trans ((HK.out.mono (Y := fun q => w.heap.size ≤ q) (fun q _ e => by have := S14.out; have := SNW.out; omega)).below (B := w.heap.size) HB14.out.size (fun q hq e => by omega)))
          have KNr := HKN.out
          go_wp2_with (first
            | refine wpList_load_gd rfl (.tmp 6) rfl xb rfl KXr ?_
            | refine wpList_load_gd rfl (.tmp 13) rfl nb rfl KNr ?_)
          refine (SameGrid_any W H (some ⟨xcb, 0, none⟩) (some ⟨cb, 0, none⟩) n xc cc Z Z wr HXr.out.rd HBN.out.rd).mono ?_
          rintro e w18 ⟨rfl, b18⟩
          rw [show decide (Z = Z) = true from decide_eq_true rfl]
          have K18 := Kr.below b18 (by have := HBr.out.size; have := Kr.lt; omega)
          have HR18 := hide (HRr.out.mono b18)
          have HB18 := hide (HBr.out.trans (b18.mono HBr.out.size))
          clear KXr Kr KNr b18
          go_wp2_with (refine wpList_load_gd rfl (.tmp 2) rfl w.heap.size rfl K18 ?_)
          refine (SlideCan_any W H a n c g zs w18 HR18.out hu hv hN HO.out hg hgn).mono ?_
          rintro e w19 ⟨rfl, b19⟩
          have K19 := K18.below b19 K18.lt
          have HR19 := hide (HR18.out.mono b19)
          have HB19 := hide (HB18.out.trans (b19.mono HB18.out.size))
          rw [HCC.out]
          clear K18 b19
          go_wp2_with (refine wpList_load_gd rfl (.tmp 2) rfl w.heap.size rfl K19 ?_)
          refine (SlideLeast_any W H a n c zs w19 HR19.out hu hv hN HO.out).mono ?_
          rintro e w20 ⟨rfl, b20⟩
          have HB20 := hide (HB19.out.trans (b20.mono HB19.out.size))
          rw [← HLL.out]
          clear K19 b20
          go_wp2_with fail
          go_ret
          exact ⟨ret_bool (by simp), HB20.out⟩
        · have hlt' : ¬ (i : Int) < (ln : Int) := by omega
          have hme : m0 = mk := by rw [← HM0.out, ← HEX.out]
          subst hme
          have hRR1 : RR.1 = Z := by rw [← HEX.out]
          have KXr := KX14.keeps HK.out (by have := SX14.out; have := SNX.out; omega)
          have Kr := K14.keeps HK.out (by have := S14.out; have := SNW.out; omega)
          have HXr := hide (BX14.out.keeps HK.out (by omega))
          rw [hRR1] at HXr
          have HBr := hide (HB14.out.trans ((HK.out.mono (Y := fun q => w.heap.size ≤ q) (fun q _ e => by have := S14.out; have := SNW.out; omega)).below (B := w.heap.size) HB14.out.size (fun q hq e => by omega)))
          have KNr := HKN.out
          go_wp2_with (first
            | refine wpList_load_gd rfl (.tmp 6) rfl xb rfl KXr ?_
            | refine wpList_load_gd rfl (.tmp 13) rfl nb rfl KNr ?_)
          refine (SameGrid_any W H (some ⟨xcb, 0, none⟩) (some ⟨cb, 0, none⟩) n xc cc Z Z wr HXr.out.rd HBN.out.rd).mono ?_
          rintro e w18 ⟨rfl, b18⟩
          rw [show decide (Z = Z) = true from decide_eq_true rfl]
          have K18 := Kr.below b18 (by have := HBr.out.size; have := Kr.lt; omega)
          have HR18 := hide (HRr.out.mono b18)
          have HB18 := hide (HBr.out.trans (b18.mono HBr.out.size))
          clear KXr Kr KNr b18
          go_wp2_with (refine wpList_load_gd rfl (.tmp 2) rfl w.heap.size rfl K18 ?_)
          refine (SlideCan_any W H a n c g zs w18 HR18.out hu hv hN HO.out hg hgn).mono ?_
          rintro e w19 ⟨rfl, b19⟩
          have K19 := K18.below b19 K18.lt
          have HR19 := hide (HR18.out.mono b19)
          have HB19 := hide (HB18.out.trans (b19.mono HB18.out.size))
          rw [HCC.out]
          clear K18 b19
          go_wp2_with (refine wpList_load_gd rfl (.tmp 2) rfl w.heap.size rfl K19 ?_)
          refine (SlideLeast_any W H a n c zs w19 HR19.out hu hv hN HO.out).mono ?_
          rintro e w20 ⟨rfl, b20⟩
          have HB20 := hide (HB19.out.trans (b20.mono HB19.out.size))
          rw [← HLL.out]
          clear K19 b20
          go_wp2_with fail
          go_ret
          exact ⟨ret_bool (by simp), HB20.out⟩

theorem moves_any (W H : Int) (a : Option Addr) (n c : Nat) (zs : List Int) (la : Option Addr) (ln lc : Nat) (ls : List Int) (w : World) (hT : Tab w) (h : Rd w a n c zs) (hr : n * 8 ≤ 140737488351232) (hL : Rd w la ln lc ls) (hlr : ln * 8 ≤ 140737488351232) :
    Calls Tryd.prog 3 #[.agg (gdA W H a n c), .slice la ln lc] w fun e w' => e = .returned (.bool true) ∧ Below w.heap.size w w' := by
  by_cases hm : mayS W H zs
  · obtain ⟨u, v, rfl, rfl, hu, hv, hN, ho⟩ := may_nat hm
    obtain ⟨g, hg, -, -⟩ := ho.gap (n := zs.length) rfl (by have := len_bd hu hv hN; omega)
    exact moves_yes u v a la n c ln lc g zs ls w hT h hr hL hlr hm hu hv hN ho hg
  · exact moves_no W H a la n c ln lc zs ls w hT h hr hL hlr (mayB_no hm)


end Go.Proofs.YticalbpohhpjaaaDoor
