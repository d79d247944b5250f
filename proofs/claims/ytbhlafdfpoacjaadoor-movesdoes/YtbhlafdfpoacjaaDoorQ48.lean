/-
  Chess: the face Result, walked. No conditions beyond those that each theorem bears.
  Chess: the document's material, walked. No conditions beyond those that each theorem bears.
-/
import Derived.Test.YtbhlafdfpoacjaaDoorQ47
import Derived.Test.YtbhlafdfpoacjaaDoorQ13
namespace Go.Proofs.YtbhlafdfpoacjaaDoor
open Go.RowKit Go.Shelf

/-- Whether the mover's king is attacked. -/
def ckP (p : Ps) : Bool := decide (atk p.Z (kf p.Z p.t) (1 - p.t) ≠ [])
/-- What comes of a position. -/
def resP (p : Ps) : Int := if (mvs p).isEmpty = true then (if ckP p = true then 1 else 2) else if tl p.Z = true then 3 else if 100 ≤ p.h then 4 else 0

attribute [local irreducible] mvs tl mS ckP

set_option maxRecDepth 100000 in
set_option maxHeartbeats 2000000 in
theorem mated_any (b : Nat) (p : Ps) (hM : MayP p) (w : World) (hs : Sp w b p) (hT : TabS w) (hZ : TzT w) :
    Calls Tryd.prog 32 #[.pointer (some ⟨b, 0, none⟩)] w fun r w' => r = .returned (.bool (ckP p && (mvs p).isEmpty)) ∧ Below w.heap.size w w' := by
  have HCA : Hid (∀ W, Below w.heap.size w W → Calls Tryd.prog 71 #[.pointer (some ⟨b, 0, none⟩)] W fun r w' => r = .returned (.bool (!(mvs p).isEmpty)) ∧ Below W.heap.size W w') := hide (fun W hb => canMove_any b p hM W (hs.mono hb) (hT.mono hb) (hZ.mono hb))
  have HIC : Hid (Calls Tryd.prog 70 #[.pointer (some ⟨b, 0, none⟩)] w fun r w' => r = .returned (.bool (ckP p)) ∧ Below w.heap.size w w') := hide (by
    have := inCheckS_any b p.Z p.t (p.k : Nat) p.e (p.h : Nat) (p.f : Nat) hM.t1 (kf p.Z p.t) (kf_kg hM.st p.t).fst w hs hT
    unfold ckP
    exact this)
  generalize (mvs p).isEmpty = me at *
  generalize ckP p = cb at *
  clear hs hT hZ hM
  go_enter Tryd.func32, Tryd.ntmps32
  go_wp2_with fail
  refine HIC.out.mono ?_
  rintro r w1 ⟨rfl, hb1⟩
  have HB1 := hide hb1
  clear hb1
  cases cb with
  | false =>
    go_wp2_with fail
    go_ret
    exact ⟨rfl, HB1.out⟩
  | true =>
    go_wp2_with fail
    refine (HCA.out _ HB1.out).mono ?_
    rintro r w2 ⟨rfl, hb2⟩
    have HB2 : Hid (Below w.heap.size w w2) := hide (HB1.out.trans (hb2.mono HB1.out.size))
    clear hb2
    cases me with
    | false =>
      go_wp2_with fail
      go_ret
      exact ⟨rfl, HB2.out⟩
    | true =>
      go_wp2_with fail
      go_ret
      exact ⟨rfl, HB2.out⟩

set_option maxRecDepth 100000 in
set_option maxHeartbeats 2000000 in
theorem stuck_any (b : Nat) (p : Ps) (hM : MayP p) (w : World) (hs : Sp w b p) (hT : TabS w) (hZ : TzT w) :
    Calls Tryd.prog 33 #[.pointer (some ⟨b, 0, none⟩)] w fun r w' => r = .returned (.bool (!(ckP p) && (mvs p).isEmpty)) ∧ Below w.heap.size w w' := by
  have HCA : Hid (∀ W, Below w.heap.size w W → Calls Tryd.prog 71 #[.pointer (some ⟨b, 0, none⟩)] W fun r w' => r = .returned (.bool (!(mvs p).isEmpty)) ∧ Below W.heap.size W w') := hide (fun W hb => canMove_any b p hM W (hs.mono hb) (hT.mono hb) (hZ.mono hb))
  have HIC : Hid (Calls Tryd.prog 70 #[.pointer (some ⟨b, 0, none⟩)] w fun r w' => r = .returned (.bool (ckP p)) ∧ Below w.heap.size w w') := hide (by
    have := inCheckS_any b p.Z p.t (p.k : Nat) p.e (p.h : Nat) (p.f : Nat) hM.t1 (kf p.Z p.t) (kf_kg hM.st p.t).fst w hs hT
    unfold ckP
    exact this)
  generalize (mvs p).isEmpty = me at *
  generalize ckP p = cb at *
  clear hs hT hZ hM
  go_enter Tryd.func33, Tryd.ntmps33
  go_wp2_with fail
  refine HIC.out.mono ?_
  rintro r w1 ⟨rfl, hb1⟩
  have HB1 := hide hb1
  clear hb1
  cases cb with
  | true =>
    go_wp2_with fail
    go_ret
    exact ⟨rfl, HB1.out⟩
  | false =>
    go_wp2_with fail
    refine (HCA.out _ HB1.out).mono ?_
    rintro r w2 ⟨rfl, hb2⟩
    have HB2 : Hid (Below w.heap.size w w2) := hide (HB1.out.trans (hb2.mono HB1.out.size))
    clear hb2
    cases me with
    | false =>
      go_wp2_with fail
      go_ret
      exact ⟨rfl, HB2.out⟩
    | true =>
      go_wp2_with fail
      go_ret
      exact ⟨rfl, HB2.out⟩

section
variable (a : Option Addr) (n c : Nat) (Z : List Int) (t k e h f : Int) (he1 : -9223372036854775808 ≤ e) (he2 : e ≤ 9223372036854775807) (w : World) (hz : Rd w a n c Z) (hT : Tabs w)
include he1 he2 hz hT
set_option maxRecDepth 100000 in
set_option maxHeartbeats 1000000 in
theorem Result_no (hM : ¬ MayC Z t k e h f) :
    Calls Tryd.prog 9 #[.agg (chA a n c t k e h f)] w fun r w' => r = .returned (.tuple #[.int .i64 0, .int .i64 12]) ∧ Below w.heap.size w w' := by
  obtain ⟨w1, hw1⟩ : ∃ w1, w.alloc (.cells (chA a n c t k e h f) 24) = w1 := ⟨_, rfl⟩
  have B1 : Below w.heap.size w w1 := by rw [← hw1]; exact (Below.refl _ w).alloc (Nat.le_refl _) _
  have C1 : Ch w1 w.heap.size a n c t k e h f := by rw [← hw1]; exact Ch.new w a n c t k e h f
  have HMA := hide (Material_no a n c Z t k e h f he1 he2 w1 (hz.mono B1) (hT.mono B1) hM)
  have HB1 := hide B1
  clear B1 hz hT
  go_enter Tryd.func9, Tryd.ntmps9
  go_upto_region 1 with fail
  clear hw1
  go_wp2_with (refine wpList_load_ch rfl (.tmp 1) rfl w.heap.size rfl C1 ?_)
  refine HMA.out.mono ?_
  rintro r w2 ⟨rfl, hb2⟩
  have HB2 := hide (HB1.out.trans (hb2.mono HB1.out.size))
  clear hb2
  go_wp2_with fail
  go_ret2
  exact ⟨rfl, HB2.out⟩
end

section
variable (a : Option Addr) (c : Nat) (p : Ps) (hM : MayP p) (w : World) (hz : Rd w a 64 c p.Z) (hT : Tabs w)
include hM hz hT
set_option maxRecDepth 100000 in
set_option maxHeartbeats 4000000 in
theorem Result_yes (hW : TabW w) :
    Calls Tryd.prog 9 #[.agg (chP a c p)] w fun r w' => r = .returned (.tuple #[.int .i64 (resP p), .int .i64 0]) ∧ Below w.heap.size w w' := by
  obtain ⟨w1, hw1⟩ : ∃ w1, w.alloc (.cells (chP a c p) 24) = w1 := ⟨_, rfl⟩
  have B1 : Below w.heap.size w w1 := by rw [← hw1]; exact (Below.refl _ w).alloc (Nat.le_refl _) _
  have C1 : Ch w1 w.heap.size a 64 c (p.t : Nat) (p.k : Nat) p.e (p.h : Nat) (p.f : Nat) := by rw [← hw1]; exact Ch.new w a 64 c _ _ _ _ _
  have HMA := hide (Material_yes a 64 c p.Z (p.t : Nat) (p.k : Nat) p.e (p.h : Nat) (p.f : Nat) hM.eb.1 hM.eb.2 w1 (hz.mono B1) (hT.mono B1) hM (hW.mono B1))
  have HCH : Hid (∀ W, Below w1.heap.size w1 W → Ch W w.heap.size a 64 c (p.t : Nat) (p.k : Nat) p.e (p.h : Nat) (p.f : Nat)) := hide (fun W hb => C1.below hb C1.lt)
  have HSE : Hid (∀ W, Below w1.heap.size w1 W → Calls Tryd.prog 24 #[.agg (chP a c p)] W fun r w' => r = .returned (.agg (ivs (stP p)).toArray) ∧ Below W.heap.size W w') := hide (fun W hb => seen_any a c p.Z _ _ _ _ _ W ((hz.mono B1).mono hb))
  have HTW : Hid (∀ W, Below w1.heap.size w1 W → Tabs W) := hide (fun W hb => (hT.mono B1).mono hb)
  have HPL : Hid ((ivs (stP p)).length = 69) := hide (stL_len hM.st.1 _ _ _ _ _)
  have HZL : Hid (p.Z.length = 64) := hide hM.st.1
  have HMT := hide (fun b W h1 h2 h3 => mated_any b p hM W h1 h2 h3)
  have HST := hide (fun b W h1 h2 h3 => stuck_any b p hM W h1 h2 h3)
  obtain ⟨res, hres⟩ : ∃ res, resP p = res := ⟨_, rfl⟩
  have HRS : Hid ((if (mvs p).isEmpty = true then (if ckP p = true then (1 : Int) else 2) else if tl p.Z = true then 3 else if 100 ≤ p.h then 4 else 0) = res) := hide (by rw [← hres]; rfl)
  rw [hres]
  obtain ⟨me, hme⟩ : ∃ me, (mvs p).isEmpty = me := ⟨_, rfl⟩
  obtain ⟨cb, hcb⟩ : ∃ cb, ckP p = cb := ⟨_, rfl⟩
  obtain ⟨tb, htb⟩ : ∃ tb, tl p.Z = tb := ⟨_, rfl⟩
  rw [hme] at HMT HST HRS
  rw [hcb] at HMT HST HRS
  rw [htb] at HMA HRS
  have HB1 := hide B1
  clear B1 hz hT hW hM hme hcb htb hres
  go_enter Tryd.func9, Tryd.ntmps9
  go_upto_region 1 with fail
  clear hw1
  go_wp2_with (refine wpList_load_ch rfl (.tmp 1) rfl w.heap.size rfl C1 ?_)
  refine HMA.out.mono ?_
  rintro r w2 ⟨rfl, hb2⟩
  have HB2 : Hid (Below w1.heap.size w1 w2) := hide hb2
  have C2 := HCH.out w2 hb2
  clear hb2 C1
  go_wp2_with (refine wpList_load_ch rfl (.tmp 1) rfl w.heap.size rfl C2 ?_)
  refine (HSE.out w2 HB2.out).mono ?_
  rintro r w3 ⟨rfl, hb3⟩
  have HB3 : Hid (Below w1.heap.size w1 w3) := hide (HB2.out.trans (hb3.mono HB2.out.size))
  clear hb3 C2
  obtain ⟨d, hd⟩ : ∃ d, w3.heap.size = d := ⟨_, rfl⟩
  obtain ⟨w4, hw4⟩ : ∃ w4, w3.alloc (.cells Tryd.zeroCells53 53) = w4 := ⟨_, rfl⟩
  have V4 : Vb w4 d 53 (ivs (stL zr64 0 0 0 0 0)) := by rw [← hw4, ← hd]; exact zr69_new w3
  have B4 : Below w3.heap.size w3 w4 := by rw [← hw4]; exact (Below.refl _ _).alloc (Nat.le_refl _) _
  have HB4 : Hid (Below w1.heap.size w1 w4) := hide (HB3.out.trans (B4.mono HB3.out.size))
  have HD : Hid (w1.heap.size ≤ d) := hide (by rw [← hd]; exact HB3.out.size)
  clear B4
  go_upto_region 5 with (refine wpList_store_vb rfl 53 (.tmp 7) (.tmp 18) rfl d (ivs (stP p)) _ (by simp [Act.eval]) rfl V4 (by rw [stL_len zr64_len, HPL.out]) (by rw [HPL.out]; exact row53) (by simpa using ivs_one _) ?_; intro w5 V5 K5)
  have HB5 : Hid (Below w1.heap.size w1 w5) := hide (HB4.out.trans (K5.below HB4.out.size (fun j hj e => by have := HD.out; omega)))
  have HS5 : Hid (Sp w5 d p) := hide ⟨HZL.out, V5⟩
  clear hw4 V4 K5 V5
  try rw [hd]
  go_wp2_with fail
  refine (HMT.out d _ HS5.out (HTW.out _ HB5.out).s (HTW.out _ HB5.out).d).mono ?_
  rintro r w6 ⟨rfl, hb6⟩
  have HB6 : Hid (Below w1.heap.size w1 w6) := hide (HB5.out.trans (hb6.mono HB5.out.size))
  have HS6 : Hid (Sp w6 d p) := hide (HS5.out.mono hb6)
  clear hb6
  cases me with
  | true =>
    cases cb with
    | true =>
      have HR : Hid ((1 : Int) = res) := hide (by simpa using HRS.out)
      go_wp2_with fail
      go_ret2
      exact ⟨by first | rfl | (rw [← HR.out]; rfl), HB1.out.trans (HB6.out.mono HB1.out.size)⟩
    | false =>
      have HR : Hid ((2 : Int) = res) := hide (by simpa using HRS.out)
      go_wp2_with fail
      refine (HST.out d _ HS6.out (HTW.out _ HB6.out).s (HTW.out _ HB6.out).d).mono ?_
      rintro r w7 ⟨rfl, hb7⟩
      have HB7 : Hid (Below w1.heap.size w1 w7) := hide (HB6.out.trans (hb7.mono HB6.out.size))
      clear hb7
      go_wp2_with fail
      go_ret2
      exact ⟨by first | rfl | (rw [← HR.out]; rfl), HB1.out.trans (HB7.out.mono HB1.out.size)⟩
  | false =>
    go_wp2_with fail
    refine (HST.out d _ HS6.out (HTW.out _ HB6.out).s (HTW.out _ HB6.out).d).mono ?_
    rintro r w7 ⟨rfl, hb7⟩
    have HB7 : Hid (Below w1.heap.size w1 w7) := hide (HB6.out.trans (hb7.mono HB6.out.size))
    clear hb7
    obtain ⟨-, -, -, -, y4, -⟩ := (HCH.out w7 HB7.out).cells
    cases tb with
    | true =>
      have HR : Hid ((3 : Int) = res) := hide (by simpa using HRS.out)
      go_wp2_with fail
      go_ret2
      exact ⟨by first | rfl | (rw [← HR.out]; rfl), HB1.out.trans (HB7.out.mono HB1.out.size)⟩
    | false =>
      by_cases hh : 100 ≤ p.h
      · have hb : ((p.h : Nat) : Int) ≥ 100 := by omega
        have HR : Hid ((4 : Int) = res) := hide (by simpa [hh] using HRS.out)
        go_wp2_with fail
        go_ret2
        exact ⟨by first | rfl | (rw [← HR.out]; rfl), HB1.out.trans (HB7.out.mono HB1.out.size)⟩
      · have hb : ¬ ((p.h : Nat) : Int) ≥ 100 := by omega
        have HR : Hid ((0 : Int) = res) := hide (by simpa [hh] using HRS.out)
        go_wp2_with fail
        go_ret2
        exact ⟨by first | rfl | (rw [← HR.out]; rfl), HB1.out.trans (HB7.out.mono HB1.out.size)⟩
end

end Go.Proofs.YtbhlafdfpoacjaaDoor

namespace Go.Proofs.YtbhlafdfpoacjaaDoor
open Go.RowKit Go.Shelf

theorem wv_eq (x : Int) : sg x * wo x.natAbs = wv x := rfl
theorem wT_at {j : Nat} : wT.getD j 0 = wo j := rfl
theorem wT_len : wT.length = 7 := rfl
theorem kc_zero (Z : List Int) (j : Nat) : kc Z j 0 = 0 := rfl
theorem shc_zero (Z : List Int) (j : Nat) : shc Z j 0 = 0 := rfl

theorem sg_bd0 (x : Int) : -1 ≤ sg x ∧ sg x ≤ 1 := by
  unfold sg
  split
  · omega
  · split <;> omega

attribute [local irreducible] wo wv mS kc shc sg wT

set_option maxRecDepth 100000 in
set_option maxHeartbeats 16000000 in
theorem MaterialOf_any (a : Option Addr) (c : Nat) (Z : List Int) (t k e h f : Int) (hz : Pz Z) (w : World) (hR : Rd w a 64 c Z) :
    Calls Tryd.prog 40 #[.agg (chA a 64 c t k e h f)] w fun r w' => r = .returned (.tuple #[.int .i64 (mS Z 64), .bool (tl Z)]) ∧ Below w.heap.size w w' := by
  have hcm := hR.max
  unfold maxLen at hcm
  have hcc := hR.cap
  obtain ⟨bk, off, rfl, hc⟩ := hR.cells (by omega)
  obtain ⟨w1, hw1⟩ : ∃ w1, w.alloc (.cells (chA (some ⟨bk, off, none⟩) 64 c t k e h f) 24) = w1 := ⟨_, rfl⟩
  have B1 : Below w.heap.size w w1 := by rw [← hw1]; exact (Below.refl _ w).alloc (Nat.le_refl _) _
  have C1 : Ch w1 w.heap.size (some ⟨bk, off, none⟩) 64 c t k e h f := by rw [← hw1]; exact Ch.new w _ 64 c t k e h f
  have HB1 := hide B1
  have HC : Hid (∀ i, i < 64 → w1.cell? ⟨bk, off + i, none⟩ = some (.int .i64 (zg Z i))) := hide (fun i hi => (B1.cell (p := ⟨bk, off + i, none⟩) (World.block_lt_of_cell? w _ (hc i hi))).trans (hc i hi))
  have HG0 := hide C1.cells.1
  have HZB := hide hz.2
  have HBD := hide (mS_bd hz)
  have HSU := hide (mS_succ Z)
  have HZE := hide (mS_zero Z)
  have HSZ := hide (fun (x : Int) (n : Nat) (hx : x.natAbs = n) (hn : n ≤ 6) (w : World) => (show Calls Tryd.prog 35 #[.int .i64 x] w fun e w' => e = .returned (.int .i64 (n : Nat)) ∧ w' = w by rw [← hx]; exact size_any x (by omega) (by omega) w))
  have HSG := hide signOf_any
  have HTL : Hid (tl Z = (decide (kc Z 1 64 + kc Z 4 64 + kc Z 5 64 = 0) && (decide (kc Z 2 64 + kc Z 3 64 ≤ 1) || (decide (kc Z 2 64 = 0) && (decide (shc Z 1 64 = 0) || decide (shc Z 0 64 = 0)))))) := hide rfl
  obtain ⟨rr, hrr⟩ : ∃ rr, tl Z = rr := ⟨_, rfl⟩
  rw [hrr] at HTL ⊢
  clear hR hc hz hrr B1 C1
  go_enter Tryd.func40, Tryd.ntmps40
  go_upto_region 1 with fail
  clear hw1
  go_wp2_with fail
  go_loopw [4, 5, 6, 7, 8, 9, 10] (fun u4 u5 u6 u7 u8 u9 v wr => ∃ (i mi : Nat) (db : Bool), v = .int .i64 i ∧ i ≤ 64 ∧ u4 = .int .i64 (mS Z i) ∧ u5 = .int .i64 (mi : Nat) ∧ u6 = .int .i64 (kc Z 2 i : Nat) ∧ u7 = .int .i64 (shc Z 1 i : Nat) ∧ u8 = .int .i64 (shc Z 0 i : Nat) ∧ u9 = .bool db ∧ Hid (mi = kc Z 2 i + kc Z 3 i) ∧ Hid (db = decide (kc Z 1 i + kc Z 4 i + kc Z 5 i = 0)) ∧ Hid (Below w1.heap.size w1 wr)) (fun _ _ _ _ _ _ v _ => 64 - (intOf v).toNat)
  case atStart =>
    refine ⟨0, 0, true, rfl, by omega, by rw [HZE.out], rfl, by rw [kc_zero]; rfl, by rw [shc_zero]; rfl, by rw [shc_zero]; rfl, rfl, hide (by rw [kc_zero, kc_zero]), hide (by rw [kc_zero, kc_zero, kc_zero]; rfl), hide (Below.refl _ _)⟩
  case round =>
    obtain ⟨i, mi, db, rfl, hi, rfl, rfl, rfl, rfl, rfl, rfl, hmi, hdb, hbl⟩ := hrel
    by_cases hlt : i < 64
    · have hlt' : (i : Int) < 64 := by omega
      have hzb := HZB.out i
      have hbd := HBD.out i
      have HS := hide (HSU.out i)
      have HE := hide (wv_eq (zg Z i))
      have hwv := wv_bd hzb.1 hzb.2
      have g0 := (hbl.out.cell (p := ⟨w.heap.size, 0, none⟩) (World.block_lt_of_cell? w1 _ HG0.out)).trans HG0.out
      have cz := (hbl.out.cell (p := ⟨bk, off + i, none⟩) (World.block_lt_of_cell? w1 _ (HC.out i hlt))).trans (HC.out i hlt)
      obtain ⟨x, hx⟩ : ∃ x, (zg Z i).natAbs = x := ⟨_, rfl⟩
      have hx6 : x ≤ 6 := by omega
      have HK1 := hide (kc_succ Z 1 i)
      have HK2 := hide (kc_succ Z 2 i)
      have HK3 := hide (kc_succ Z 3 i)
      have HK4 := hide (kc_succ Z 4 i)
      have HK5 := hide (kc_succ Z 5 i)
      have HH0 := hide (shc_succ Z 0 i)
      have HH1 := hide (shc_succ Z 1 i)
      have l1 := kc_le Z 1 i
      have l2 := kc_le Z 2 i
      have l3 := kc_le Z 3 i
      have l4 := kc_le Z 4 i
      have l5 := kc_le Z 5 i
      have l6 := shc_le Z 0 i
      have l7 := shc_le Z 1 i
      have HXZ := hide (HSZ.out (zg Z i) x hx hx6)
      have HGZ := hide (HSG.out (zg Z i))
      rw [hx] at HK1 HK2 HK3 HK4 HK5 HH0 HH1 HE
      have hsg := sg_bd0 (zg Z i)
      generalize mS Z i = m at *
      generalize wv (zg Z i) = wz at *
      generalize sg (zg Z i) = sz at *
      generalize zg Z i = z at *
      obtain ⟨w2, hw2⟩ : ∃ w2, wr.alloc (.cells #[.int .i64 0, .int .i64 1, .int .i64 3, .int .i64 3, .int .i64 5, .int .i64 9, .int .i64 0] 3) = w2 := ⟨_, rfl⟩
      have B2 : Below w1.heap.size w1 w2 := by rw [← hw2]; exact hbl.out.alloc hbl.out.size _
      have ct := (show Blk w2 wr.heap.size 3 wT by rw [← hw2]; exact Blk.new wr 3 wT _ (by unfold wT; rfl)).cell (i := x) (by rw [wT_len]; omega)
      rw [wT_at] at ct
      have HB2 := hide B2
      have hwo := wo_bd hx6
      generalize wo x = wx at *
      have hmul : sz * wx = wz := HE.out
      generalize kc Z 1 i = n1 at *
      generalize kc Z 2 i = n2 at *
      generalize kc Z 3 i = n3 at *
      generalize kc Z 4 i = n4 at *
      generalize kc Z 5 i = n5 at *
      generalize shc Z 0 i = m0 at *
      generalize shc Z 1 i = m1 at *
      clear B2 HE hbl hx hzb
      go_upto_region 8 with (first | (go_at_call 75; refine (HGZ.out _).mono ?_; rintro e w5 ⟨rfl, hw⟩; subst w5) | (go_at_call 35; refine (HXZ.out _).mono ?_; rintro e w5 ⟨rfl, hw⟩; subst w5))
      clear hmul ct g0 cz hw2
      have HS' := hide HS.out
      have hx7 : x = 0 ∨ x = 1 ∨ x = 2 ∨ x = 3 ∨ x = 4 ∨ x = 5 ∨ x = 6 := by omega
      have hmb : mi ≤ 128 := by have := hmi.out; omega
      rcases hx7 with rfl | rfl | rfl | rfl | rfl | rfl | rfl
      · rw [if_neg (by decide)] at HK1
        rw [if_neg (by decide)] at HK2
        rw [if_neg (by decide)] at HK3
        rw [if_neg (by decide)] at HK4
        rw [if_neg (by decide)] at HK5
        rw [if_neg (fun e => absurd e.1 (by decide))] at HH0
        rw [if_neg (fun e => absurd e.1 (by decide))] at HH1
        go_wp2_with (go_at_call 35; refine (HXZ.out _).mono ?_; rintro e w5 ⟨rfl, hw⟩; subst w5)
        exact ⟨⟨i + 1, mi, db, by go_num, by omega, by rw [HS.out], by first | rfl | go_num, by first | (rw [HK2.out]; done) | (rw [HK2.out]; rfl) | (rw [HK2.out]; go_num), by first | (rw [HH1.out]; done) | (rw [HH1.out]; rfl) | (rw [HH1.out]; go_num), by first | (rw [HH0.out]; done) | (rw [HH0.out]; rfl) | (rw [HH0.out]; go_num), rfl, hide (by first | (rw [HK2.out, HK3.out, hmi.out]; done) | (rw [HK2.out, HK3.out, hmi.out]; omega)), hide (by rw [HK1.out, HK4.out, HK5.out]; exact hdb.out), HB2⟩, by simp [intOf]; omega⟩
      · rw [if_pos rfl] at HK1
        rw [if_neg (by decide)] at HK2
        rw [if_neg (by decide)] at HK3
        rw [if_neg (by decide)] at HK4
        rw [if_neg (by decide)] at HK5
        rw [if_neg (fun e => absurd e.1 (by decide))] at HH0
        rw [if_neg (fun e => absurd e.1 (by decide))] at HH1
        go_wp2_with (go_at_call 35; refine (HXZ.out _).mono ?_; rintro e w5 ⟨rfl, hw⟩; subst w5)
        exact ⟨⟨i + 1, mi, false, by go_num, by omega, by rw [HS.out], by first | rfl | go_num, by first | (rw [HK2.out]; done) | (rw [HK2.out]; rfl) | (rw [HK2.out]; go_num), by first | (rw [HH1.out]; done) | (rw [HH1.out]; rfl) | (rw [HH1.out]; go_num), by first | (rw [HH0.out]; done) | (rw [HH0.out]; rfl) | (rw [HH0.out]; go_num), rfl, hide (by first | (rw [HK2.out, HK3.out, hmi.out]; done) | (rw [HK2.out, HK3.out, hmi.out]; omega)), hide (by rw [HK1.out, HK4.out, HK5.out]; (rw [eq_comm, decide_eq_false_iff_not]; omega)), HB2⟩, by simp [intOf]; omega⟩
      · rw [if_neg (by decide)] at HK1
        rw [if_pos rfl] at HK2
        rw [if_neg (by decide)] at HK3
        rw [if_neg (by decide)] at HK4
        rw [if_neg (by decide)] at HK5
        rw [if_neg (fun e => absurd e.1 (by decide))] at HH0
        rw [if_neg (fun e => absurd e.1 (by decide))] at HH1
        go_wp2_with (go_at_call 35; refine (HXZ.out _).mono ?_; rintro e w5 ⟨rfl, hw⟩; subst w5)
        exact ⟨⟨i + 1, mi + 1, db, by go_num, by omega, by rw [HS.out], by first | rfl | go_num, by first | (rw [HK2.out]; done) | (rw [HK2.out]; rfl) | (rw [HK2.out]; go_num), by first | (rw [HH1.out]; done) | (rw [HH1.out]; rfl) | (rw [HH1.out]; go_num), by first | (rw [HH0.out]; done) | (rw [HH0.out]; rfl) | (rw [HH0.out]; go_num), rfl, hide (by first | (rw [HK2.out, HK3.out, hmi.out]; done) | (rw [HK2.out, HK3.out, hmi.out]; omega)), hide (by rw [HK1.out, HK4.out, HK5.out]; exact hdb.out), HB2⟩, by simp [intOf]; omega⟩
      · rw [if_neg (by decide)] at HK1
        rw [if_neg (by decide)] at HK2
        rw [if_pos rfl] at HK3
        rw [if_neg (by decide)] at HK4
        rw [if_neg (by decide)] at HK5
        by_cases hq : (i / 8 + i % 8) % 2 = 0
        · have hq1 : ¬ (i / 8 + i % 8) % 2 = 1 := by omega
          rw [if_pos ⟨rfl, hq⟩] at HH0
          rw [if_neg (fun e => hq1 e.2)] at HH1
          have hqi : ((i : Int) % 8 + (i : Int) / 8) % 2 = 0 := by omega
          clear hq hq1
          go_wp2_with (go_at_call 35; refine (HXZ.out _).mono ?_; rintro e w5 ⟨rfl, hw⟩; subst w5)
          exact ⟨⟨i + 1, mi + 1, db, by go_num, by omega, by rw [HS.out], by first | rfl | go_num, by first | (rw [HK2.out]; done) | (rw [HK2.out]; rfl) | (rw [HK2.out]; go_num), by first | (rw [HH1.out]; done) | (rw [HH1.out]; rfl) | (rw [HH1.out]; go_num), by first | (rw [HH0.out]; done) | (rw [HH0.out]; rfl) | (rw [HH0.out]; go_num), rfl, hide (by first | (rw [HK2.out, HK3.out, hmi.out]; done) | (rw [HK2.out, HK3.out, hmi.out]; omega)), hide (by rw [HK1.out, HK4.out, HK5.out]; exact hdb.out), HB2⟩, by simp [intOf]; omega⟩
        · have hq1 : (i / 8 + i % 8) % 2 = 1 := by omega
          rw [if_neg (fun e => hq e.2)] at HH0
          rw [if_pos ⟨rfl, hq1⟩] at HH1
          have hqi : ((i : Int) % 8 + (i : Int) / 8) % 2 = 1 := by omega
          clear hq hq1
          go_wp2_with (go_at_call 35; refine (HXZ.out _).mono ?_; rintro e w5 ⟨rfl, hw⟩; subst w5)
          exact ⟨⟨i + 1, mi + 1, db, by go_num, by omega, by rw [HS.out], by first | rfl | go_num, by first | (rw [HK2.out]; done) | (rw [HK2.out]; rfl) | (rw [HK2.out]; go_num), by first | (rw [HH1.out]; done) | (rw [HH1.out]; rfl) | (rw [HH1.out]; go_num), by first | (rw [HH0.out]; done) | (rw [HH0.out]; rfl) | (rw [HH0.out]; go_num), rfl, hide (by first | (rw [HK2.out, HK3.out, hmi.out]; done) | (rw [HK2.out, HK3.out, hmi.out]; omega)), hide (by rw [HK1.out, HK4.out, HK5.out]; exact hdb.out), HB2⟩, by simp [intOf]; omega⟩
      · rw [if_neg (by decide)] at HK1
        rw [if_neg (by decide)] at HK2
        rw [if_neg (by decide)] at HK3
        rw [if_pos rfl] at HK4
        rw [if_neg (by decide)] at HK5
        rw [if_neg (fun e => absurd e.1 (by decide))] at HH0
        rw [if_neg (fun e => absurd e.1 (by decide))] at HH1
        go_wp2_with (go_at_call 35; refine (HXZ.out _).mono ?_; rintro e w5 ⟨rfl, hw⟩; subst w5)
        exact ⟨⟨i + 1, mi, false, by go_num, by omega, by rw [HS.out], by first | rfl | go_num, by first | (rw [HK2.out]; done) | (rw [HK2.out]; rfl) | (rw [HK2.out]; go_num), by first | (rw [HH1.out]; done) | (rw [HH1.out]; rfl) | (rw [HH1.out]; go_num), by first | (rw [HH0.out]; done) | (rw [HH0.out]; rfl) | (rw [HH0.out]; go_num), rfl, hide (by first | (rw [HK2.out, HK3.out, hmi.out]; done) | (rw [HK2.out, HK3.out, hmi.out]; omega)), hide (by rw [HK1.out, HK4.out, HK5.out]; (rw [eq_comm, decide_eq_false_iff_not]; omega)), HB2⟩, by simp [intOf]; omega⟩
      · rw [if_neg (by decide)] at HK1
        rw [if_neg (by decide)] at HK2
        rw [if_neg (by decide)] at HK3
        rw [if_neg (by decide)] at HK4
        rw [if_pos rfl] at HK5
        rw [if_neg (fun e => absurd e.1 (by decide))] at HH0
        rw [if_neg (fun e => absurd e.1 (by decide))] at HH1
        go_wp2_with (go_at_call 35; refine (HXZ.out _).mono ?_; rintro e w5 ⟨rfl, hw⟩; subst w5)
        exact ⟨⟨i + 1, mi, false, by go_num, by omega, by rw [HS.out], by first | rfl | go_num, by first | (rw [HK2.out]; done) | (rw [HK2.out]; rfl) | (rw [HK2.out]; go_num), by first | (rw [HH1.out]; done) | (rw [HH1.out]; rfl) | (rw [HH1.out]; go_num), by first | (rw [HH0.out]; done) | (rw [HH0.out]; rfl) | (rw [HH0.out]; go_num), rfl, hide (by first | (rw [HK2.out, HK3.out, hmi.out]; done) | (rw [HK2.out, HK3.out, hmi.out]; omega)), hide (by rw [HK1.out, HK4.out, HK5.out]; (rw [eq_comm, decide_eq_false_iff_not]; omega)), HB2⟩, by simp [intOf]; omega⟩
      · rw [if_neg (by decide)] at HK1
        rw [if_neg (by decide)] at HK2
        rw [if_neg (by decide)] at HK3
        rw [if_neg (by decide)] at HK4
        rw [if_neg (by decide)] at HK5
        rw [if_neg (fun e => absurd e.1 (by decide))] at HH0
        rw [if_neg (fun e => absurd e.1 (by decide))] at HH1
        go_wp2_with (go_at_call 35; refine (HXZ.out _).mono ?_; rintro e w5 ⟨rfl, hw⟩; subst w5)
        exact ⟨⟨i + 1, mi, db, by go_num, by omega, by rw [HS.out], by first | rfl | go_num, by first | (rw [HK2.out]; done) | (rw [HK2.out]; rfl) | (rw [HK2.out]; go_num), by first | (rw [HH1.out]; done) | (rw [HH1.out]; rfl) | (rw [HH1.out]; go_num), by first | (rw [HH0.out]; done) | (rw [HH0.out]; rfl) | (rw [HH0.out]; go_num), rfl, hide (by first | (rw [HK2.out, HK3.out, hmi.out]; done) | (rw [HK2.out, HK3.out, hmi.out]; omega)), hide (by rw [HK1.out, HK4.out, HK5.out]; exact hdb.out), HB2⟩, by simp [intOf]; omega⟩
    · obtain rfl : i = 64 := by omega
      have l1 := kc_le Z 1 64
      have l2 := kc_le Z 2 64
      have l3 := kc_le Z 3 64
      have l4 := kc_le Z 4 64
      have l5 := kc_le Z 5 64
      have l6 := shc_le Z 0 64
      have l7 := shc_le Z 1 64
      have HBF : Hid (Below w.heap.size w wr) := hide (HB1.out.trans (hbl.out.mono HB1.out.size))
      generalize kc Z 1 64 = n1 at *
      generalize kc Z 2 64 = n2 at *
      generalize kc Z 3 64 = n3 at *
      generalize kc Z 4 64 = n4 at *
      generalize kc Z 5 64 = n5 at *
      generalize shc Z 0 64 = m0 at *
      generalize shc Z 1 64 = m1 at *
      rw [← hdb.out, ← hmi.out] at HTL
      have hmb : mi ≤ 128 := by have := hmi.out; omega
      clear hbl hmi
      cases db with
      | false =>
        rw [Bool.false_and] at HTL
        go_wp2_with fail
        go_ret2
        exact ⟨by rw [HTL.out]; rfl, HBF.out⟩
      | true =>
        rw [Bool.true_and] at HTL
        by_cases q1 : mi ≤ 1
        · have q1' : (mi : Int) ≤ 1 := by omega
          rw [decide_eq_true q1, Bool.true_or] at HTL
          go_wp2_with fail
          go_ret2
          exact ⟨by rw [HTL.out]; rfl, HBF.out⟩
        · have q1' : decide ((mi : Int) ≤ 1) = false := by simp; omega
          rw [decide_eq_false q1, Bool.false_or] at HTL
          by_cases q2 : n2 = 0
          · subst q2
            rw [decide_eq_true rfl, Bool.true_and] at HTL
            by_cases q3 : m1 = 0
            · subst q3
              rw [decide_eq_true rfl, Bool.true_or] at HTL
              go_wp2_with fail
              go_ret2
              exact ⟨by rw [HTL.out]; rfl, HBF.out⟩
            · have q3' : ((m1 : Int) == 0) = false := by simp; omega
              rw [decide_eq_false q3, Bool.false_or] at HTL
              by_cases q4 : m0 = 0
              · subst q4
                rw [decide_eq_true rfl] at HTL
                go_wp2_with fail
                go_ret2
                exact ⟨by rw [HTL.out]; rfl, HBF.out⟩
              · have q4' : ((m0 : Int) == 0) = false := by simp; omega
                rw [decide_eq_false q4] at HTL
                go_wp2_with fail
                go_ret2
                exact ⟨by rw [HTL.out]; rfl, HBF.out⟩
          · have q2' : ((n2 : Int) == 0) = false := by simp; omega
            rw [decide_eq_false q2, Bool.false_and] at HTL
            go_wp2_with fail
            go_ret2
            exact ⟨by rw [HTL.out]; rfl, HBF.out⟩

end Go.Proofs.YtbhlafdfpoacjaaDoor
