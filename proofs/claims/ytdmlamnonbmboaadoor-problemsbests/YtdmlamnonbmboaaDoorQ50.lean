/-
  Chess problems: Rows and Best beside what the document says: the law, walked. No conditions beyond those that each theorem bears.
-/
import Derived.Test.YtdmlamnonbmboaaDoorQ48
import Derived.Test.YtdmlamnonbmboaaDoorQ49
import Derived.Test.YtdmlamnonbmboaaDoorQ14
import Derived.Test.YtdmlamnonbmboaaDoorQ36
import Derived.Test.YtdmlamnonbmboaaDoorQ33
namespace Go.Proofs.YtdmlamnonbmboaaDoor
open Go.RowKit Go.Shelf

/-- What Rows has told. -/
def RwW (p : Ps) (x y nv ev : Int) : Prop := ((x < 0 ∨ 3 < x) ∧ nv = 0 ∧ ev = 3) ∨ (∃ xn : Nat, x = (xn : Int) ∧ xn ≤ 3 ∧ nv = rvR p xn y ∧ ev = reR y)
/-- What Best has told. -/
def BtW (p : Ps) (x v : Int) (m : Nat × Nat × Nat) (fv : Int) : Prop := ((x < 0 ∨ 2 < x) ∧ v = 0 ∧ m = (0, 0, 0) ∧ fv = 3) ∨ (∃ xn : Nat, x = (xn : Int) ∧ xn ≤ 2 ∧ v = (bG (-1001) xn 0 p).1 ∧ m = (bG (-1001) xn 0 p).2 ∧ fv = 0)

attribute [local irreducible] mvs rwN rvR reR bG MayC MayP rqP mtP skP

theorem Rows_all (a : Option Addr) (c : Nat) (p : Ps) (hM : MayP p) (hC : MayC p.Z (p.t : Nat) (p.k : Nat) p.e (p.h : Nat) (p.f : Nat)) (x y : Int) (he1 : -9223372036854775808 ≤ p.e) (he2 : p.e ≤ 9223372036854775807) (w : World) (hz : Rd w a 64 c p.Z) (hT : Tabs w) :
    Calls Tryd.prog 13 #[.agg (chA a 64 c (p.t : Nat) (p.k : Nat) p.e (p.h : Nat) (p.f : Nat)), .int .i64 x, .int .i64 y] w fun r w' => ∃ nv ev, r = .returned (.tuple #[.int .i64 nv, .int .i64 ev]) ∧ RwW p x y nv ev ∧ Below w.heap.size w w' := by
  by_cases hx : x < 0 ∨ 3 < x
  · refine (Rows_range a 64 c p.Z _ _ _ _ _ he1 he2 w hz hT x y hC hx).mono ?_
    rintro r w' ⟨rfl, hb⟩
    exact ⟨0, 3, rfl, .inl ⟨hx, rfl, rfl⟩, hb⟩
  · obtain ⟨xn, rfl⟩ := Int.eq_ofNat_of_zero_le (show 0 ≤ x by omega)
    refine (Rows_yes a c p hM xn (by omega) y he1 he2 w hz hT).mono ?_
    rintro r w' ⟨rfl, hb⟩
    exact ⟨_, _, rfl, .inr ⟨xn, rfl, by omega, rfl, rfl⟩, hb⟩
theorem Best_all (a : Option Addr) (c : Nat) (p : Ps) (hM : MayP p) (hC : MayC p.Z (p.t : Nat) (p.k : Nat) p.e (p.h : Nat) (p.f : Nat)) (x : Int) (he1 : -9223372036854775808 ≤ p.e) (he2 : p.e ≤ 9223372036854775807) (w : World) (hz : Rd w a 64 c p.Z) (hT : Tabs w) (hW : TabW w) :
    Calls Tryd.prog 14 #[.agg (chA a 64 c (p.t : Nat) (p.k : Nat) p.e (p.h : Nat) (p.f : Nat)), .int .i64 x] w fun r w' => ∃ v m fv, r = .returned (.tuple #[.int .i64 v, .agg (mvC m).toArray, .int .i64 fv]) ∧ BtW p x v m fv ∧ Below w.heap.size w w' := by
  by_cases hx : x < 0 ∨ 2 < x
  · refine (Best_range a 64 c p.Z _ _ _ _ _ he1 he2 w hz hT x hC hx).mono ?_
    rintro r w' ⟨rfl, hb⟩
    exact ⟨0, (0, 0, 0), 3, rfl, .inl ⟨hx, rfl, rfl, rfl⟩, hb⟩
  · obtain ⟨xn, rfl⟩ := Int.eq_ofNat_of_zero_le (show 0 ≤ x by omega)
    refine (Best_yes a c p hM xn (by omega) he1 he2 w hz hT hW).mono ?_
    rintro r w' ⟨rfl, hb⟩
    exact ⟨_, _, 0, rfl, .inr ⟨xn, rfl, by omega, rfl, rfl, rfl⟩, hb⟩
theorem RowsOf_all (a : Option Addr) (c : Nat) (p : Ps) (hM : MayP p) (xn : Nat) (hx : xn ≤ 3) (y : Int) (hy : y = 1 ∨ y = 2) (w : World) (hR : Rd w a 64 c p.Z) :
    Calls Tryd.prog 15 #[.agg (chP a c p), .int .i64 (xn : Nat), .int .i64 y] w fun r w' => r = .returned (.int .i64 (rvR p xn y)) ∧ Below w.heap.size w w' := by
  have h := RowsOf_any y xn (by omega) p hM a c w hR
  rcases hy with rfl | rfl
  · rw [rq_one] at h
    unfold rvR
    rw [if_pos rfl]
    exact h
  · rw [rq_two] at h
    unfold rvR
    rw [if_neg (by decide), if_pos rfl]
    exact h
theorem BestOf_all (a : Option Addr) (c : Nat) (p : Ps) (hM : MayP p) (zn : Nat) (hz : zn ≤ 2) (w : World) (hR : Rd w a 64 c p.Z) :
    Calls Tryd.prog 16 #[.agg (chP a c p), .int .i64 (zn : Nat), .int .i64 0] w fun r w' => r = .returned (.tuple #[.int .i64 (bG (-1001) zn 0 p).1, .agg (mvC (bG (-1001) zn 0 p).2).toArray]) ∧ Below w.heap.size w w' := by
  have h := BestOf_any zn (by omega) (zn : Nat) (by omega) p hM 0 (by omega) (by omega) a c w hR
  rw [bG_eq (lo := -5000) (lo' := -1001) (by omega) (by omega) zn 0 p hM (by omega) (by omega)] at h
  exact h
theorem re_yes {y : Int} (h : y = 1 ∨ y = 2) : reR y = 0 := by unfold reR; rw [if_pos h]
theorem re_no {y : Int} (h : ¬ (y = 1 ∨ y = 2)) : reR y = 4 := by unfold reR; rw [if_neg h]
theorem rv_no {p : Ps} {x : Nat} {y : Int} (h : ¬ (y = 1 ∨ y = 2)) : rvR p x y = 0 := by unfold rvR; rw [if_neg (fun e => h (.inl e)), if_neg (fun e => h (.inr e))]

theorem z3_cells {w : World} {b : Nat} (h : Vb w b 42 (mvC (0, 0, 0))) : w.cell? ⟨b, 0, none⟩ = some (.int .i64 0) ∧ w.cell? ⟨b, 1, none⟩ = some (.int .i64 0) ∧ w.cell? ⟨b, 2, none⟩ = some (.int .i64 0) := ⟨h.cell (i := 0) rfl, h.cell (i := 1) rfl, h.cell (i := 2) rfl⟩

attribute [local go_sem] Oper.semAt_some wide_fn wide_fn0 wide_depth

set_option maxRecDepth 100000 in
set_option maxHeartbeats 64000000 in
theorem bests_law (a : Option Addr) (n c : Nat) (Z : List Int) (t k e h f x y z : Int) (he1 : -9223372036854775808 ≤ e) (he2 : e ≤ 9223372036854775807) (w : World) (hz : Rd w a n c Z) (hr : n * 8 ≤ 140737488351232) (hT : Tabs w) (hW : TabW w) :
    Calls Tryd.prog 4 #[.agg (chA a n c t k e h f), .int .i64 x, .int .i64 y, .int .i64 z] w fun r w' => r = .returned (.bool true) ∧ Below w.heap.size w w' := by
  obtain ⟨w1, hw1⟩ : ∃ w1, w.alloc (.cells (chA a n c t k e h f) 24) = w1 := ⟨_, rfl⟩
  have B1 : Below w.heap.size w w1 := by rw [← hw1]; exact (Below.refl _ w).alloc (Nat.le_refl _) _
  have C1 : Ch w1 w.heap.size a n c t k e h f := by rw [← hw1]; exact Ch.new w a n c t k e h f
  have HB0 := hide B1
  have HCH : Hid (∀ W, Below w1.heap.size w1 W → Ch W w.heap.size a n c t k e h f) := hide (fun W hb => C1.below hb C1.lt)
  have HZW : Hid (∀ W, Below w1.heap.size w1 W → Rd W a n c Z) := hide (fun W hb => (hz.mono B1).mono hb)
  have HTW : Hid (∀ W, Below w1.heap.size w1 W → Tabs W) := hide (fun W hb => (hT.mono B1).mono hb)
  have HWW : Hid (∀ W, Below w1.heap.size w1 W → TabW W) := hide (fun W hb => (hW.mono B1).mono hb)
  have HOF : Hid (∀ W, Below w1.heap.size w1 W → Calls Tryd.prog 6 #[.agg (chA a n c t k e h f)] W fun r w' => ∃ a' c', r = .returned (.agg (chA a' n c' t k e h f)) ∧ Rd w' a' n c' Z ∧ Below W.heap.size W w') := hide (fun W hb => ChessOf_any a n c Z t k e h f W (HZW.out W hb) hr)
  have HCM : Hid (∀ W, Below w1.heap.size w1 W → Calls Tryd.prog 8 #[.agg (chA a n c t k e h f)] W fun r w' => r = .returned (.bool (dB (MayC Z t k e h f))) ∧ Below W.heap.size W w') := hide (fun W hb => ChessMay_any a n c Z t k e h f he1 he2 W (HZW.out W hb))
  have HB1 : Hid (Below w1.heap.size w1 w1) := hide (Below.refl _ _)
  have hch := C1
  clear hz hT hW B1 C1
  by_cases hM : MayC Z t k e h f
  · rw [dB_t hM] at HCM
    have hn : n = 64 := by have := (HZW.out w1 HB1.out).len; have := hM.std.1; omega
    subst hn
    obtain ⟨p, hMp, rfl, rfl, rfl, rfl, rfl, rfl⟩ := ps_of hM
    have HRW := hide (fun a' c' W (hz : Rd W a' 64 c' p.Z) (hT : Tabs W) => Rows_all a' c' p hMp hM x y he1 he2 W hz hT)
    have HBT := hide (fun a' c' W (hz : Rd W a' 64 c' p.Z) (hT : Tabs W) (hW : TabW W) => Best_all a' c' p hMp hM z he1 he2 W hz hT hW)
    have HRO := hide (fun xn (hx : xn ≤ 3) (hy : y = 1 ∨ y = 2) W (hR : Rd W a 64 c p.Z) => RowsOf_all a c p hMp xn hx y hy W hR)
    have HBO := hide (fun zn (hz : zn ≤ 2) W (hR : Rd W a 64 c p.Z) => BestOf_all a c p hMp zn hz W hR)
    clear hM hMp
    go_enter Tryd.func4, Tryd.ntmps4
    go_upto_region 1 with fail
    clear hw1
    go_wp2_with (refine wpList_load_ch rfl (.tmp 4) rfl w.heap.size rfl hch ?_)
    refine (HOF.out w1 HB1.out).mono ?_
    rintro r w2 ⟨a2, c2, rfl, hR, hb⟩
    have HB2 : Hid (Below w1.heap.size w1 w2) := hide (HB1.out.trans (hb.mono HB1.out.size))
    have HR2 := hide hR
    clear hch hb hR
    go_wp2_with fail
    refine (HRW.out a2 c2 w2 HR2.out (HTW.out w2 HB2.out)).mono ?_
    rintro r w3 ⟨nv, ev, rfl, hrw, hb⟩
    have HB3 : Hid (Below w1.heap.size w1 w3) := hide (HB2.out.trans (hb.mono HB2.out.size))
    have hch := HCH.out w3 HB3.out
    have HRW3 := hide hrw
    clear hb hrw HRW
    go_wp2_with (refine wpList_load_ch rfl (.tmp 4) rfl w.heap.size rfl hch ?_)
    refine (HOF.out w3 HB3.out).mono ?_
    rintro r w4 ⟨a4, c4, rfl, hR, hb⟩
    have HB4 : Hid (Below w1.heap.size w1 w4) := hide (HB3.out.trans (hb.mono HB3.out.size))
    have HR4 := hide hR
    clear hch hb hR
    go_wp2_with fail
    refine (HBT.out a4 c4 w4 HR4.out (HTW.out w4 HB4.out) (HWW.out w4 HB4.out)).mono ?_
    rintro r w5 ⟨bv, bm, fv, rfl, hbt, hb⟩
    have HB5 : Hid (Below w1.heap.size w1 w5) := hide (HB4.out.trans (hb.mono HB4.out.size))
    have HBT5 := hide hbt
    clear hb hbt HBT HOF
    obtain ⟨d, hd⟩ : ∃ d, w5.heap.size = d := ⟨_, rfl⟩
    have VD : Vb (w5.alloc (.cells #[.int .i64 0, .int .i64 0, .int .i64 0] 42)) d 42 [.int .i64 0, .int .i64 0, .int .i64 0] := by rw [← hd]; exact Vb.new w5 42 _
    have b5 : Below w5.heap.size w5 (w5.alloc (.cells #[.int .i64 0, .int .i64 0, .int .i64 0] 42)) := (Below.refl _ _).alloc (Nat.le_refl _) _
    go_upto_region 3 with (refine wpList_store_vb rfl 42 (.tmp 12) (.tmp 32) rfl d (mvC bm) _ (by simp [Act.eval]) rfl VD rfl row26 (mvC_one _) ?_; intro w6 V6 K6)
    have b6 : Below w5.heap.size w5 w6 := b5.trans (K6.below b5.size (fun j hj q => by omega))
    have HB6 : Hid (Below w1.heap.size w1 w6) := hide (HB5.out.trans (b6.mono HB5.out.size))
    have HV6 := hide V6
    try rw [hd]
    clear VD b5 K6 b6 V6 hd
    obtain ⟨d2, hd2⟩ : ∃ d2, w6.heap.size = d2 := ⟨_, rfl⟩
    obtain ⟨w7, hw7⟩ : ∃ w7, w6.alloc (.cells #[.int .i64 0, .int .i64 0, .int .i64 0] 42) = w7 := ⟨_, rfl⟩
    have V7 : Vb w7 d2 42 (mvC (0, 0, 0)) := by rw [← hw7, ← hd2]; exact Vb.new w6 42 _
    have b7 : Below w6.heap.size w6 w7 := by rw [← hw7]; exact (Below.refl _ _).alloc (Nat.le_refl _) _
    have HB7 : Hid (Below w1.heap.size w1 w7) := hide (HB6.out.trans (b7.mono HB6.out.size))
    have HM7 := hide (HV6.out.mono b7)
    have HN7 := hide V7
    clear V7 b7 HV6
    go_upto_region 4 with fail
    try rw [hw7]
    try rw [hd2]
    clear hw7 hd2
    have hch := HCH.out w7 HB7.out
    go_wp2_with (refine wpList_load_ch rfl (.tmp 4) rfl w.heap.size rfl hch ?_)
    refine (HCM.out w7 HB7.out).mono ?_
    rintro r w8 ⟨rfl, hb⟩
    have HB8 : Hid (Below w1.heap.size w1 w8) := hide (HB7.out.trans (hb.mono HB7.out.size))
    have HM8 := hide (HM7.out.mono hb)
    have HN8 := hide (HN7.out.mono hb)
    clear hb hch HCM HM7 HN7
    rcases HRW3.out with ⟨hx, rfl, rfl⟩ | ⟨xn, rfl, hx3, rfl, rfl⟩
    · clear HRW3
      rcases hx with hx | hx
      · have hxn : ¬ 3 < x := by omega
        rcases HBT5.out with ⟨hz, rfl, rfl, rfl⟩ | ⟨zn, rfl, hz2, rfl, rfl, rfl⟩
        · obtain ⟨m0, m1, m2⟩ := z3_cells HM8.out
          obtain ⟨n0, n1, n2⟩ := z3_cells HN8.out
          rcases hz with hz | hz
          · have hzn : ¬ 2 < z := by omega
            go_wp2_with fail
            go_ret
            exact ⟨rfl, HB0.out.trans (HB8.out.mono HB0.out.size)⟩
          · have hzn : ¬ z < 0 := by omega
            go_wp2_with fail
            go_ret
            exact ⟨rfl, HB0.out.trans (HB8.out.mono HB0.out.size)⟩
        · have hz0 : ¬ (zn : Int) < 0 := by omega
          have hz3 : ¬ 2 < (zn : Int) := by omega
          have hch := HCH.out w8 HB8.out
          have HBZ := hide (HBO.out zn hz2 w8 (HZW.out w8 HB8.out))
          obtain ⟨r1, hr1⟩ : ∃ r1, (bG (-1001) zn 0 p).1 = r1 := ⟨_, rfl⟩
          obtain ⟨r2, hr2⟩ : ∃ r2, (bG (-1001) zn 0 p).2 = r2 := ⟨_, rfl⟩
          rw [hr1, hr2] at HBZ
          rw [hr2] at HM8
          try rw [hr1]
          try rw [hr2]
          clear hr1 hr2 HBT5 HBO
          go_wp2_with (refine wpList_load_ch rfl (.tmp 4) rfl w.heap.size rfl hch ?_)
          refine HBZ.out.mono ?_
          rintro r wa ⟨rfl, hb⟩
          have HBa : Hid (Below w1.heap.size w1 wa) := hide (HB8.out.trans (hb.mono HB8.out.size))
          have HMa := hide (HM8.out.mono hb)
          clear hb hch HBZ
          obtain ⟨d3, hd3⟩ : ∃ d3, wa.heap.size = d3 := ⟨_, rfl⟩
          have VE : Vb (wa.alloc (.cells #[.int .i64 0, .int .i64 0, .int .i64 0] 42)) d3 42 [.int .i64 0, .int .i64 0, .int .i64 0] := by rw [← hd3]; exact Vb.new wa 42 _
          have ba : Below wa.heap.size wa (wa.alloc (.cells #[.int .i64 0, .int .i64 0, .int .i64 0] 42)) := (Below.refl _ _).alloc (Nat.le_refl _) _
          go_upto_region 19 with (refine wpList_store_vb rfl 42 (.tmp 17) (.tmp 109) rfl d3 (mvC r2) _ (by simp [Act.eval]) rfl VE rfl row26 (mvC_one _) ?_; intro wb Vb_ Kb)
          have bb : Below wa.heap.size wa wb := ba.trans (Kb.below ba.size (fun j hj q => by omega))
          have HBb : Hid (Below w1.heap.size w1 wb) := hide (HBa.out.trans (bb.mono HBa.out.size))
          have m0 := (HMa.out.mono bb).cell (i := 0) rfl
          have m1 := (HMa.out.mono bb).cell (i := 1) rfl
          have m2 := (HMa.out.mono bb).cell (i := 2) rfl
          have n0 := Vb_.cell (i := 0) rfl
          have n1 := Vb_.cell (i := 1) rfl
          have n2 := Vb_.cell (i := 2) rfl
          try rw [hd3]
          clear VE ba Kb bb Vb_ hd3 HMa
          go_wp2_with fail
          go_ret
          exact ⟨rfl, HB0.out.trans (HBb.out.mono HB0.out.size)⟩
      · have hxn : ¬ x < 0 := by omega
        rcases HBT5.out with ⟨hz, rfl, rfl, rfl⟩ | ⟨zn, rfl, hz2, rfl, rfl, rfl⟩
        · obtain ⟨m0, m1, m2⟩ := z3_cells HM8.out
          obtain ⟨n0, n1, n2⟩ := z3_cells HN8.out
          rcases hz with hz | hz
          · have hzn : ¬ 2 < z := by omega
            go_wp2_with fail
            go_ret
            exact ⟨rfl, HB0.out.trans (HB8.out.mono HB0.out.size)⟩
          · have hzn : ¬ z < 0 := by omega
            go_wp2_with fail
            go_ret
            exact ⟨rfl, HB0.out.trans (HB8.out.mono HB0.out.size)⟩
        · have hz0 : ¬ (zn : Int) < 0 := by omega
          have hz3 : ¬ 2 < (zn : Int) := by omega
          have hch := HCH.out w8 HB8.out
          have HBZ := hide (HBO.out zn hz2 w8 (HZW.out w8 HB8.out))
          obtain ⟨r1, hr1⟩ : ∃ r1, (bG (-1001) zn 0 p).1 = r1 := ⟨_, rfl⟩
          obtain ⟨r2, hr2⟩ : ∃ r2, (bG (-1001) zn 0 p).2 = r2 := ⟨_, rfl⟩
          rw [hr1, hr2] at HBZ
          rw [hr2] at HM8
          try rw [hr1]
          try rw [hr2]
          clear hr1 hr2 HBT5 HBO
          go_wp2_with (refine wpList_load_ch rfl (.tmp 4) rfl w.heap.size rfl hch ?_)
          refine HBZ.out.mono ?_
          rintro r wa ⟨rfl, hb⟩
          have HBa : Hid (Below w1.heap.size w1 wa) := hide (HB8.out.trans (hb.mono HB8.out.size))
          have HMa := hide (HM8.out.mono hb)
          clear hb hch HBZ
          obtain ⟨d3, hd3⟩ : ∃ d3, wa.heap.size = d3 := ⟨_, rfl⟩
          have VE : Vb (wa.alloc (.cells #[.int .i64 0, .int .i64 0, .int .i64 0] 42)) d3 42 [.int .i64 0, .int .i64 0, .int .i64 0] := by rw [← hd3]; exact Vb.new wa 42 _
          have ba : Below wa.heap.size wa (wa.alloc (.cells #[.int .i64 0, .int .i64 0, .int .i64 0] 42)) := (Below.refl _ _).alloc (Nat.le_refl _) _
          go_upto_region 19 with (refine wpList_store_vb rfl 42 (.tmp 17) (.tmp 109) rfl d3 (mvC r2) _ (by simp [Act.eval]) rfl VE rfl row26 (mvC_one _) ?_; intro wb Vb_ Kb)
          have bb : Below wa.heap.size wa wb := ba.trans (Kb.below ba.size (fun j hj q => by omega))
          have HBb : Hid (Below w1.heap.size w1 wb) := hide (HBa.out.trans (bb.mono HBa.out.size))
          have m0 := (HMa.out.mono bb).cell (i := 0) rfl
          have m1 := (HMa.out.mono bb).cell (i := 1) rfl
          have m2 := (HMa.out.mono bb).cell (i := 2) rfl
          have n0 := Vb_.cell (i := 0) rfl
          have n1 := Vb_.cell (i := 1) rfl
          have n2 := Vb_.cell (i := 2) rfl
          try rw [hd3]
          clear VE ba Kb bb Vb_ hd3 HMa
          go_wp2_with fail
          go_ret
          exact ⟨rfl, HB0.out.trans (HBb.out.mono HB0.out.size)⟩
    · clear HRW3
      have hx0 : ¬ (xn : Int) < 0 := by omega
      have hx4 : ¬ 3 < (xn : Int) := by omega
      by_cases hy : y = 1 ∨ y = 2
      · have HRX := hide (HRO.out xn hx3 hy w8 (HZW.out w8 HB8.out))
        have hre := re_yes hy
        rw [hre]
        clear hre
        obtain ⟨rv, hrv⟩ : ∃ rv, rvR p xn y = rv := ⟨_, rfl⟩
        rw [hrv] at HRX ⊢
        clear hrv HRO
        have hch := HCH.out w8 HB8.out
        rcases hy with rfl | rfl
        · go_wp2_with (refine wpList_load_ch rfl (.tmp 4) rfl w.heap.size rfl hch ?_)
          refine HRX.out.mono ?_
          rintro r w9 ⟨rfl, hb⟩
          have HB9 : Hid (Below w1.heap.size w1 w9) := hide (HB8.out.trans (hb.mono HB8.out.size))
          have HM9 := hide (HM8.out.mono hb)
          have HN9 := hide (HN8.out.mono hb)
          clear hb hch HRX HM8 HN8
          rcases HBT5.out with ⟨hz, rfl, rfl, rfl⟩ | ⟨zn, rfl, hz2, rfl, rfl, rfl⟩
          · obtain ⟨m0, m1, m2⟩ := z3_cells HM9.out
            obtain ⟨n0, n1, n2⟩ := z3_cells HN9.out
            rcases hz with hz | hz
            · have hzn : ¬ 2 < z := by omega
              go_wp2_with fail
              go_ret
              exact ⟨rfl, HB0.out.trans (HB9.out.mono HB0.out.size)⟩
            · have hzn : ¬ z < 0 := by omega
              go_wp2_with fail
              go_ret
              exact ⟨rfl, HB0.out.trans (HB9.out.mono HB0.out.size)⟩
          · have hz0 : ¬ (zn : Int) < 0 := by omega
            have hz3 : ¬ 2 < (zn : Int) := by omega
            have hch := HCH.out w9 HB9.out
            have HBZ := hide (HBO.out zn hz2 w9 (HZW.out w9 HB9.out))
            obtain ⟨r1, hr1⟩ : ∃ r1, (bG (-1001) zn 0 p).1 = r1 := ⟨_, rfl⟩
            obtain ⟨r2, hr2⟩ : ∃ r2, (bG (-1001) zn 0 p).2 = r2 := ⟨_, rfl⟩
            rw [hr1, hr2] at HBZ
            rw [hr2] at HM9
            try rw [hr1]
            try rw [hr2]
            clear hr1 hr2 HBT5 HBO
            go_wp2_with (refine wpList_load_ch rfl (.tmp 4) rfl w.heap.size rfl hch ?_)
            refine HBZ.out.mono ?_
            rintro r wa ⟨rfl, hb⟩
            have HBa : Hid (Below w1.heap.size w1 wa) := hide (HB9.out.trans (hb.mono HB9.out.size))
            have HMa := hide (HM9.out.mono hb)
            clear hb hch HBZ
            obtain ⟨d3, hd3⟩ : ∃ d3, wa.heap.size = d3 := ⟨_, rfl⟩
            have VE : Vb (wa.alloc (.cells #[.int .i64 0, .int .i64 0, .int .i64 0] 42)) d3 42 [.int .i64 0, .int .i64 0, .int .i64 0] := by rw [← hd3]; exact Vb.new wa 42 _
            have ba : Below wa.heap.size wa (wa.alloc (.cells #[.int .i64 0, .int .i64 0, .int .i64 0] 42)) := (Below.refl _ _).alloc (Nat.le_refl _) _
            go_upto_region 19 with (refine wpList_store_vb rfl 42 (.tmp 17) (.tmp 109) rfl d3 (mvC r2) _ (by simp [Act.eval]) rfl VE rfl row26 (mvC_one _) ?_; intro wb Vb_ Kb)
            have bb : Below wa.heap.size wa wb := ba.trans (Kb.below ba.size (fun j hj q => by omega))
            have HBb : Hid (Below w1.heap.size w1 wb) := hide (HBa.out.trans (bb.mono HBa.out.size))
            have m0 := (HMa.out.mono bb).cell (i := 0) rfl
            have m1 := (HMa.out.mono bb).cell (i := 1) rfl
            have m2 := (HMa.out.mono bb).cell (i := 2) rfl
            have n0 := Vb_.cell (i := 0) rfl
            have n1 := Vb_.cell (i := 1) rfl
            have n2 := Vb_.cell (i := 2) rfl
            try rw [hd3]
            clear VE ba Kb bb Vb_ hd3 HMa
            go_wp2_with fail
            go_ret
            exact ⟨rfl, HB0.out.trans (HBb.out.mono HB0.out.size)⟩
        · go_wp2_with (refine wpList_load_ch rfl (.tmp 4) rfl w.heap.size rfl hch ?_)
          refine HRX.out.mono ?_
          rintro r w9 ⟨rfl, hb⟩
          have HB9 : Hid (Below w1.heap.size w1 w9) := hide (HB8.out.trans (hb.mono HB8.out.size))
          have HM9 := hide (HM8.out.mono hb)
          have HN9 := hide (HN8.out.mono hb)
          clear hb hch HRX HM8 HN8
          rcases HBT5.out with ⟨hz, rfl, rfl, rfl⟩ | ⟨zn, rfl, hz2, rfl, rfl, rfl⟩
          · obtain ⟨m0, m1, m2⟩ := z3_cells HM9.out
            obtain ⟨n0, n1, n2⟩ := z3_cells HN9.out
            rcases hz with hz | hz
            · have hzn : ¬ 2 < z := by omega
              go_wp2_with fail
              go_ret
              exact ⟨rfl, HB0.out.trans (HB9.out.mono HB0.out.size)⟩
            · have hzn : ¬ z < 0 := by omega
              go_wp2_with fail
              go_ret
              exact ⟨rfl, HB0.out.trans (HB9.out.mono HB0.out.size)⟩
          · have hz0 : ¬ (zn : Int) < 0 := by omega
            have hz3 : ¬ 2 < (zn : Int) := by omega
            have hch := HCH.out w9 HB9.out
            have HBZ := hide (HBO.out zn hz2 w9 (HZW.out w9 HB9.out))
            obtain ⟨r1, hr1⟩ : ∃ r1, (bG (-1001) zn 0 p).1 = r1 := ⟨_, rfl⟩
            obtain ⟨r2, hr2⟩ : ∃ r2, (bG (-1001) zn 0 p).2 = r2 := ⟨_, rfl⟩
            rw [hr1, hr2] at HBZ
            rw [hr2] at HM9
            try rw [hr1]
            try rw [hr2]
            clear hr1 hr2 HBT5 HBO
            go_wp2_with (refine wpList_load_ch rfl (.tmp 4) rfl w.heap.size rfl hch ?_)
            refine HBZ.out.mono ?_
            rintro r wa ⟨rfl, hb⟩
            have HBa : Hid (Below w1.heap.size w1 wa) := hide (HB9.out.trans (hb.mono HB9.out.size))
            have HMa := hide (HM9.out.mono hb)
            clear hb hch HBZ
            obtain ⟨d3, hd3⟩ : ∃ d3, wa.heap.size = d3 := ⟨_, rfl⟩
            have VE : Vb (wa.alloc (.cells #[.int .i64 0, .int .i64 0, .int .i64 0] 42)) d3 42 [.int .i64 0, .int .i64 0, .int .i64 0] := by rw [← hd3]; exact Vb.new wa 42 _
            have ba : Below wa.heap.size wa (wa.alloc (.cells #[.int .i64 0, .int .i64 0, .int .i64 0] 42)) := (Below.refl _ _).alloc (Nat.le_refl _) _
            go_upto_region 19 with (refine wpList_store_vb rfl 42 (.tmp 17) (.tmp 109) rfl d3 (mvC r2) _ (by simp [Act.eval]) rfl VE rfl row26 (mvC_one _) ?_; intro wb Vb_ Kb)
            have bb : Below wa.heap.size wa wb := ba.trans (Kb.below ba.size (fun j hj q => by omega))
            have HBb : Hid (Below w1.heap.size w1 wb) := hide (HBa.out.trans (bb.mono HBa.out.size))
            have m0 := (HMa.out.mono bb).cell (i := 0) rfl
            have m1 := (HMa.out.mono bb).cell (i := 1) rfl
            have m2 := (HMa.out.mono bb).cell (i := 2) rfl
            have n0 := Vb_.cell (i := 0) rfl
            have n1 := Vb_.cell (i := 1) rfl
            have n2 := Vb_.cell (i := 2) rfl
            try rw [hd3]
            clear VE ba Kb bb Vb_ hd3 HMa
            go_wp2_with fail
            go_ret
            exact ⟨rfl, HB0.out.trans (HBb.out.mono HB0.out.size)⟩
      · have hre := re_no hy
        have hrv := rv_no (p := p) (x := xn) hy
        have y1 : (y == 1) = false := by rw [beq_eq_false_iff_ne]; omega
        have y2 : (y == 2) = false := by rw [beq_eq_false_iff_ne]; omega
        have y3 : (y != 1) = true := by simp; omega
        have y4 : (y != 2) = true := by simp; omega
        rw [hre, hrv]
        clear hre hrv HRO
        rcases HBT5.out with ⟨hz, rfl, rfl, rfl⟩ | ⟨zn, rfl, hz2, rfl, rfl, rfl⟩
        · obtain ⟨m0, m1, m2⟩ := z3_cells HM8.out
          obtain ⟨n0, n1, n2⟩ := z3_cells HN8.out
          rcases hz with hz | hz
          · have hzn : ¬ 2 < z := by omega
            go_wp2_with fail
            go_ret
            exact ⟨rfl, HB0.out.trans (HB8.out.mono HB0.out.size)⟩
          · have hzn : ¬ z < 0 := by omega
            go_wp2_with fail
            go_ret
            exact ⟨rfl, HB0.out.trans (HB8.out.mono HB0.out.size)⟩
        · have hz0 : ¬ (zn : Int) < 0 := by omega
          have hz3 : ¬ 2 < (zn : Int) := by omega
          have hch := HCH.out w8 HB8.out
          have HBZ := hide (HBO.out zn hz2 w8 (HZW.out w8 HB8.out))
          obtain ⟨r1, hr1⟩ : ∃ r1, (bG (-1001) zn 0 p).1 = r1 := ⟨_, rfl⟩
          obtain ⟨r2, hr2⟩ : ∃ r2, (bG (-1001) zn 0 p).2 = r2 := ⟨_, rfl⟩
          rw [hr1, hr2] at HBZ
          rw [hr2] at HM8
          try rw [hr1]
          try rw [hr2]
          clear hr1 hr2 HBT5 HBO
          go_wp2_with (refine wpList_load_ch rfl (.tmp 4) rfl w.heap.size rfl hch ?_)
          refine HBZ.out.mono ?_
          rintro r wa ⟨rfl, hb⟩
          have HBa : Hid (Below w1.heap.size w1 wa) := hide (HB8.out.trans (hb.mono HB8.out.size))
          have HMa := hide (HM8.out.mono hb)
          clear hb hch HBZ
          obtain ⟨d3, hd3⟩ : ∃ d3, wa.heap.size = d3 := ⟨_, rfl⟩
          have VE : Vb (wa.alloc (.cells #[.int .i64 0, .int .i64 0, .int .i64 0] 42)) d3 42 [.int .i64 0, .int .i64 0, .int .i64 0] := by rw [← hd3]; exact Vb.new wa 42 _
          have ba : Below wa.heap.size wa (wa.alloc (.cells #[.int .i64 0, .int .i64 0, .int .i64 0] 42)) := (Below.refl _ _).alloc (Nat.le_refl _) _
          go_upto_region 19 with (refine wpList_store_vb rfl 42 (.tmp 17) (.tmp 109) rfl d3 (mvC r2) _ (by simp [Act.eval]) rfl VE rfl row26 (mvC_one _) ?_; intro wb Vb_ Kb)
          have bb : Below wa.heap.size wa wb := ba.trans (Kb.below ba.size (fun j hj q => by omega))
          have HBb : Hid (Below w1.heap.size w1 wb) := hide (HBa.out.trans (bb.mono HBa.out.size))
          have m0 := (HMa.out.mono bb).cell (i := 0) rfl
          have m1 := (HMa.out.mono bb).cell (i := 1) rfl
          have m2 := (HMa.out.mono bb).cell (i := 2) rfl
          have n0 := Vb_.cell (i := 0) rfl
          have n1 := Vb_.cell (i := 1) rfl
          have n2 := Vb_.cell (i := 2) rfl
          try rw [hd3]
          clear VE ba Kb bb Vb_ hd3 HMa
          go_wp2_with fail
          go_ret
          exact ⟨rfl, HB0.out.trans (HBb.out.mono HB0.out.size)⟩
  · rw [dB_f hM] at HCM
    go_enter Tryd.func4, Tryd.ntmps4
    go_upto_region 1 with fail
    clear hw1
    go_wp2_with (refine wpList_load_ch rfl (.tmp 4) rfl w.heap.size rfl hch ?_)
    refine (HOF.out w1 HB1.out).mono ?_
    rintro r w2 ⟨a2, c2, rfl, hR, hb⟩
    have HB2 : Hid (Below w1.heap.size w1 w2) := hide (HB1.out.trans (hb.mono HB1.out.size))
    have HR2 := hide hR
    clear hch hb hR
    go_wp2_with fail
    refine (Rows_no a2 n c2 Z t k e h f he1 he2 w2 HR2.out (HTW.out w2 HB2.out) x y hM).mono ?_
    rintro r w3 ⟨rfl, hb⟩
    have HB3 : Hid (Below w1.heap.size w1 w3) := hide (HB2.out.trans (hb.mono HB2.out.size))
    have hch := HCH.out w3 HB3.out
    clear hb
    go_wp2_with (refine wpList_load_ch rfl (.tmp 4) rfl w.heap.size rfl hch ?_)
    refine (HOF.out w3 HB3.out).mono ?_
    rintro r w4 ⟨a4, c4, rfl, hR, hb⟩
    have HB4 : Hid (Below w1.heap.size w1 w4) := hide (HB3.out.trans (hb.mono HB3.out.size))
    have HR4 := hide hR
    clear hch hb hR
    go_wp2_with fail
    refine (Best_no a4 n c4 Z t k e h f he1 he2 w4 HR4.out (HTW.out w4 HB4.out) z hM).mono ?_
    rintro r w5 ⟨rfl, hb⟩
    have HB5 : Hid (Below w1.heap.size w1 w5) := hide (HB4.out.trans (hb.mono HB4.out.size))
    clear hb
    obtain ⟨bm, hbm⟩ : ∃ bm : Nat × Nat × Nat, bm = (0, 0, 0) := ⟨_, rfl⟩
    rw [← hbm]
    have HBM := hide hbm
    clear hbm
    obtain ⟨d, hd⟩ : ∃ d, w5.heap.size = d := ⟨_, rfl⟩
    have VD : Vb (w5.alloc (.cells #[.int .i64 0, .int .i64 0, .int .i64 0] 42)) d 42 [.int .i64 0, .int .i64 0, .int .i64 0] := by rw [← hd]; exact Vb.new w5 42 _
    have b5 : Below w5.heap.size w5 (w5.alloc (.cells #[.int .i64 0, .int .i64 0, .int .i64 0] 42)) := (Below.refl _ _).alloc (Nat.le_refl _) _
    go_upto_region 3 with (refine wpList_store_vb rfl 42 (.tmp 12) (.tmp 32) rfl d (mvC bm) _ (by simp [Act.eval]) rfl VD rfl row26 (mvC_one _) ?_; intro w6 V6 K6)
    have b6 : Below w5.heap.size w5 w6 := b5.trans (K6.below b5.size (fun j hj q => by omega))
    have HB6 : Hid (Below w1.heap.size w1 w6) := hide (HB5.out.trans (b6.mono HB5.out.size))
    have HV6 := hide V6
    try rw [hd]
    clear VD b5 K6 b6 V6 hd
    obtain ⟨d2, hd2⟩ : ∃ d2, w6.heap.size = d2 := ⟨_, rfl⟩
    obtain ⟨w7, hw7⟩ : ∃ w7, w6.alloc (.cells #[.int .i64 0, .int .i64 0, .int .i64 0] 42) = w7 := ⟨_, rfl⟩
    have V7 : Vb w7 d2 42 (mvC (0, 0, 0)) := by rw [← hw7, ← hd2]; exact Vb.new w6 42 _
    have b7 : Below w6.heap.size w6 w7 := by rw [← hw7]; exact (Below.refl _ _).alloc (Nat.le_refl _) _
    have HB7 : Hid (Below w1.heap.size w1 w7) := hide (HB6.out.trans (b7.mono HB6.out.size))
    have HM7 := hide (HV6.out.mono b7)
    have HN7 := hide V7
    clear V7 b7 HV6
    go_upto_region 4 with fail
    try rw [hw7]
    try rw [hd2]
    clear hw7 hd2
    have hch := HCH.out w7 HB7.out
    go_wp2_with (refine wpList_load_ch rfl (.tmp 4) rfl w.heap.size rfl hch ?_)
    refine (HCM.out w7 HB7.out).mono ?_
    rintro r w8 ⟨rfl, hb⟩
    have HB8 : Hid (Below w1.heap.size w1 w8) := hide (HB7.out.trans (hb.mono HB7.out.size))
    have HM8 := hide (HM7.out.mono hb)
    have HN8 := hide (HN7.out.mono hb)
    clear hb hch HM7 HN7
    rw [HBM.out] at HM8
    obtain ⟨m0, m1, m2⟩ := z3_cells HM8.out
    obtain ⟨n0, n1, n2⟩ := z3_cells HN8.out
    go_wp2_with fail
    go_ret
    exact ⟨rfl, HB0.out.trans (HB8.out.mono HB0.out.size)⟩

end Go.Proofs.YtdmlamnonbmboaaDoor
