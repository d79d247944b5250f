/-
  Chess: the document's material, walked. No conditions beyond those that each theorem bears.
  Chess: what the law of moves asks besides: rows of moves compared. No conditions beyond those that each theorem bears.
-/
import Derived.Test.YtdmlamnonbmboaaDoorQ12
import Derived.Test.YtdmlamnonbmboaaDoorQ45
import Derived.Test.YtdmlamnonbmboaaDoorQ34
namespace Go.Proofs.YtdmlamnonbmboaaDoor
open Go.RowKit Go.Shelf

theorem wv_eq (x : Int) : sg x * wo x.natAbs = wv x := rfl
theorem wT_at {j : Nat} : wT.getD j 0 = wo j := rfl
theorem wT_len : wT.length = 7 := rfl
theorem kc_zero (Z : List Int) (j : Nat) : kc Z j 0 = 0 := rfl
theorem shc_zero (Z : List Int) (j : Nat) : shc Z j 0 = 0 := rfl

theorem sg_bd0 (x : Int) : -1 ≤ sg x ∧ sg x ≤ 1 := by
  unfold sg
  split
  · omega
  · split <;> omega

attribute [local irreducible] wo wv mS kc shc sg wT

set_option maxRecDepth 100000 in
set_option maxHeartbeats 16000000 in
theorem MaterialOf_any (a : Option Addr) (c : Nat) (Z : List Int) (t k e h f : Int) (hz : Pz Z) (w : World) (hR : Rd w a 64 c Z) :
    Calls Tryd.prog 38 #[.agg (chA a 64 c t k e h f)] w fun r w' => r = .returned (.tuple #[.int .i64 (mS Z 64), .bool (tl Z)]) ∧ Below w.heap.size w w' := by
  have hcm := hR.max
  unfold maxLen at hcm
  have hcc := hR.cap
  obtain ⟨bk, off, rfl, hc⟩ := hR.cells (by omega)
  obtain ⟨w1, hw1⟩ : ∃ w1, w.alloc (.cells (chA (some ⟨bk, off, none⟩) 64 c t k e h f) 24) = w1 := ⟨_, rfl⟩
  have B1 : Below w.heap.size w w1 := by rw [← hw1]; exact (Below.refl _ w).alloc (Nat.le_refl _) _
  have C1 : Ch w1 w.heap.size (some ⟨bk, off, none⟩) 64 c t k e h f := by rw [← hw1]; exact Ch.new w _ 64 c t k e h f
  have HB1 := hide B1
  have HC : Hid (∀ i, i < 64 → w1.cell? ⟨bk, off + i, none⟩ = some (.int .i64 (zg Z i))) := hide (fun i hi => (B1.cell (p := ⟨bk, off + i, none⟩) (World.block_lt_of_cell? w _ (hc i hi))).trans (hc i hi))
  have HG0 := hide C1.cells.1
  have HZB := hide hz.2
  have HBD := hide (mS_bd hz)
  have HSU := hide (mS_succ Z)
  have HZE := hide (mS_zero Z)
  have HSZ := hide (fun (x : Int) (n : Nat) (hx : x.natAbs = n) (hn : n ≤ 6) (w : World) => (show Calls Tryd.prog 25 #[.int .i64 x] w fun e w' => e = .returned (.int .i64 (n : Nat)) ∧ w' = w by rw [← hx]; exact size_any x (by omega) (by omega) w))
  have HSG := hide signOf_any
  have HTL : Hid (tl Z = (decide (kc Z 1 64 + kc Z 4 64 + kc Z 5 64 = 0) && (decide (kc Z 2 64 + kc Z 3 64 ≤ 1) || (decide (kc Z 2 64 = 0) && (decide (shc Z 1 64 = 0) || decide (shc Z 0 64 = 0)))))) := hide rfl
  obtain ⟨rr, hrr⟩ : ∃ rr, tl Z = rr := ⟨_, rfl⟩
  rw [hrr] at HTL ⊢
  clear hR hc hz hrr B1 C1
  go_enter Tryd.func38, Tryd.ntmps38
  go_upto_region 1 with fail
  clear hw1
  go_wp2_with fail
  go_loopw [4, 5, 6, 7, 8, 9, 10] (fun u4 u5 u6 u7 u8 u9 v wr => ∃ (i mi : Nat) (db : Bool), v = .int .i64 i ∧ i ≤ 64 ∧ u4 = .int .i64 (mS Z i) ∧ u5 = .int .i64 (mi : Nat) ∧ u6 = .int .i64 (kc Z 2 i : Nat) ∧ u7 = .int .i64 (shc Z 1 i : Nat) ∧ u8 = .int .i64 (shc Z 0 i : Nat) ∧ u9 = .bool db ∧ Hid (mi = kc Z 2 i + kc Z 3 i) ∧ Hid (db = decide (kc Z 1 i + kc Z 4 i + kc Z 5 i = 0)) ∧ Hid (Below w1.heap.size w1 wr)) (fun _ _ _ _ _ _ v _ => 64 - (intOf v).toNat)
  case atStart =>
    refine ⟨0, 0, true, rfl, by omega, by rw [HZE.out], rfl, by rw [kc_zero]; rfl, by rw [shc_zero]; rfl, by rw [shc_zero]; rfl, rfl, hide (by rw [kc_zero, kc_zero]), hide (by rw [kc_zero, kc_zero, kc_zero]; rfl), hide (Below.refl _ _)⟩
  case round =>
    obtain ⟨i, mi, db, rfl, hi, rfl, rfl, rfl, rfl, rfl, rfl, hmi, hdb, hbl⟩ := hrel
    by_cases hlt : i < 64
    · have hlt' : (i : Int) < 64 := by omega
      have hzb := HZB.out i
      have hbd := HBD.out i
      have HS := hide (HSU.out i)
      have HE := hide (wv_eq (zg Z i))
      have hwv := wv_bd hzb.1 hzb.2
      have g0 := (hbl.out.cell (p := ⟨w.heap.size, 0, none⟩) (World.block_lt_of_cell? w1 _ HG0.out)).trans HG0.out
      have cz := (hbl.out.cell (p := ⟨bk, off + i, none⟩) (World.block_lt_of_cell? w1 _ (HC.out i hlt))).trans (HC.out i hlt)
      obtain ⟨x, hx⟩ : ∃ x, (zg Z i).natAbs = x := ⟨_, rfl⟩
      have hx6 : x ≤ 6 := by omega
      have HK1 := hide (kc_succ Z 1 i)
      have HK2 := hide (kc_succ Z 2 i)
      have HK3 := hide (kc_succ Z 3 i)
      have HK4 := hide (kc_succ Z 4 i)
      have HK5 := hide (kc_succ Z 5 i)
      have HH0 := hide (shc_succ Z 0 i)
      have HH1 := hide (shc_succ Z 1 i)
      have l1 := kc_le Z 1 i
      have l2 := kc_le Z 2 i
      have l3 := kc_le Z 3 i
      have l4 := kc_le Z 4 i
      have l5 := kc_le Z 5 i
      have l6 := shc_le Z 0 i
      have l7 := shc_le Z 1 i
      have HXZ := hide (HSZ.out (zg Z i) x hx hx6)
      have HGZ := hide (HSG.out (zg Z i))
      rw [hx] at HK1 HK2 HK3 HK4 HK5 HH0 HH1 HE
      have hsg := sg_bd0 (zg Z i)
      generalize mS Z i = m at *
      generalize wv (zg Z i) = wz at *
      generalize sg (zg Z i) = sz at *
      generalize zg Z i = z at *
      obtain ⟨w2, hw2⟩ : ∃ w2, wr.alloc (.cells #[.int .i64 0, .int .i64 1, .int .i64 3, .int .i64 3, .int .i64 5, .int .i64 9, .int .i64 0] 3) = w2 := ⟨_, rfl⟩
      have B2 : Below w1.heap.size w1 w2 := by rw [← hw2]; exact hbl.out.alloc hbl.out.size _
      have ct := (show Blk w2 wr.heap.size 3 wT by rw [← hw2]; exact Blk.new wr 3 wT _ (by unfold wT; rfl)).cell (i := x) (by rw [wT_len]; omega)
      rw [wT_at] at ct
      have HB2 := hide B2
      have hwo := wo_bd hx6
      generalize wo x = wx at *
      have hmul : sz * wx = wz := HE.out
      generalize kc Z 1 i = n1 at *
      generalize kc Z 2 i = n2 at *
      generalize kc Z 3 i = n3 at *
      generalize kc Z 4 i = n4 at *
      generalize kc Z 5 i = n5 at *
      generalize shc Z 0 i = m0 at *
      generalize shc Z 1 i = m1 at *
      clear B2 HE hbl hx hzb
      go_upto_region 8 with (first | (go_at_call 63; refine (HGZ.out _).mono ?_; rintro e w5 ⟨rfl, hw⟩; subst w5) | (go_at_call 25; refine (HXZ.out _).mono ?_; rintro e w5 ⟨rfl, hw⟩; subst w5))
      clear hmul ct g0 cz hw2
      have HS' := hide HS.out
      have hx7 : x = 0 ∨ x = 1 ∨ x = 2 ∨ x = 3 ∨ x = 4 ∨ x = 5 ∨ x = 6 := by omega
      have hmb : mi ≤ 128 := by have := hmi.out; omega
      rcases hx7 with rfl | rfl | rfl | rfl | rfl | rfl | rfl
      · rw [if_neg (by decide)] at HK1
        rw [if_neg (by decide)] at HK2
        rw [if_neg (by decide)] at HK3
        rw [if_neg (by decide)] at HK4
        rw [if_neg (by decide)] at HK5
        rw [if_neg (fun e => absurd e.1 (by decide))] at HH0
        rw [if_neg (fun e => absurd e.1 (by decide))] at HH1
        go_wp2_with (go_at_call 25; refine (HXZ.out _).mono ?_; rintro e w5 ⟨rfl, hw⟩; subst w5)
        exact ⟨⟨i + 1, mi, db, by go_num, by omega, by rw [HS.out], by first | rfl | go_num, by first | (rw [HK2.out]; done) | (rw [HK2.out]; rfl) | (rw [HK2.out]; go_num), by first | (rw [HH1.out]; done) | (rw [HH1.out]; rfl) | (rw [HH1.out]; go_num), by first | (rw [HH0.out]; done) | (rw [HH0.out]; rfl) | (rw [HH0.out]; go_num), rfl, hide (by first | (rw [HK2.out, HK3.out, hmi.out]; done) | (rw [HK2.out, HK3.out, hmi.out]; omega)), hide (by rw [HK1.out, HK4.out, HK5.out]; exact hdb.out), HB2⟩, by simp [intOf]; omega⟩
      · rw [if_pos rfl] at HK1
        rw [if_neg (by decide)] at HK2
        rw [if_neg (by decide)] at HK3
        rw [if_neg (by decide)] at HK4
        rw [if_neg (by decide)] at HK5
        rw [if_neg (fun e => absurd e.1 (by decide))] at HH0
        rw [if_neg (fun e => absurd e.1 (by decide))] at HH1
        go_wp2_with (go_at_call 25; refine (HXZ.out _).mono ?_; rintro e w5 ⟨rfl, hw⟩; subst w5)
        exact ⟨⟨i + 1, mi, false, by go_num, by omega, by rw [HS.out], by first | rfl | go_num, by first | (rw [HK2.out]; done) | (rw [HK2.out]; rfl) | (rw [HK2.out]; go_num), by first | (rw [HH1.out]; done) | (rw [HH1.out]; rfl) | (rw [HH1.out]; go_num), by first | (rw [HH0.out]; done) | (rw [HH0.out]; rfl) | (rw [HH0.out]; go_num), rfl, hide (by first | (rw [HK2.out, HK3.out, hmi.out]; done) | (rw [HK2.out, HK3.out, hmi.out]; omega)), hide (by rw [HK1.out, HK4.out, HK5.out]; (rw [eq_comm, decide_eq_false_iff_not]; omega)), HB2⟩, by simp [intOf]; omega⟩
      · rw [if_neg (by decide)] at HK1
        rw [if_pos rfl] at HK2
        rw [if_neg (by decide)] at HK3
        rw [if_neg (by decide)] at HK4
        rw [if_neg (by decide)] at HK5
        rw [if_neg (fun e => absurd e.1 (by decide))] at HH0
        rw [if_neg (fun e => absurd e.1 (by decide))] at HH1
        go_wp2_with (go_at_call 25; refine (HXZ.out _).mono ?_; rintro e w5 ⟨rfl, hw⟩; subst w5)
        exact ⟨⟨i + 1, mi + 1, db, by go_num, by omega, by rw [HS.out], by first | rfl | go_num, by first | (rw [HK2.out]; done) | (rw [HK2.out]; rfl) | (rw [HK2.out]; go_num), by first | (rw [HH1.out]; done) | (rw [HH1.out]; rfl) | (rw [HH1.out]; go_num), by first | (rw [HH0.out]; done) | (rw [HH0.out]; rfl) | (rw [HH0.out]; go_num), rfl, hide (by first | (rw [HK2.out, HK3.out, hmi.out]; done) | (rw [HK2.out, HK3.out, hmi.out]; omega)), hide (by rw [HK1.out, HK4.out, HK5.out]; exact hdb.out), HB2⟩, by simp [intOf]; omega⟩
      · rw [if_neg (by decide)] at HK1
        rw [if_neg (by decide)] at HK2
        rw [if_pos rfl] at HK3
        rw [if_neg (by decide)] at HK4
        rw [if_neg (by decide)] at HK5
        by_cases hq : (i / 8 + i % 8) % 2 = 0
        · have hq1 : ¬ (i / 8 + i % 8) % 2 = 1 := by omega
          rw [if_pos ⟨rfl, hq⟩] at HH0
          rw [if_neg (fun e => hq1 e.2)] at HH1
          have hqi : ((i : Int) % 8 + (i : Int) / 8) % 2 = 0 := by omega
          clear hq hq1
          go_wp2_with (go_at_call 25; refine (HXZ.out _).mono ?_; rintro e w5 ⟨rfl, hw⟩; subst w5)
          exact ⟨⟨i + 1, mi + 1, db, by go_num, by omega, by rw [HS.out], by first | rfl | go_num, by first | (rw [HK2.out]; done) | (rw [HK2.out]; rfl) | (rw [HK2.out]; go_num), by first | (rw [HH1.out]; done) | (rw [HH1.out]; rfl) | (rw [HH1.out]; go_num), by first | (rw [HH0.out]; done) | (rw [HH0.out]; rfl) | (rw [HH0.out]; go_num), rfl, hide (by first | (rw [HK2.out, HK3.out, hmi.out]; done) | (rw [HK2.out, HK3.out, hmi.out]; omega)), hide (by rw [HK1.out, HK4.out, HK5.out]; exact hdb.out), HB2⟩, by simp [intOf]; omega⟩
        · have hq1 : (i / 8 + i % 8) % 2 = 1 := by omega
          rw [if_neg (fun e => hq e.2)] at HH0
          rw [if_pos ⟨rfl, hq1⟩] at HH1
          have hqi : ((i : Int) % 8 + (i : Int) / 8) % 2 = 1 := by omega
          clear hq hq1
          go_wp2_with (go_at_call 25; refine (HXZ.out _).mono ?_; rintro e w5 ⟨rfl, hw⟩; subst w5)
          exact ⟨⟨i + 1, mi + 1, db, by go_num, by omega, by rw [HS.out], by first | rfl | go_num, by first | (rw [HK2.out]; done) | (rw [HK2.out]; rfl) | (rw [HK2.out]; go_num), by first | (rw [HH1.out]; done) | (rw [HH1.out]; rfl) | (rw [HH1.out]; go_num), by first | (rw [HH0.out]; done) | (rw [HH0.out]; rfl) | (rw [HH0.out]; go_num), rfl, hide (by first | (rw [HK2.out, HK3.out, hmi.out]; done) | (rw [HK2.out, HK3.out, hmi.out]; omega)), hide (by rw [HK1.out, HK4.out, HK5.out]; exact hdb.out), HB2⟩, by simp [intOf]; omega⟩
      · rw [if_neg (by decide)] at HK1
        rw [if_neg (by decide)] at HK2
        rw [if_neg (by decide)] at HK3
        rw [if_pos rfl] at HK4
        rw [if_neg (by decide)] at HK5
        rw [if_neg (fun e => absurd e.1 (by decide))] at HH0
        rw [if_neg (fun e => absurd e.1 (by decide))] at HH1
        go_wp2_with (go_at_call 25; refine (HXZ.out _).mono ?_; rintro e w5 ⟨rfl, hw⟩; subst w5)
        exact ⟨⟨i + 1, mi, false, by go_num, by omega, by rw [HS.out], by first | rfl | go_num, by first | (rw [HK2.out]; done) | (rw [HK2.out]; rfl) | (rw [HK2.out]; go_num), by first | (rw [HH1.out]; done) | (rw [HH1.out]; rfl) | (rw [HH1.out]; go_num), by first | (rw [HH0.out]; done) | (rw [HH0.out]; rfl) | (rw [HH0.out]; go_num), rfl, hide (by first | (rw [HK2.out, HK3.out, hmi.out]; done) | (rw [HK2.out, HK3.out, hmi.out]; omega)), hide (by rw [HK1.out, HK4.out, HK5.out]; (rw [eq_comm, decide_eq_false_iff_not]; omega)), HB2⟩, by simp [intOf]; omega⟩
      · rw [if_neg (by decide)] at HK1
        rw [if_neg (by decide)] at HK2
        rw [if_neg (by decide)] at HK3
        rw [if_neg (by decide)] at HK4
        rw [if_pos rfl] at HK5
        rw [if_neg (fun e => absurd e.1 (by decide))] at HH0
        rw [if_neg (fun e => absurd e.1 (by decide))] at HH1
        go_wp2_with (go_at_call 25; refine (HXZ.out _).mono ?_; rintro e w5 ⟨rfl, hw⟩; subst w5)
        exact ⟨⟨i + 1, mi, false, by go_num, by omega, by rw [HS.out], by first | rfl | go_num, by first | (rw [HK2.out]; done) | (rw [HK2.out]; rfl) | (rw [HK2.out]; go_num), by first | (rw [HH1.out]; done) | (rw [HH1.out]; rfl) | (rw [HH1.out]; go_num), by first | (rw [HH0.out]; done) | (rw [HH0.out]; rfl) | (rw [HH0.out]; go_num), rfl, hide (by first | (rw [HK2.out, HK3.out, hmi.out]; done) | (rw [HK2.out, HK3.out, hmi.out]; omega)), hide (by rw [HK1.out, HK4.out, HK5.out]; (rw [eq_comm, decide_eq_false_iff_not]; omega)), HB2⟩, by simp [intOf]; omega⟩
      · rw [if_neg (by decide)] at HK1
        rw [if_neg (by decide)] at HK2
        rw [if_neg (by decide)] at HK3
        rw [if_neg (by decide)] at HK4
        rw [if_neg (by decide)] at HK5
        rw [if_neg (fun e => absurd e.1 (by decide))] at HH0
        rw [if_neg (fun e => absurd e.1 (by decide))] at HH1
        go_wp2_with (go_at_call 25; refine (HXZ.out _).mono ?_; rintro e w5 ⟨rfl, hw⟩; subst w5)
        exact ⟨⟨i + 1, mi, db, by go_num, by omega, by rw [HS.out], by first | rfl | go_num, by first | (rw [HK2.out]; done) | (rw [HK2.out]; rfl) | (rw [HK2.out]; go_num), by first | (rw [HH1.out]; done) | (rw [HH1.out]; rfl) | (rw [HH1.out]; go_num), by first | (rw [HH0.out]; done) | (rw [HH0.out]; rfl) | (rw [HH0.out]; go_num), rfl, hide (by first | (rw [HK2.out, HK3.out, hmi.out]; done) | (rw [HK2.out, HK3.out, hmi.out]; omega)), hide (by rw [HK1.out, HK4.out, HK5.out]; exact hdb.out), HB2⟩, by simp [intOf]; omega⟩
    · obtain rfl : i = 64 := by omega
      have l1 := kc_le Z 1 64
      have l2 := kc_le Z 2 64
      have l3 := kc_le Z 3 64
      have l4 := kc_le Z 4 64
      have l5 := kc_le Z 5 64
      have l6 := shc_le Z 0 64
      have l7 := shc_le Z 1 64
      have HBF : Hid (Below w.heap.size w wr) := hide (HB1.out.trans (hbl.out.mono HB1.out.size))
      generalize kc Z 1 64 = n1 at *
      generalize kc Z 2 64 = n2 at *
      generalize kc Z 3 64 = n3 at *
      generalize kc Z 4 64 = n4 at *
      generalize kc Z 5 64 = n5 at *
      generalize shc Z 0 64 = m0 at *
      generalize shc Z 1 64 = m1 at *
      rw [← hdb.out, ← hmi.out] at HTL
      have hmb : mi ≤ 128 := by have := hmi.out; omega
      clear hbl hmi
      cases db with
      | false =>
        rw [Bool.false_and] at HTL
        go_wp2_with fail
        go_ret2
        exact ⟨by rw [HTL.out]; rfl, HBF.out⟩
      | true =>
        rw [Bool.true_and] at HTL
        by_cases q1 : mi ≤ 1
        · have q1' : (mi : Int) ≤ 1 := by omega
          rw [decide_eq_true q1, Bool.true_or] at HTL
          go_wp2_with fail
          go_ret2
          exact ⟨by rw [HTL.out]; rfl, HBF.out⟩
        · have q1' : decide ((mi : Int) ≤ 1) = false := by simp; omega
          rw [decide_eq_false q1, Bool.false_or] at HTL
          by_cases q2 : n2 = 0
          · subst q2
            rw [decide_eq_true rfl, Bool.true_and] at HTL
            by_cases q3 : m1 = 0
            · subst q3
              rw [decide_eq_true rfl, Bool.true_or] at HTL
              go_wp2_with fail
              go_ret2
              exact ⟨by rw [HTL.out]; rfl, HBF.out⟩
            · have q3' : ((m1 : Int) == 0) = false := by simp; omega
              rw [decide_eq_false q3, Bool.false_or] at HTL
              by_cases q4 : m0 = 0
              · subst q4
                rw [decide_eq_true rfl] at HTL
                go_wp2_with fail
                go_ret2
                exact ⟨by rw [HTL.out]; rfl, HBF.out⟩
              · have q4' : ((m0 : Int) == 0) = false := by simp; omega
                rw [decide_eq_false q4] at HTL
                go_wp2_with fail
                go_ret2
                exact ⟨by rw [HTL.out]; rfl, HBF.out⟩
          · have q2' : ((n2 : Int) == 0) = false := by simp; omega
            rw [decide_eq_false q2, Bool.false_and] at HTL
            go_wp2_with fail
            go_ret2
            exact ⟨by rw [HTL.out]; rfl, HBF.out⟩

end Go.Proofs.YtdmlamnonbmboaaDoor

namespace Go.Proofs.YtdmlamnonbmboaaDoor
open Go.RowKit Go.Shelf

theorem neq26 (w : World) (a b c x y z : Int) : (binOp .neq 42 (m3 a b c) (m3 x y z)).run Tryd.prog w = .ok (.bool (!(eq3 a b c x y z))) w := by
  have h := eq26 w a b c x y z
  rw [run_eql_struct] at h
  rw [run_neq_struct]
  cases hr : (Op.equalIn 10000 42 (m3 a b c) (m3 x y z)).run Tryd.prog w with
  | ok v w' =>
    rw [hr] at h
    simp only [Result.andThen_ok, Result.ok.injEq, Value.bool.injEq] at h ⊢
    exact ⟨by rw [h.1], h.2⟩
  | _ => rw [hr] at h; simp [Result.andThen] at h
section
variable {ops : Array Oper} {S : World → Prop} {op : Oper} {a : Act}
theorem yields_eq26 (hw : Region.wanted op (yielded ops a.tmps) = true) (x y : Operand) (ho : op.op = .binOp .eql 42 x y 42) {a1 a2 a3 b1 b2 b3 : Int}
    (hx : a.eval x = m3 a1 a2 a3) (hy : a.eval y = m3 b1 b2 b3) : YieldsIf Tryd.prog ops S op (.bool (eq3 a1 a2 a3 b1 b2 b3)) a :=
  .inl ⟨hw, fun w _ => by
    unfold execOp
    have h1 := run_eqGuard_agg (P := Tryd.prog) w .eql 42 x y #[.int .i64 a1, .int .i64 a2, .int .i64 a3] #[.int .i64 b1, .int .i64 b2, .int .i64 b3] guard26
    have h2 := eq26 w a1 a2 a3 b1 b2 b3
    simp only [ho, hx, hy, Sem.run_bind, h1, h2, Result.andThen_ok]
    rfl⟩
theorem yields_neq26 (hw : Region.wanted op (yielded ops a.tmps) = true) (x y : Operand) (ho : op.op = .binOp .neq 42 x y 42) {a1 a2 a3 b1 b2 b3 : Int}
    (hx : a.eval x = m3 a1 a2 a3) (hy : a.eval y = m3 b1 b2 b3) : YieldsIf Tryd.prog ops S op (.bool (!(eq3 a1 a2 a3 b1 b2 b3))) a :=
  .inl ⟨hw, fun w _ => by
    unfold execOp
    have h1 := run_eqGuard_agg (P := Tryd.prog) w .neq 42 x y #[.int .i64 a1, .int .i64 a2, .int .i64 a3] #[.int .i64 b1, .int .i64 b2, .int .i64 b3] guard26
    have h2 := neq26 w a1 a2 a3 b1 b2 b3
    simp only [ho, hx, hy, Sem.run_bind, h1, h2, Result.andThen_ok]
    rfl⟩
end
theorem eq3_self (a b c : Int) : eq3 a b c a b c = true := by unfold eq3; simp

/-- What a row of moves holds, in each world behind. -/
structure Rm3 (w : World) (ad : Option Addr) (n cp : Nat) (L : List (Nat × Nat × Nat)) : Prop where
  len : L.length = n
  cap : n ≤ cp
  max : cp ≤ 9223372036854775807
  at_ : 0 < n → ∃ g, ad = some ⟨g, 0, none⟩ ∧ ∀ W, Below w.heap.size w W → ∀ i m, L[i]? = some m → W.cell? ⟨g, i * 3, none⟩ = some (.int .i64 (m.1 : Nat)) ∧ W.cell? ⟨g, i * 3 + 1, none⟩ = some (.int .i64 (m.2.1 : Nat)) ∧ W.cell? ⟨g, i * 3 + 2, none⟩ = some (.int .i64 (m.2.2 : Nat))
theorem Rm3.of {w : World} {ad : Option Addr} {n cp : Nat} {L : List (Nat × Nat × Nat)} (h : Mr w (.slice ad n cp) L) : Rm3 w ad n cp L := by
  obtain ⟨h1, h2, h3, h4⟩ := h.at
  unfold maxLen at h3
  refine ⟨h1, h2, by omega, fun hp => ?_⟩
  obtain ⟨g, h5, h6⟩ := h4 hp
  refine ⟨g, h5, fun W hb i m hm => ?_⟩
  obtain ⟨z1, z2, z3⟩ := h6 i m hm
  exact ⟨(hb.cell (p := ⟨g, i * 3, none⟩) (World.block_lt_of_cell? w _ z1)).trans z1, (hb.cell (p := ⟨g, i * 3 + 1, none⟩) (World.block_lt_of_cell? w _ z2)).trans z2, (hb.cell (p := ⟨g, i * 3 + 2, none⟩) (World.block_lt_of_cell? w _ z3)).trans z3⟩

theorem Rm3.mono {w w' : World} {ad : Option Addr} {n cp : Nat} {L : List (Nat × Nat × Nat)} (h : Rm3 w ad n cp L) (hb : Below w.heap.size w w') : Rm3 w' ad n cp L :=
  ⟨h.len, h.cap, h.max, fun hp => by
    obtain ⟨g, e, hc⟩ := h.at_ hp
    exact ⟨g, e, fun W hW i m hm => hc W (hb.trans (hW.mono hb.size)) i m hm⟩⟩

set_option maxRecDepth 100000 in
set_option maxHeartbeats 4000000 in
theorem sameMoves_yes (ad ad' : Option Addr) (n cp cp' : Nat) (L : List (Nat × Nat × Nat)) (w : World) (hL : Rm3 w ad n cp L) (hL' : Rm3 w ad' n cp' L) :
    Calls Tryd.prog 12 #[.slice ad n cp, .slice ad' n cp'] w fun r w' => r = .returned (.bool true) ∧ Below w.heap.size w w' := by
  have HAT := hide hL.at_
  have HAT' := hide hL'.at_
  have hlen := hide hL.len
  have hcp := hL.cap
  have hmx := hL.max
  have hcp' := hL'.cap
  have hmx' := hL'.max
  clear hL hL'
  go_enter Tryd.func12, Tryd.ntmps12
  go_wp2_with fail
  go_loopw [5] (fun v wr => ∃ i : Nat, v = .int .i64 i ∧ i ≤ n ∧ Hid (Below w.heap.size w wr)) (fun v _ => n - (intOf v).toNat)
  case atStart => exact ⟨0, rfl, by omega, hide (Below.refl _ _)⟩
  case round =>
    obtain ⟨i, rfl, hi, hb⟩ := hrel
    by_cases hlt : i < n
    · have hlt' : (i : Int) < (n : Int) := by omega
      obtain ⟨m, hm⟩ : ∃ m, L[i]? = some m := ⟨L[i]'(by rw [hlen.out]; exact hlt), List.getElem?_eq_getElem _⟩
      obtain ⟨mb, rfl, hc⟩ := HAT.out (by omega)
      obtain ⟨mb', rfl, hc'⟩ := HAT'.out (by omega)
      have HCM := hide (fun W hW => hc W hW i m hm)
      have HCM' := hide (fun W hW => hc' W hW i m hm)
      clear hm hc hc'
      go_upto_region 6 with fail
      refine wp_region_held (S := fun W5 => Below w.heap.size w W5) (by kernel_rfl) ?_
      change wpAnyH _ _ _ _ _ _ _ _ (World.drew _)
      have SW : (fun W5 => Below w.heap.size w W5) wr.drew := hb.out.trans (drewN_below _ _ 1)
      generalize wr.drew = wd at *
      refine wpAnyH_take (i := 0) (v := .slice (some ⟨mb, 0, none⟩) n cp) rfl (by kernel_rfl) (by kernel_rfl) (by kernel_rfl) (fun _ _ _ h => h) (Or.inl ⟨by rfl, ?_⟩) SW ?_
      · intro W5 hW5
        go_simp <;> first | done | rfl | (rw [IntKind.wrap_i64]; omega) | omega
      go_simp
      refine wpAnyH_take (i := 1) (v := .int .i64 (i : Nat)) rfl (by kernel_rfl) (by kernel_rfl) (by kernel_rfl) (fun _ _ _ h => h) (Or.inl ⟨by rfl, ?_⟩) SW ?_
      · intro W5 hW5
        go_simp <;> first | done | rfl | (rw [IntKind.wrap_i64]; omega) | omega
      go_simp
      refine wpAnyH_take (i := 2) (v := .pointer (some ⟨mb, i * 3, none⟩)) rfl (by kernel_rfl) (by kernel_rfl) (by kernel_rfl) (fun _ _ _ h => h) (Or.inl ⟨by rfl, ?_⟩) SW ?_
      · intro W5 hW5
        go_simp <;> first | done | rfl | (rw [IntKind.wrap_i64]; omega) | omega
      go_simp
      refine wpAnyH_take (i := 3) (v := .agg (mvC m).toArray) rfl (by kernel_rfl) (by kernel_rfl) (by kernel_rfl) (fun _ _ _ h => h) (Or.inl ⟨by rfl, ?_⟩) SW ?_
      · intro W5 hW5
        obtain ⟨y0, y1, y2⟩ := HCM.out W5 hW5
        go_simp <;> first | done | rfl | (rw [IntKind.wrap_i64]; omega) | omega
      go_simp
      refine wpAnyH_take (i := 4) (v := .slice (some ⟨mb', 0, none⟩) n cp') rfl (by kernel_rfl) (by kernel_rfl) (by kernel_rfl) (fun _ _ _ h => h) (Or.inl ⟨by rfl, ?_⟩) SW ?_
      · intro W5 hW5
        go_simp <;> first | done | rfl | (rw [IntKind.wrap_i64]; omega) | omega
      go_simp
      refine wpAnyH_take (i := 5) (v := .int .i64 (i : Nat)) rfl (by kernel_rfl) (by kernel_rfl) (by kernel_rfl) (fun _ _ _ h => h) (Or.inl ⟨by rfl, ?_⟩) SW ?_
      · intro W5 hW5
        go_simp <;> first | done | rfl | (rw [IntKind.wrap_i64]; omega) | omega
      go_simp
      refine wpAnyH_take (i := 6) (v := .pointer (some ⟨mb', i * 3, none⟩)) rfl (by kernel_rfl) (by kernel_rfl) (by kernel_rfl) (fun _ _ _ h => h) (Or.inl ⟨by rfl, ?_⟩) SW ?_
      · intro W5 hW5
        go_simp <;> first | done | rfl | (rw [IntKind.wrap_i64]; omega) | omega
      go_simp
      refine wpAnyH_take (i := 7) (v := .agg (mvC m).toArray) rfl (by kernel_rfl) (by kernel_rfl) (by kernel_rfl) (fun _ _ _ h => h) (Or.inl ⟨by rfl, ?_⟩) SW ?_
      · intro W5 hW5
        obtain ⟨y0, y1, y2⟩ := HCM'.out W5 hW5
        go_simp <;> first | done | rfl | (rw [IntKind.wrap_i64]; omega) | omega
      go_simp
      refine wpAnyH_take (i := 8) (v := .bool (!(eq3 (m.1 : Nat) (m.2.1 : Nat) (m.2.2 : Nat) (m.1 : Nat) (m.2.1 : Nat) (m.2.2 : Nat)))) rfl (by kernel_rfl) (by kernel_rfl) (by kernel_rfl) (fun _ _ _ h => h) (yields_neq26 (by rfl) (.tmp 20) (.tmp 24) rfl (by rfl) (by rfl)) SW ?_
      go_simp
      refine wpAnyH_done (by kernel_rfl) ?_ _
      rw [eq3_self]
      have HBN : Hid (Below w.heap.size w wd) := hide SW
      clear SW hb
      go_wp2_with fail
      exact ⟨⟨i + 1, by go_num, by omega, HBN⟩, by simp [intOf]; omega⟩
    · obtain rfl : i = n := by omega
      go_wp2_with fail
      go_ret
      exact ⟨rfl, hb.out⟩

end Go.Proofs.YtdmlamnonbmboaaDoor
