/-
  Chess: the document's material, walked. No conditions beyond those that each theorem bears.
  Chess problems: whether nobody can move, and the document's result, walked. No conditions beyond those that each theorem bears.
  Chess problems: the best value so many moves deep, and its first move. No conditions beyond those that each theorem bears.
-/
import Derived.Test.YtdmlamnonbmboaaDoorQ12
import Derived.Test.YtdmlamnonbmboaaDoorQ38
import Derived.Test.YtdmlamnonbmboaaDoorQ42
import Derived.Test.YtdmlamnonbmboaaDoorQ14
namespace Go.Proofs.YtdmlamnonbmboaaDoor
open Go.RowKit Go.Shelf

theorem wv_eq (x : Int) : sg x * wo x.natAbs = wv x := rfl
theorem wT_at {j : Nat} : wT.getD j 0 = wo j := rfl
theorem wT_len : wT.length = 7 := rfl
theorem kc_zero (Z : List Int) (j : Nat) : kc Z j 0 = 0 := rfl
theorem shc_zero (Z : List Int) (j : Nat) : shc Z j 0 = 0 := rfl

theorem sg_bd0 (x : Int) : -1 ≤ sg x ∧ sg x ≤ 1 := by
  unfold sg
  split
  · omega
  · split <;> omega

attribute [local irreducible] wo wv mS kc shc sg wT

set_option maxRecDepth 100000 in
set_option maxHeartbeats 16000000 in
theorem MaterialOf_any (a : Option Addr) (c : Nat) (Z : List Int) (t k e h f : Int) (hz : Pz Z) (w : World) (hR : Rd w a 64 c Z) :
    Calls Tryd.prog 38 #[.agg (chA a 64 c t k e h f)] w fun r w' => r = .returned (.tuple #[.int .i64 (mS Z 64), .bool (tl Z)]) ∧ Below w.heap.size w w' := by
  have hcm := hR.max
  unfold maxLen at hcm
  have hcc := hR.cap
  obtain ⟨bk, off, rfl, hc⟩ := hR.cells (by omega)
  obtain ⟨w1, hw1⟩ : ∃ w1, w.alloc (.cells (chA (some ⟨bk, off, none⟩) 64 c t k e h f) 24) = w1 := ⟨_, rfl⟩
  have B1 : Below w.heap.size w w1 := by rw [← hw1]; exact (Below.refl _ w).alloc (Nat.le_refl _) _
  have C1 : Ch w1 w.heap.size (some ⟨bk, off, none⟩) 64 c t k e h f := by rw [← hw1]; exact Ch.new w _ 64 c t k e h f
  have HB1 := hide B1
  have HC : Hid (∀ i, i < 64 → w1.cell? ⟨bk, off + i, none⟩ = some (.int .i64 (zg Z i))) := hide (fun i hi => (B1.cell (p := ⟨bk, off + i, none⟩) (World.block_lt_of_cell? w _ (hc i hi))).trans (hc i hi))
  have HG0 := hide C1.cells.1
  have HZB := hide hz.2
  have HBD := hide (mS_bd hz)
  have HSU := hide (mS_succ Z)
  have HZE := hide (mS_zero Z)
  have HSZ := hide (fun (x : Int) (n : Nat) (hx : x.natAbs = n) (hn : n ≤ 6) (w : World) => (show Calls Tryd.prog 25 #[.int .i64 x] w fun e w' => e = .returned (.int .i64 (n : Nat)) ∧ w' = w by rw [← hx]; exact size_any x (by omega) (by omega) w))
  have HSG := hide signOf_any
  have HTL : Hid (tl Z = (decide (kc Z 1 64 + kc Z 4 64 + kc Z 5 64 = 0) && (decide (kc Z 2 64 + kc Z 3 64 ≤ 1) || (decide (kc Z 2 64 = 0) && (decide (shc Z 1 64 = 0) || decide (shc Z 0 64 = 0)))))) := hide rfl
  obtain ⟨rr, hrr⟩ : ∃ rr, tl Z = rr := ⟨_, rfl⟩
  rw [hrr] at HTL ⊢
  clear hR hc hz hrr B1 C1
  go_enter Tryd.func38, Tryd.ntmps38
  go_upto_region 1 with fail
  clear hw1
  go_wp2_with fail
  go_loopw [4, 5, 6, 7, 8, 9, 10] (fun u4 u5 u6 u7 u8 u9 v wr => ∃ (i mi : Nat) (db : Bool), v = .int .i64 i ∧ i ≤ 64 ∧ u4 = .int .i64 (mS Z i) ∧ u5 = .int .i64 (mi : Nat) ∧ u6 = .int .i64 (kc Z 2 i : Nat) ∧ u7 = .int .i64 (shc Z 1 i : Nat) ∧ u8 = .int .i64 (shc Z 0 i : Nat) ∧ u9 = .bool db ∧ Hid (mi = kc Z 2 i + kc Z 3 i) ∧ Hid (db = decide (kc Z 1 i + kc Z 4 i + kc Z 5 i = 0)) ∧ Hid (Below w1.heap.size w1 wr)) (fun _ _ _ _ _ _ v _ => 64 - (intOf v).toNat)
  case atStart =>
    refine ⟨0, 0, true, rfl, by omega, by rw [HZE.out], rfl, by rw [kc_zero]; rfl, by rw [shc_zero]; rfl, by rw [shc_zero]; rfl, rfl, hide (by rw [kc_zero, kc_zero]), hide (by rw [kc_zero, kc_zero, kc_zero]; rfl), hide (Below.refl _ _)⟩
  case round =>
    obtain ⟨i, mi, db, rfl, hi, rfl, rfl, rfl, rfl, rfl, rfl, hmi, hdb, hbl⟩ := hrel
    by_cases hlt : i < 64
    · have hlt' : (i : Int) < 64 := by omega
      have hzb := HZB.out i
      have hbd := HBD.out i
      have HS := hide (HSU.out i)
      have HE := hide (wv_eq (zg Z i))
      have hwv := wv_bd hzb.1 hzb.2
      have g0 := (hbl.out.cell (p := ⟨w.heap.size, 0, none⟩) (World.block_lt_of_cell? w1 _ HG0.out)).trans HG0.out
      have cz := (hbl.out.cell (p := ⟨bk, off + i, none⟩) (World.block_lt_of_cell? w1 _ (HC.out i hlt))).trans (HC.out i hlt)
      obtain ⟨x, hx⟩ : ∃ x, (zg Z i).natAbs = x := ⟨_, rfl⟩
      have hx6 : x ≤ 6 := by omega
      have HK1 := hide (kc_succ Z 1 i)
      have HK2 := hide (kc_succ Z 2 i)
      have HK3 := hide (kc_succ Z 3 i)
      have HK4 := hide (kc_succ Z 4 i)
      have HK5 := hide (kc_succ Z 5 i)
      have HH0 := hide (shc_succ Z 0 i)
      have HH1 := hide (shc_succ Z 1 i)
      have l1 := kc_le Z 1 i
      have l2 := kc_le Z 2 i
      have l3 := kc_le Z 3 i
      have l4 := kc_le Z 4 i
      have l5 := kc_le Z 5 i
      have l6 := shc_le Z 0 i
      have l7 := shc_le Z 1 i
      have HXZ := hide (HSZ.out (zg Z i) x hx hx6)
      have HGZ := hide (HSG.out (zg Z i))
      rw [hx] at HK1 HK2 HK3 HK4 HK5 HH0 HH1 HE
      have hsg := sg_bd0 (zg Z i)
      generalize mS Z i = m at *
      generalize wv (zg Z i) = wz at *
      generalize sg (zg Z i) = sz at *
      generalize zg Z i = z at *
      obtain ⟨w2, hw2⟩ : ∃ w2, wr.alloc (.cells #[.int .i64 0, .int .i64 1, .int .i64 3, .int .i64 3, .int .i64 5, .int .i64 9, .int .i64 0] 3) = w2 := ⟨_, rfl⟩
      have B2 : Below w1.heap.size w1 w2 := by rw [← hw2]; exact hbl.out.alloc hbl.out.size _
      have ct := (show Blk w2 wr.heap.size 3 wT by rw [← hw2]; exact Blk.new wr 3 wT _ (by unfold wT; rfl)).cell (i := x) (by rw [wT_len]; omega)
      rw [wT_at] at ct
      have HB2 := hide B2
      have hwo := wo_bd hx6
      generalize wo x = wx at *
      have hmul : sz * wx = wz := HE.out
      generalize kc Z 1 i = n1 at *
      generalize kc Z 2 i = n2 at *
      generalize kc Z 3 i = n3 at *
      generalize kc Z 4 i = n4 at *
      generalize kc Z 5 i = n5 at *
      generalize shc Z 0 i = m0 at *
      generalize shc Z 1 i = m1 at *
      clear B2 HE hbl hx hzb
      go_upto_region 8 with (first | (go_at_call 63; refine (HGZ.out _).mono ?_; rintro e w5 ⟨rfl, hw⟩; subst w5) | (go_at_call 25; refine (HXZ.out _).mono ?_; rintro e w5 ⟨rfl, hw⟩; subst w5))
      clear hmul ct g0 cz hw2
      have HS' := hide HS.out
      have hx7 : x = 0 ∨ x = 1 ∨ x = 2 ∨ x = 3 ∨ x = 4 ∨ x = 5 ∨ x = 6 := by omega
      have hmb : mi ≤ 128 := by have := hmi.out; omega
      rcases hx7 with rfl | rfl | rfl | rfl | rfl | rfl | rfl
      · rw [if_neg (by decide)] at HK1
        rw [if_neg (by decide)] at HK2
        rw [if_neg (by decide)] at HK3
        rw [if_neg (by decide)] at HK4
        rw [if_neg (by decide)] at HK5
        rw [if_neg (fun e => absurd e.1 (by decide))] at HH0
        rw [if_neg (fun e => absurd e.1 (by decide))] at HH1
        go_wp2_with (go_at_call 25; refine (HXZ.out _).mono ?_; rintro e w5 ⟨rfl, hw⟩; subst w5)
        exact ⟨⟨i + 1, mi, db, by go_num, by omega, by rw [HS.out], by first | rfl | go_num, by first | (rw [HK2.out]; done) | (rw [HK2.out]; rfl) | (rw [HK2.out]; go_num), by first | (rw [HH1.out]; done) | (rw [HH1.out]; rfl) | (rw [HH1.out]; go_num), by first | (rw [HH0.out]; done) | (rw [HH0.out]; rfl) | (rw [HH0.out]; go_num), rfl, hide (by first | (rw [HK2.out, HK3.out, hmi.out]; done) | (rw [HK2.out, HK3.out, hmi.out]; omega)), hide (by rw [HK1.out, HK4.out, HK5.out]; exact hdb.out), HB2⟩, by simp [intOf]; omega⟩
      · rw [if_pos rfl] at HK1
        rw [if_neg (by decide)] at HK2
        rw [if_neg (by decide)] at HK3
        rw [if_neg (by decide)] at HK4
        rw [if_neg (by decide)] at HK5
        rw [if_neg (fun e => absurd e.1 (by decide))] at HH0
        rw [if_neg (fun e => absurd e.1 (by decide))] at HH1
        go_wp2_with (go_at_call 25; refine (HXZ.out _).mono ?_; rintro e w5 ⟨rfl, hw⟩; subst w5)
        exact ⟨⟨i + 1, mi, false, by go_num, by omega, by rw [HS.out], by first | rfl | go_num, by first | (rw [HK2.out]; done) | (rw [HK2.out]; rfl) | (rw [HK2.out]; go_num), by first | (rw [HH1.out]; done) | (rw [HH1.out]; rfl) | (rw [HH1.out]; go_num), by first | (rw [HH0.out]; done) | (rw [HH0.out]; rfl) | (rw [HH0.out]; go_num), rfl, hide (by first | (rw [HK2.out, HK3.out, hmi.out]; done) | (rw [HK2.out, HK3.out, hmi.out]; omega)), hide (by rw [HK1.out, HK4.out, HK5.out]; (rw [eq_comm, decide_eq_false_iff_not]; omega)), HB2⟩, by simp [intOf]; omega⟩
      · rw [if_neg (by decide)] at HK1
        rw [if_pos rfl] at HK2
        rw [if_neg (by decide)] at HK3
        rw [if_neg (by decide)] at HK4
        rw [if_neg (by decide)] at HK5
        rw [if_neg (fun e => absurd e.1 (by decide))] at HH0
        rw [if_neg (fun e => absurd e.1 (by decide))] at HH1
        go_wp2_with (go_at_call 25; refine (HXZ.out _).mono ?_; rintro e w5 ⟨rfl, hw⟩; subst w5)
        exact ⟨⟨i + 1, mi + 1, db, by go_num, by omega, by rw [HS.out], by first | rfl | go_num, by first | (rw [HK2.out]; done) | (rw [HK2.out]; rfl) | (rw [HK2.out]; go_num), by first | (rw [HH1.out]; done) | (rw [HH1.out]; rfl) | (rw [HH1.out]; go_num), by first | (rw [HH0.out]; done) | (rw [HH0.out]; rfl) | (rw [HH0.out]; go_num), rfl, hide (by first | (rw [HK2.out, HK3.out, hmi.out]; done) | (rw [HK2.out, HK3.out, hmi.out]; omega)), hide (by rw [HK1.out, HK4.out, HK5.out]; exact hdb.out), HB2⟩, by simp [intOf]; omega⟩
      · rw [if_neg (by decide)] at HK1
        rw [if_neg (by decide)] at HK2
        rw [if_pos rfl] at HK3
        rw [if_neg (by decide)] at HK4
        rw [if_neg (by decide)] at HK5
        by_cases hq : (i / 8 + i % 8) % 2 = 0
        · have hq1 : ¬ (i / 8 + i % 8) % 2 = 1 := by omega
          rw [if_pos ⟨rfl, hq⟩] at HH0
          rw [if_neg (fun e => hq1 e.2)] at HH1
          have hqi : ((i : Int) % 8 + (i : Int) / 8) % 2 = 0 := by omega
          clear hq hq1
          go_wp2_with (go_at_call 25; refine (HXZ.out _).mono ?_; rintro e w5 ⟨rfl, hw⟩; subst w5)
          exact ⟨⟨i + 1, mi + 1, db, by go_num, by omega, by rw [HS.out], by first | rfl | go_num, by first | (rw [HK2.out]; done) | (rw [HK2.out]; rfl) | (rw [HK2.out]; go_num), by first | (rw [HH1.out]; done) | (rw [HH1.out]; rfl) | (rw [HH1.out]; go_num), by first | (rw [HH0.out]; done) | (rw [HH0.out]; rfl) | (rw [HH0.out]; go_num), rfl, hide (by first | (rw [HK2.out, HK3.out, hmi.out]; done) | (rw [HK2.out, HK3.out, hmi.out]; omega)), hide (by rw [HK1.out, HK4.out, HK5.out]; exact hdb.out), HB2⟩, by simp [intOf]; omega⟩
        · have hq1 : (i / 8 + i % 8) % 2 = 1 := by omega
          rw [if_neg (fun e => hq e.2)] at HH0
          rw [if_pos ⟨rfl, hq1⟩] at HH1
          have hqi : ((i : Int) % 8 + (i : Int) / 8) % 2 = 1 := by omega
          clear hq hq1
          go_wp2_with (go_at_call 25; refine (HXZ.out _).mono ?_; rintro e w5 ⟨rfl, hw⟩; subst w5)
          exact ⟨⟨i + 1, mi + 1, db, by go_num, by omega, by rw [HS.out], by first | rfl | go_num, by first | (rw [HK2.out]; done) | (rw [HK2.out]; rfl) | (rw [HK2.out]; go_num), by first | (rw [HH1.out]; done) | (rw [HH1.out]; rfl) | (rw [HH1.out]; go_num), by first | (rw [HH0.out]; done) | (rw [HH0.out]; rfl) | (rw [HH0.out]; go_num), rfl, hide (by first | (rw [HK2.out, HK3.out, hmi.out]; done) | (rw [HK2.out, HK3.out, hmi.out]; omega)), hide (by rw [HK1.out, HK4.out, HK5.out]; exact hdb.out), HB2⟩, by simp [intOf]; omega⟩
      · rw [if_neg (by decide)] at HK1
        rw [if_neg (by decide)] at HK2
        rw [if_neg (by decide)] at HK3
        rw [if_pos rfl] at HK4
        rw [if_neg (by decide)] at HK5
        rw [if_neg (fun e => absurd e.1 (by decide))] at HH0
        rw [if_neg (fun e => absurd e.1 (by decide))] at HH1
        go_wp2_with (go_at_call 25; refine (HXZ.out _).mono ?_; rintro e w5 ⟨rfl, hw⟩; subst w5)
        exact ⟨⟨i + 1, mi, false, by go_num, by omega, by rw [HS.out], by first | rfl | go_num, by first | (rw [HK2.out]; done) | (rw [HK2.out]; rfl) | (rw [HK2.out]; go_num), by first | (rw [HH1.out]; done) | (rw [HH1.out]; rfl) | (rw [HH1.out]; go_num), by first | (rw [HH0.out]; done) | (rw [HH0.out]; rfl) | (rw [HH0.out]; go_num), rfl, hide (by first | (rw [HK2.out, HK3.out, hmi.out]; done) | (rw [HK2.out, HK3.out, hmi.out]; omega)), hide (by rw [HK1.out, HK4.out, HK5.out]; (rw [eq_comm, decide_eq_false_iff_not]; omega)), HB2⟩, by simp [intOf]; omega⟩
      · rw [if_neg (by decide)] at HK1
        rw [if_neg (by decide)] at HK2
        rw [if_neg (by decide)] at HK3
        rw [if_neg (by decide)] at HK4
        rw [if_pos rfl] at HK5
        rw [if_neg (fun e => absurd e.1 (by decide))] at HH0
        rw [if_neg (fun e => absurd e.1 (by decide))] at HH1
        go_wp2_with (go_at_call 25; refine (HXZ.out _).mono ?_; rintro e w5 ⟨rfl, hw⟩; subst w5)
        exact ⟨⟨i + 1, mi, false, by go_num, by omega, by rw [HS.out], by first | rfl | go_num, by first | (rw [HK2.out]; done) | (rw [HK2.out]; rfl) | (rw [HK2.out]; go_num), by first | (rw [HH1.out]; done) | (rw [HH1.out]; rfl) | (rw [HH1.out]; go_num), by first | (rw [HH0.out]; done) | (rw [HH0.out]; rfl) | (rw [HH0.out]; go_num), rfl, hide (by first | (rw [HK2.out, HK3.out, hmi.out]; done) | (rw [HK2.out, HK3.out, hmi.out]; omega)), hide (by rw [HK1.out, HK4.out, HK5.out]; (rw [eq_comm, decide_eq_false_iff_not]; omega)), HB2⟩, by simp [intOf]; omega⟩
      · rw [if_neg (by decide)] at HK1
        rw [if_neg (by decide)] at HK2
        rw [if_neg (by decide)] at HK3
        rw [if_neg (by decide)] at HK4
        rw [if_neg (by decide)] at HK5
        rw [if_neg (fun e => absurd e.1 (by decide))] at HH0
        rw [if_neg (fun e => absurd e.1 (by decide))] at HH1
        go_wp2_with (go_at_call 25; refine (HXZ.out _).mono ?_; rintro e w5 ⟨rfl, hw⟩; subst w5)
        exact ⟨⟨i + 1, mi, db, by go_num, by omega, by rw [HS.out], by first | rfl | go_num, by first | (rw [HK2.out]; done) | (rw [HK2.out]; rfl) | (rw [HK2.out]; go_num), by first | (rw [HH1.out]; done) | (rw [HH1.out]; rfl) | (rw [HH1.out]; go_num), by first | (rw [HH0.out]; done) | (rw [HH0.out]; rfl) | (rw [HH0.out]; go_num), rfl, hide (by first | (rw [HK2.out, HK3.out, hmi.out]; done) | (rw [HK2.out, HK3.out, hmi.out]; omega)), hide (by rw [HK1.out, HK4.out, HK5.out]; exact hdb.out), HB2⟩, by simp [intOf]; omega⟩
    · obtain rfl : i = 64 := by omega
      have l1 := kc_le Z 1 64
      have l2 := kc_le Z 2 64
      have l3 := kc_le Z 3 64
      have l4 := kc_le Z 4 64
      have l5 := kc_le Z 5 64
      have l6 := shc_le Z 0 64
      have l7 := shc_le Z 1 64
      have HBF : Hid (Below w.heap.size w wr) := hide (HB1.out.trans (hbl.out.mono HB1.out.size))
      generalize kc Z 1 64 = n1 at *
      generalize kc Z 2 64 = n2 at *
      generalize kc Z 3 64 = n3 at *
      generalize kc Z 4 64 = n4 at *
      generalize kc Z 5 64 = n5 at *
      generalize shc Z 0 64 = m0 at *
      generalize shc Z 1 64 = m1 at *
      rw [← hdb.out, ← hmi.out] at HTL
      have hmb : mi ≤ 128 := by have := hmi.out; omega
      clear hbl hmi
      cases db with
      | false =>
        rw [Bool.false_and] at HTL
        go_wp2_with fail
        go_ret2
        exact ⟨by rw [HTL.out]; rfl, HBF.out⟩
      | true =>
        rw [Bool.true_and] at HTL
        by_cases q1 : mi ≤ 1
        · have q1' : (mi : Int) ≤ 1 := by omega
          rw [decide_eq_true q1, Bool.true_or] at HTL
          go_wp2_with fail
          go_ret2
          exact ⟨by rw [HTL.out]; rfl, HBF.out⟩
        · have q1' : decide ((mi : Int) ≤ 1) = false := by simp; omega
          rw [decide_eq_false q1, Bool.false_or] at HTL
          by_cases q2 : n2 = 0
          · subst q2
            rw [decide_eq_true rfl, Bool.true_and] at HTL
            by_cases q3 : m1 = 0
            · subst q3
              rw [decide_eq_true rfl, Bool.true_or] at HTL
              go_wp2_with fail
              go_ret2
              exact ⟨by rw [HTL.out]; rfl, HBF.out⟩
            · have q3' : ((m1 : Int) == 0) = false := by simp; omega
              rw [decide_eq_false q3, Bool.false_or] at HTL
              by_cases q4 : m0 = 0
              · subst q4
                rw [decide_eq_true rfl] at HTL
                go_wp2_with fail
                go_ret2
                exact ⟨by rw [HTL.out]; rfl, HBF.out⟩
              · have q4' : ((m0 : Int) == 0) = false := by simp; omega
                rw [decide_eq_false q4] at HTL
                go_wp2_with fail
                go_ret2
                exact ⟨by rw [HTL.out]; rfl, HBF.out⟩
          · have q2' : ((n2 : Int) == 0) = false := by simp; omega
            rw [decide_eq_false q2, Bool.false_and] at HTL
            go_wp2_with fail
            go_ret2
            exact ⟨by rw [HTL.out]; rfl, HBF.out⟩

end Go.Proofs.YtdmlamnonbmboaaDoor

namespace Go.Proofs.YtdmlamnonbmboaaDoor
open Go.RowKit Go.Shelf

/-- There is no check, and no move. -/
def skP (p : Ps) : Bool := !(ckP p) && (mvs p).isEmpty
def resP (p : Ps) : Int := if (mvs p).isEmpty = true then (if ckP p = true then 1 else 2) else if tl p.Z = true then 3 else if 100 ≤ p.h then 4 else 0

attribute [local irreducible] mvs ckP tl mS
attribute [local go_sem] Oper.semAt_some wide_fn wide_fn0 wide_depth

set_option maxRecDepth 100000 in
set_option maxHeartbeats 1000000 in
theorem stuck_any (b : Nat) (p : Ps) (hM : MayP p) (w : World) (hs : Sp w b p) (hT : TabS w) (hZ : TzT w) :
    Calls Tryd.prog 35 #[.pointer (some ⟨b, 0, none⟩)] w fun r w' => r = .returned (.bool (skP p)) ∧ Below w.heap.size w w' := by
  have HIC : Hid (∀ W, Sp W b p → TabS W → Calls Tryd.prog 60 #[.pointer (some ⟨b, 0, none⟩)] W fun r w' => r = .returned (.bool (ckP p)) ∧ Below W.heap.size W w') := hide (fun W h1 h2 => by
    have := inCheckS_any b p.Z p.t (p.k : Nat) p.e (p.h : Nat) (p.f : Nat) hM.t1 (kf p.Z p.t) (kf_kg hM.st p.t).fst W h1 h2
    unfold ckP
    exact this)
  have HCA := hide (fun W (h1 : Sp W b p) h2 h3 => canMove_any b p hM W h1 h2 h3)
  have HR : Hid (skP p = (!(ckP p) && (mvs p).isEmpty)) := hide rfl
  have HS := hide hs
  have HT := hide hT
  have HZ := hide hZ
  obtain ⟨me, hme⟩ : ∃ me, (mvs p).isEmpty = me := ⟨_, rfl⟩
  obtain ⟨cb, hcb⟩ : ∃ cb, ckP p = cb := ⟨_, rfl⟩
  obtain ⟨rs, hrs⟩ : ∃ rs, skP p = rs := ⟨_, rfl⟩
  rw [hme] at HCA HR
  rw [hcb] at HIC HR
  rw [hrs] at HR ⊢
  clear hme hcb hrs hs hT hZ hM
  go_enter Tryd.func35, Tryd.ntmps35
  go_wp2_with fail
  refine (HIC.out w HS.out HT.out).mono ?_
  rintro r w1 ⟨rfl, hb1⟩
  have HB1 := hide hb1
  clear hb1
  cases cb with
  | false =>
    go_wp2_with fail
    refine (HCA.out w1 (HS.out.mono HB1.out) (HT.out.mono HB1.out) (HZ.out.mono HB1.out)).mono ?_
    rintro r w2 ⟨rfl, hb2⟩
    have HB2 := hide (HB1.out.trans (hb2.mono HB1.out.size))
    clear hb2
    go_wp2_with fail
    go_ret
    exact ⟨by rw [HR.out]; simp, HB2.out⟩
  | true =>
    go_wp2_with fail
    go_ret
    exact ⟨by rw [HR.out]; rfl, HB1.out⟩

set_option maxRecDepth 100000 in
set_option maxHeartbeats 8000000 in
theorem ResultOf_any (a : Option Addr) (c : Nat) (p : Ps) (hM : MayP p) (w : World) (hR : Rd w a 64 c p.Z) :
    Calls Tryd.prog 37 #[.agg (chP a c p)] w fun r w' => r = .returned (.int .i64 (resP p)) ∧ Below w.heap.size w w' := by
  obtain ⟨g, hg⟩ : ∃ g, w.heap.size = g := ⟨_, rfl⟩
  obtain ⟨w1, hw1⟩ : ∃ w1, w.alloc (.cells (chP a c p) 24) = w1 := ⟨_, rfl⟩
  have B1 : Below w.heap.size w w1 := by rw [← hw1]; exact (Below.refl _ w).alloc (Nat.le_refl _) _
  have C1 : Ch w1 g a 64 c (p.t : Nat) (p.k : Nat) p.e (p.h : Nat) (p.f : Nat) := by rw [← hw1, ← hg]; exact Ch.new w a 64 c _ _ _ _ _
  have hR1 := hR.mono B1
  have HMA := hide (MovesAll_any a c p hM w1 hR1)
  have HCH : Hid (∀ W, Below w1.heap.size w1 W → Ch W g a 64 c (p.t : Nat) (p.k : Nat) p.e (p.h : Nat) (p.f : Nat)) := hide (fun W hb => C1.below hb C1.lt)
  have HIC : Hid (∀ W, Below w1.heap.size w1 W → Calls Tryd.prog 26 #[.slice a 64 c, .int .i64 (p.t : Nat)] W fun r w' => r = .returned (.bool (ckP p)) ∧ Below W.heap.size W w') := hide (fun W hb => by
    rw [ckP_atL hM]
    exact InCheckR_any a c p.Z p.t _ hM.t1 (kf_kg hM.st p.t).fst hM.st.pz W (hR1.mono hb))
  have HMT : Hid (∀ W, Below w1.heap.size w1 W → Calls Tryd.prog 38 #[.agg (chP a c p)] W fun r w' => r = .returned (.tuple #[.int .i64 (mS p.Z 64), .bool (tl p.Z)]) ∧ Below W.heap.size W w') := hide (fun W hb => MaterialOf_any a c p.Z _ _ _ _ _ hM.st.pz W (hR1.mono hb))
  obtain ⟨res, hres⟩ : ∃ res, resP p = res := ⟨_, rfl⟩
  have HRS : Hid ((if (mvs p).isEmpty = true then (if ckP p = true then (1 : Int) else 2) else if tl p.Z = true then 3 else if 100 ≤ p.h then 4 else 0) = res) := hide (by rw [← hres]; rfl)
  rw [hres]
  obtain ⟨N, hN⟩ : ∃ N, (mvs p).length = N := ⟨_, rfl⟩
  have HNE : Hid ((mvs p).isEmpty = decide (N = 0)) := hide (by rw [← hN]; cases mvs p <;> simp)
  rw [HNE.out] at HRS
  rw [hN] at HMA
  generalize ckP p = cb at *
  generalize tl p.Z = tb at *
  generalize mS p.Z 64 = ms at *
  have HB1 := hide B1
  clear B1 hR hR1 hM hN HNE hres
  go_enter Tryd.func37, Tryd.ntmps37
  go_upto_region 1 with fail
  try rw [hg]
  have HG := hide hg
  clear hw1 hg
  go_wp2_with (refine wpList_load_ch rfl (.tmp 1) rfl g rfl C1 ?_)
  refine HMA.out.mono ?_
  rintro r w2 ⟨ad, cp, rfl, -, hb2⟩
  have HB2 : Hid (Below w1.heap.size w1 w2) := hide hb2
  clear hb2 C1 HMA
  by_cases h0 : N = 0
  · subst h0
    obtain ⟨x0, x1, -, -, -, -⟩ := (HCH.out w2 HB2.out).cells
    go_wp2_with fail
    refine (HIC.out w2 HB2.out).mono ?_
    rintro r w3 ⟨rfl, hb3⟩
    have HB3 : Hid (Below w1.heap.size w1 w3) := hide (HB2.out.trans (hb3.mono HB2.out.size))
    clear hb3 x0 x1
    cases cb with
    | true =>
      have HR : Hid ((1 : Int) = res) := hide (by simpa using HRS.out)
      go_wp2_with fail
      go_ret
      exact ⟨by first | rfl | (rw [← HR.out]; rfl), HB1.out.trans (HB3.out.mono HB1.out.size)⟩
    | false =>
      have HR : Hid ((2 : Int) = res) := hide (by simpa using HRS.out)
      go_wp2_with fail
      go_ret
      exact ⟨by first | rfl | (rw [← HR.out]; rfl), HB1.out.trans (HB3.out.mono HB1.out.size)⟩
  · have h0b : ((N : Int) == 0) = false := by rw [beq_eq_false_iff_ne]; omega
    rw [decide_eq_false h0] at HRS
    clear h0
    have C2 := HCH.out w2 HB2.out
    go_wp2_with (refine wpList_load_ch rfl (.tmp 1) rfl g rfl C2 ?_)
    refine (HMT.out w2 HB2.out).mono ?_
    rintro r w3 ⟨rfl, hb3⟩
    have HB3 : Hid (Below w1.heap.size w1 w3) := hide (HB2.out.trans (hb3.mono HB2.out.size))
    clear hb3 C2
    obtain ⟨-, -, -, -, y4, -⟩ := (HCH.out w3 HB3.out).cells
    cases tb with
    | true =>
      have HR : Hid ((3 : Int) = res) := hide (by simpa using HRS.out)
      go_wp2_with fail
      go_ret
      exact ⟨by first | rfl | (rw [← HR.out]; rfl), HB1.out.trans (HB3.out.mono HB1.out.size)⟩
    | false =>
      by_cases hh : 100 ≤ p.h
      · have hb : ((p.h : Nat) : Int) ≥ 100 := by omega
        have HR : Hid ((4 : Int) = res) := hide (by simpa [hh] using HRS.out)
        go_wp2_with fail
        go_ret
        exact ⟨by first | rfl | (rw [← HR.out]; rfl), HB1.out.trans (HB3.out.mono HB1.out.size)⟩
      · have hb : ¬ ((p.h : Nat) : Int) ≥ 100 := by omega
        have HR : Hid ((0 : Int) = res) := hide (by simpa [hh] using HRS.out)
        go_wp2_with fail
        go_ret
        exact ⟨by first | rfl | (rw [← HR.out]; rfl), HB1.out.trans (HB3.out.mono HB1.out.size)⟩


end Go.Proofs.YtdmlamnonbmboaaDoor

namespace Go.Proofs.YtdmlamnonbmboaaDoor

/-- One more move looked at. -/
def bStep (f : Nat × Nat × Nat → Int) (acc : Int × (Nat × Nat × Nat)) (m : Nat × Nat × Nat) : Int × (Nat × Nat × Nat) := if acc.1 < -(f m) then (-(f m), m) else acc
/-- The best that the mover can reach, with so many more moves ahead, looked for from a value 'lo' on; and its first move to it. -/
def bG (lo : Int) : Nat → Int → Ps → Int × (Nat × Nat × Nat)
  | 0, made, p => if mtP p = true then (made - 1000, (0, 0, 0)) else if skP p = true then (0, (0, 0, 0)) else (pci p.t (mS p.Z 64), (0, 0, 0))
  | l + 1, made, p => if mtP p = true then (made - 1000, (0, 0, 0)) else if skP p = true then (0, (0, 0, 0)) else (mvs p).foldl (bStep fun m => (bG lo l (made + 1) (nxP p m)).1) (lo, (0, 0, 0))
theorem bG_mt {lo : Int} {l : Nat} {made : Int} {p : Ps} (h : mtP p = true) : bG lo l made p = (made - 1000, (0, 0, 0)) := by
  cases l <;> rw [bG, if_pos h]
theorem bG_sk {lo : Int} {l : Nat} {made : Int} {p : Ps} (h : mtP p = false) (h2 : skP p = true) : bG lo l made p = (0, (0, 0, 0)) := by
  cases l <;> rw [bG, if_neg (by rw [h]; simp), if_pos h2]
theorem bG_end {lo : Int} {made : Int} {p : Ps} (h : mtP p = false) (h2 : skP p = false) : bG lo 0 made p = (pci p.t (mS p.Z 64), (0, 0, 0)) := by
  rw [bG, if_neg (by rw [h]; simp), if_neg (by rw [h2]; simp)]
theorem bG_on {lo : Int} {l : Nat} {made : Int} {p : Ps} (h : mtP p = false) (h2 : skP p = false) : bG lo (l + 1) made p = (mvs p).foldl (bStep fun m => (bG lo l (made + 1) (nxP p m)).1) (lo, (0, 0, 0)) := by
  rw [bG, if_neg (by rw [h]; simp), if_neg (by rw [h2]; simp)]
theorem mvs_ne {p : Ps} (h : mtP p = false) (h2 : skP p = false) : mvs p ≠ [] := by
  intro e
  unfold mtP at h
  unfold skP at h2
  rw [e] at h h2
  cases hc : ckP p <;> rw [hc] at h h2 <;> simp at h h2
theorem fold_bd {f : Nat × Nat × Nat → Int} : ∀ (L : List (Nat × Nat × Nat)) (acc : Int × (Nat × Nat × Nat)), (∀ m ∈ L, -1000 ≤ f m ∧ f m ≤ 1000) → -1000 ≤ acc.1 ∧ acc.1 ≤ 1000 → -1000 ≤ (L.foldl (bStep f) acc).1 ∧ (L.foldl (bStep f) acc).1 ≤ 1000
  | [], acc, _, h => h
  | m :: L, acc, hf, h => by
    rw [List.foldl_cons]
    refine fold_bd L _ (fun x hx => hf x (List.mem_cons_of_mem _ hx)) ?_
    have := hf m (by simp)
    unfold bStep
    split
    · constructor
      · show -1000 ≤ -(f m); omega
      · show -(f m) ≤ 1000; omega
    · exact h
theorem fold_first {f : Nat × Nat × Nat → Int} {lo : Int} (hlo : lo < -1000) {m : Nat × Nat × Nat} (hf : f m ≤ 1000) (L : List (Nat × Nat × Nat)) : (m :: L).foldl (bStep f) (lo, (0, 0, 0)) = L.foldl (bStep f) (-(f m), m) := by
  rw [List.foldl_cons]
  congr 1
  unfold bStep
  rw [if_pos (by show lo < -(f m); omega)]
theorem fold_congr {f g : Nat × Nat × Nat → Int} : ∀ (L : List (Nat × Nat × Nat)) (acc : Int × (Nat × Nat × Nat)), (∀ m ∈ L, f m = g m) → L.foldl (bStep f) acc = L.foldl (bStep g) acc
  | [], acc, _ => rfl
  | m :: L, acc, h => by
    rw [List.foldl_cons, List.foldl_cons]
    have : bStep f acc m = bStep g acc m := by unfold bStep; rw [h m (by simp)]
    rw [this]
    exact fold_congr L _ (fun x hx => h x (List.mem_cons_of_mem _ hx))
theorem pci_bd {b : Nat} {x : Int} (h1 : -1000 ≤ x) (h2 : x ≤ 1000) : -1000 ≤ pci b x ∧ pci b x ≤ 1000 := by
  unfold pci
  split <;> omega
theorem bG_bd {lo : Int} (hlo : lo < -1000) : ∀ (l : Nat) (made : Int) (p : Ps), MayP p → 0 ≤ made → made + l ≤ 1000 → -1000 ≤ (bG lo l made p).1 ∧ (bG lo l made p).1 ≤ 1000 := by
  intro l
  induction l with
  | zero =>
    intro made p hM h0 h1
    cases h : mtP p with
    | true => rw [bG_mt h]; dsimp only; omega
    | false =>
      cases h2 : skP p with
      | true => rw [bG_sk h h2]; dsimp only; omega
      | false =>
        rw [bG_end h h2]
        have := mS_bd hM.st.pz 64
        exact pci_bd (by omega) (by omega)
  | succ l ih =>
    intro made p hM h0 h1
    cases h : mtP p with
    | true => rw [bG_mt h]; dsimp only; omega
    | false =>
      cases h2 : skP p with
      | true => rw [bG_sk h h2]; dsimp only; omega
      | false =>
        rw [bG_on h h2]
        have hb : ∀ m ∈ mvs p, -1000 ≤ (bG lo l (made + 1) (nxP p m)).1 ∧ (bG lo l (made + 1) (nxP p m)).1 ≤ 1000 := fun m hm => ih (made + 1) (nxP p m) (may_nx hM hm) (by omega) (by omega)
        cases hL : mvs p with
        | nil => exact absurd hL (mvs_ne h h2)
        | cons m L =>
          rw [hL] at hb
          rw [fold_first hlo (hb m (by simp)).2]
          refine fold_bd L _ (fun x hx => hb x (List.mem_cons_of_mem _ hx)) ?_
          have := hb m (by simp)
          constructor
          · show -1000 ≤ -_; omega
          · show -_ ≤ 1000; omega
/-- From which value one looks does not matter. -/
theorem bG_eq {lo lo' : Int} (hlo : lo < -1000) (hlo' : lo' < -1000) : ∀ (l : Nat) (made : Int) (p : Ps), MayP p → 0 ≤ made → made + l ≤ 1000 → bG lo l made p = bG lo' l made p := by
  intro l
  induction l with
  | zero =>
    intro made p _ _ _
    rw [bG, bG]
  | succ l ih =>
    intro made p hM h0 h1
    cases h : mtP p with
    | true => rw [bG_mt h, bG_mt h]
    | false =>
      cases h2 : skP p with
      | true => rw [bG_sk h h2, bG_sk h h2]
      | false =>
        rw [bG_on h h2, bG_on h h2]
        have he : ∀ m ∈ mvs p, (bG lo l (made + 1) (nxP p m)).1 = (bG lo' l (made + 1) (nxP p m)).1 := fun m hm => by rw [ih (made + 1) (nxP p m) (may_nx hM hm) (by omega) (by omega)]
        have hb : ∀ m ∈ mvs p, (bG lo' l (made + 1) (nxP p m)).1 ≤ 1000 := fun m hm => (bG_bd hlo' l (made + 1) (nxP p m) (may_nx hM hm) (by omega) (by omega)).2
        rw [fold_congr _ _ he]
        cases hL : mvs p with
        | nil => exact absurd hL (mvs_ne h h2)
        | cons m L =>
          rw [hL] at hb
          rw [fold_first hlo (hb m (by simp)), fold_first hlo' (hb m (by simp))]

end Go.Proofs.YtdmlamnonbmboaaDoor
