/-
  Chess: the document's material, walked. No conditions beyond those that each theorem bears.
-/
import Derived.Test.YtdblmcihklcenaaDoorMt0
namespace Go.Proofs.YtdblmcihklcenaaDoor
open Go.RowKit Go.Shelf

theorem wv_eq (x : Int) : sg x * wo x.natAbs = wv x := rfl
theorem wT_at {j : Nat} : wT.getD j 0 = wo j := rfl
theorem wT_len : wT.length = 7 := rfl
theorem kc_zero (Z : List Int) (j : Nat) : kc Z j 0 = 0 := rfl
theorem shc_zero (Z : List Int) (j : Nat) : shc Z j 0 = 0 := rfl

theorem sg_bd0 (x : Int) : -1 ≤ sg x ∧ sg x ≤ 1 := by
  unfold sg
  split
  · omega
  · split <;> omega

attribute [local irreducible] wo wv mS kc shc sg wT

set_option maxRecDepth 100000 in
set_option maxHeartbeats 16000000 in
theorem MaterialOf_any (a : Option Addr) (c : Nat) (Z : List Int) (t k e h f : Int) (hz : Pz Z) (w : World) (hR : Rd w a 64 c Z) :
    Calls Tryd.prog 9 #[.agg (chA a 64 c t k e h f)] w fun r w' => r = .returned (.tuple #[.int .i64 (mS Z 64), .bool (tl Z)]) ∧ Below w.heap.size w w' := by
  have hcm := hR.max
  unfold maxLen at hcm
  have hcc := hR.cap
  obtain ⟨bk, off, rfl, hc⟩ := hR.cells (by omega)
  obtain ⟨w1, hw1⟩ : ∃ w1, w.alloc (.cells (chA (some ⟨bk, off, none⟩) 64 c t k e h f) 24) = w1 := ⟨_, rfl⟩
  have B1 : Below w.heap.size w w1 := by rw [← hw1]; exact (Below.refl _ w).alloc (Nat.le_refl _) _
  have C1 : Ch w1 w.heap.size (some ⟨bk, off, none⟩) 64 c t k e h f := by rw [← hw1]; exact Ch.new w _ 64 c t k e h f
  have HB1 := hide B1
  have HC : Hid (∀ i, i < 64 → w1.cell? ⟨bk, off + i, none⟩ = some (.int .i64 (zg Z i))) := hide (fun i hi => (B1.cell (p := ⟨bk, off + i, none⟩) (World.block_lt_of_cell? w _ (hc i hi))).trans (hc i hi))
  have HG0 := hide C1.cells.1
  have HZB := hide hz.2
  have HBD := hide (mS_bd hz)
  have HSU := hide (mS_succ Z)
  have HZE := hide (mS_zero Z)
  have HSZ := hide (fun (x : Int) (n : Nat) (hx : x.natAbs = n) (hn : n ≤ 6) (w : World) => (show Calls Tryd.prog 22 #[.int .i64 x] w fun e w' => e = .returned (.int .i64 (n : Nat)) ∧ w' = w by rw [← hx]; exact size_any x (by omega) (by omega) w))
  have HSG := hide signOf_any
  have HTL : Hid (tl Z = (decide (kc Z 1 64 + kc Z 4 64 + kc Z 5 64 = 0) && (decide (kc Z 2 64 + kc Z 3 64 ≤ 1) || (decide (kc Z 2 64 = 0) && (decide (shc Z 1 64 = 0) || decide (shc Z 0 64 = 0)))))) := hide rfl
  obtain ⟨rr, hrr⟩ : ∃ rr, tl Z = rr := ⟨_, rfl⟩
  rw [hrr] at HTL ⊢
  clear hR hc hz hrr B1 C1
  go_enter Tryd.func9, Tryd.ntmps9
  go_upto_region 1 with fail
  clear hw1
  go_wp2_with fail
  go_loopw [4, 5, 6, 7, 8, 9, 10] (fun u4 u5 u6 u7 u8 u9 v wr => ∃ (i mi : Nat) (db : Bool), v = .int .i64 i ∧ i ≤ 64 ∧ u4 = .int .i64 (mS Z i) ∧ u5 = .int .i64 (mi : Nat) ∧ u6 = .int .i64 (kc Z 2 i : Nat) ∧ u7 = .int .i64 (shc Z 1 i : Nat) ∧ u8 = .int .i64 (shc Z 0 i : Nat) ∧ u9 = .bool db ∧ Hid (mi = kc Z 2 i + kc Z 3 i) ∧ Hid (db = decide (kc Z 1 i + kc Z 4 i + kc Z 5 i = 0)) ∧ Hid (Below w1.heap.size w1 wr)) (fun _ _ _ _ _ _ v _ => 64 - (intOf v).toNat)
  case atStart =>
    refine ⟨0, 0, true, rfl, by omega, by rw [HZE.out], rfl, by rw [kc_zero]; rfl, by rw [shc_zero]; rfl, by rw [shc_zero]; rfl, rfl, hide (by rw [kc_zero, kc_zero]), hide (by rw [kc_zero, kc_zero, kc_zero]; rfl), hide (Below.refl _ _)⟩
  case round =>
    obtain ⟨i, mi, db, rfl, hi, rfl, rfl, rfl, rfl, rfl, rfl, hmi, hdb, hbl⟩ := hrel
    by_cases hlt : i < 64
    · have hlt' : (i : Int) < 64 := by omega
      have hzb := HZB.out i
      have hbd := HBD.out i
      have HS := hide (HSU.out i)
      have HE := hide (wv_eq (zg Z i))
      have hwv := wv_bd hzb.1 hzb.2
      have g0 := (hbl.out.cell (p := ⟨w.heap.size, 0, none⟩) (World.block_lt_of_cell? w1 _ HG0.out)).trans HG0.out
      have cz := (hbl.out.cell (p := ⟨bk, off + i, none⟩) (World.block_lt_of_cell? w1 _ (HC.out i hlt))).trans (HC.out i hlt)
      obtain ⟨x, hx⟩ : ∃ x, (zg Z i).natAbs = x := ⟨_, rfl⟩
      have hx6 : x ≤ 6 := by omega
      have HK1 := hide (kc_succ Z 1 i)
      have HK2 := hide (kc_succ Z 2 i)
      have HK3 := hide (kc_succ Z 3 i)
      have HK4 := hide (kc_succ Z 4 i)
      have HK5 := hide (kc_succ Z 5 i)
      have HH0 := hide (shc_succ Z 0 i)
      have HH1 := hide (shc_succ Z 1 i)
      have l1 := kc_le Z 1 i
      have l2 := kc_le Z 2 i
      have l3 := kc_le Z 3 i
      have l4 := kc_le Z 4 i
      have l5 := kc_le Z 5 i
      have l6 := shc_le Z 0 i
      have l7 := shc_le Z 1 i
      have HXZ := hide (HSZ.out (zg Z i) x hx hx6)
      have HGZ := hide (HSG.out (zg Z i))
      rw [hx] at HK1 HK2 HK3 HK4 HK5 HH0 HH1 HE
      have hsg := sg_bd0 (zg Z i)
      generalize mS Z i = m at *
      generalize wv (zg Z i) = wz at *
      generalize sg (zg Z i) = sz at *
      generalize zg Z i = z at *
      obtain ⟨w2, hw2⟩ : ∃ w2, wr.alloc (.cells #[.int .i64 0, .int .i64 1, .int .i64 3, .int .i64 3, .int .i64 5, .int .i64 9, .int .i64 0] 3) = w2 := ⟨_, rfl⟩
      have B2 : Below w1.heap.size w1 w2 := by rw [← hw2]; exact hbl.out.alloc hbl.out.size _
      have ct := (show Blk w2 wr.heap.size 3 wT by rw [← hw2]; exact Blk.new wr 3 wT _ (by unfold wT; rfl)).cell (i := x) (by rw [wT_len]; omega)
      rw [wT_at] at ct
      have HB2 := hide B2
      have hwo := wo_bd hx6
      generalize wo x = wx at *
      have hmul : sz * wx = wz := HE.out
      generalize kc Z 1 i = n1 at *
      generalize kc Z 2 i = n2 at *
      generalize kc Z 3 i = n3 at *
      generalize kc Z 4 i = n4 at *
      generalize kc Z 5 i = n5 at *
      generalize shc Z 0 i = m0 at *
      generalize shc Z 1 i = m1 at *
      clear B2 HE hbl hx hzb
      go_upto_region 8 with (first | (go_at_call 23; refine (HGZ.out _).mono ?_; rintro e w5 ⟨rfl, hw⟩; subst w5) | (go_at_call 22; refine (HXZ.out _).mono ?_; rintro e w5 ⟨rfl, hw⟩; subst w5))
      clear hmul ct g0 cz hw2
      have HS' := hide HS.out
      have hx7 : x = 0 ∨ x = 1 ∨ x = 2 ∨ x = 3 ∨ x = 4 ∨ x = 5 ∨ x = 6 := by omega
      have hmb : mi ≤ 128 := by have := hmi.out; omega
      rcases hx7 with rfl | rfl | rfl | rfl | rfl | rfl | rfl
      · rw [if_neg (by decide)] at HK1
        rw [if_neg (by decide)] at HK2
        rw [if_neg (by decide)] at HK3
        rw [if_neg (by decide)] at HK4
        rw [if_neg (by decide)] at HK5
        rw [if_neg (fun e => absurd e.1 (by decide))] at HH0
        rw [if_neg (fun e => absurd e.1 (by decide))] at HH1
        go_wp2_with (go_at_call 22; refine (HXZ.out _).mono ?_; rintro e w5 ⟨rfl, hw⟩; subst w5)
        exact ⟨⟨i + 1, mi, db, by go_num, by omega, by rw [HS.out], by first | rfl | go_num, by first | (rw [HK2.out]; done) | (rw [HK2.out]; rfl) | (rw [HK2.out]; go_num), by first | (rw [HH1.out]; done) | (rw [HH1.out]; rfl) | (rw [HH1.out]; go_num), by first | (rw [HH0.out]; done) | (rw [HH0.out]; rfl) | (rw [HH0.out]; go_num), rfl, hide (by first | (rw [HK2.out, HK3.out, hmi.out]; done) | (rw [HK2.out, HK3.out, hmi.out]; omega)), hide (by rw [HK1.out, HK4.out, HK5.out]; exact hdb.out), HB2⟩, by simp [intOf]; omega⟩
      · rw [if_pos rfl] at HK1
        rw [if_neg (by decide)] at HK2
        rw [if_neg (by decide)] at HK3
        rw [if_neg (by decide)] at HK4
        rw [if_neg (by decide)] at HK5
        rw [if_neg (fun e => absurd e.1 (by decide))] at HH0
        rw [if_neg (fun e => absurd e.1 (by decide))] at HH1
        go_wp2_with (go_at_call 22; refine (HXZ.out _).mono ?_; rintro e w5 ⟨rfl, hw⟩; subst w5)
        exact ⟨⟨i + 1, mi, false, by go_num, by omega, by rw [HS.out], by first | rfl | go_num, by first | (rw [HK2.out]; done) | (rw [HK2.out]; rfl) | (rw [HK2.out]; go_num), by first | (rw [HH1.out]; done) | (rw [HH1.out]; rfl) | (rw [HH1.out]; go_num), by first | (rw [HH0.out]; done) | (rw [HH0.out]; rfl) | (rw [HH0.out]; go_num), rfl, hide (by first | (rw [HK2.out, HK3.out, hmi.out]; done) | (rw [HK2.out, HK3.out, hmi.out]; omega)), hide (by rw [HK1.out, HK4.out, HK5.out]; (rw [eq_comm, decide_eq_false_iff_not]; omega)), HB2⟩, by simp [intOf]; omega⟩
      · rw [if_neg (by decide)] at HK1
        rw [if_pos rfl] at HK2
        rw [if_neg (by decide)] at HK3
        rw [if_neg (by decide)] at HK4
        rw [if_neg (by decide)] at HK5
        rw [if_neg (fun e => absurd e.1 (by decide))] at HH0
        rw [if_neg (fun e => absurd e.1 (by decide))] at HH1
        go_wp2_with (go_at_call 22; refine (HXZ.out _).mono ?_; rintro e w5 ⟨rfl, hw⟩; subst w5)
        exact ⟨⟨i + 1, mi + 1, db, by go_num, by omega, by rw [HS.out], by first | rfl | go_num, by first | (rw [HK2.out]; done) | (rw [HK2.out]; rfl) | (rw [HK2.out]; go_num), by first | (rw [HH1.out]; done) | (rw [HH1.out]; rfl) | (rw [HH1.out]; go_num), by first | (rw [HH0.out]; done) | (rw [HH0.out]; rfl) | (rw [HH0.out]; go_num), rfl, hide (by first | (rw [HK2.out, HK3.out, hmi.out]; done) | (rw [HK2.out, HK3.out, hmi.out]; omega)), hide (by rw [HK1.out, HK4.out, HK5.out]; exact hdb.out), HB2⟩, by simp [intOf]; omega⟩
      · rw [if_neg (by decide)] at HK1
        rw [if_neg (by decide)] at HK2
        rw [if_pos rfl] at HK3
        rw [if_neg (by decide)] at HK4
        rw [if_neg (by decide)] at HK5
        by_cases hq : (i / 8 + i % 8) % 2 = 0
        · have hq1 : ¬ (i / 8 + i % 8) % 2 = 1 := by omega
          rw [if_pos ⟨rfl, hq⟩] at HH0
          rw [if_neg (fun e => hq1 e.2)] at HH1
          have hqi : ((i : Int) % 8 + (i : Int) / 8) % 2 = 0 := by omega
          clear hq hq1
          go_wp2_with (go_at_call 22; refine (HXZ.out _).mono ?_; rintro e w5 ⟨rfl, hw⟩; subst w5)
          exact ⟨⟨i + 1, mi + 1, db, by go_num, by omega, by rw [HS.out], by first | rfl | go_num, by first | (rw [HK2.out]; done) | (rw [HK2.out]; rfl) | (rw [HK2.out]; go_num), by first | (rw [HH1.out]; done) | (rw [HH1.out]; rfl) | (rw [HH1.out]; go_num), by first | (rw [HH0.out]; done) | (rw [HH0.out]; rfl) | (rw [HH0.out]; go_num), rfl, hide (by first | (rw [HK2.out, HK3.out, hmi.out]; done) | (rw [HK2.out, HK3.out, hmi.out]; omega)), hide (by rw [HK1.out, HK4.out, HK5.out]; exact hdb.out), HB2⟩, by simp [intOf]; omega⟩
        · have hq1 : (i / 8 + i % 8) % 2 = 1 := by omega
          rw [if_neg (fun e => hq e.2)] at HH0
          rw [if_pos ⟨rfl, hq1⟩] at HH1
          have hqi : ((i : Int) % 8 + (i : Int) / 8) % 2 = 1 := by omega
          clear hq hq1
          go_wp2_with (go_at_call 22; refine (HXZ.out _).mono ?_; rintro e w5 ⟨rfl, hw⟩; subst w5)
          exact ⟨⟨i + 1, mi + 1, db, by go_num, by omega, by rw [HS.out], by first | rfl | go_num, by first | (rw [HK2.out]; done) | (rw [HK2.out]; rfl) | (rw [HK2.out]; go_num), by first | (rw [HH1.out]; done) | (rw [HH1.out]; rfl) | (rw [HH1.out]; go_num), by first | (rw [HH0.out]; done) | (rw [HH0.out]; rfl) | (rw [HH0.out]; go_num), rfl, hide (by first | (rw [HK2.out, HK3.out, hmi.out]; done) | (rw [HK2.out, HK3.out, hmi.out]; omega)), hide (by rw [HK1.out, HK4.out, HK5.out]; exact hdb.out), HB2⟩, by simp [intOf]; omega⟩
      · rw [if_neg (by decide)] at HK1
        rw [if_neg (by decide)] at HK2
        rw [if_neg (by decide)] at HK3
        rw [if_pos rfl] at HK4
        rw [if_neg (by decide)] at HK5
        rw [if_neg (fun e => absurd e.1 (by decide))] at HH0
        rw [if_neg (fun e => absurd e.1 (by decide))] at HH1
        go_wp2_with (go_at_call 22; refine (HXZ.out _).mono ?_; rintro e w5 ⟨rfl, hw⟩; subst w5)
        exact ⟨⟨i + 1, mi, false, by go_num, by omega, by rw [HS.out], by first | rfl | go_num, by first | (rw [HK2.out]; done) | (rw [HK2.out]; rfl) | (rw [HK2.out]; go_num), by first | (rw [HH1.out]; done) | (rw [HH1.out]; rfl) | (rw [HH1.out]; go_num), by first | (rw [HH0.out]; done) | (rw [HH0.out]; rfl) | (rw [HH0.out]; go_num), rfl, hide (by first | (rw [HK2.out, HK3.out, hmi.out]; done) | (rw [HK2.out, HK3.out, hmi.out]; omega)), hide (by rw [HK1.out, HK4.out, HK5.out]; (rw [eq_comm, decide_eq_false_iff_not]; omega)), HB2⟩, by simp [intOf]; omega⟩
      · rw [if_neg (by decide)] at HK1
        rw [if_neg (by decide)] at HK2
        rw [if_neg (by decide)] at HK3
        rw [if_neg (by decide)] at HK4
        rw [if_pos rfl] at HK5
        rw [if_neg (fun e => absurd e.1 (by decide))] at HH0
        rw [if_neg (fun e => absurd e.1 (by decide))] at HH1
        go_wp2_with (go_at_call 22; refine (HXZ.out _).mono ?_; rintro e w5 ⟨rfl, hw⟩; subst w5)
        exact ⟨⟨i + 1, mi, false, by go_num, by omega, by rw [HS.out], by first | rfl | go_num, by first | (rw [HK2.out]; done) | (rw [HK2.out]; rfl) | (rw [HK2.out]; go_num), by first | (rw [HH1.out]; done) | (rw [HH1.out]; rfl) | (rw [HH1.out]; go_num), by first | (rw [HH0.out]; done) | (rw [HH0.out]; rfl) | (rw [HH0.out]; go_num), rfl, hide (by first | (rw [HK2.out, HK3.out, hmi.out]; done) | (rw [HK2.out, HK3.out, hmi.out]; omega)), hide (by rw [HK1.out, HK4.out, HK5.out]; (rw [eq_comm, decide_eq_false_iff_not]; omega)), HB2⟩, by simp [intOf]; omega⟩
      · rw [if_neg (by decide)] at HK1
        rw [if_neg (by decide)] at HK2
        rw [if_neg (by decide)] at HK3
        rw [if_neg (by decide)] at HK4
        rw [if_neg (by decide)] at HK5
        rw [if_neg (fun e => absurd e.1 (by decide))] at HH0
        rw [if_neg (fun e => absurd e.1 (by decide))] at HH1
        go_wp2_with (go_at_call 22; refine (HXZ.out _).mono ?_; rintro e w5 ⟨rfl, hw⟩; subst w5)
        exact ⟨⟨i + 1, mi, db, by go_num, by omega, by rw [HS.out], by first | rfl | go_num, by first | (rw [HK2.out]; done) | (rw [HK2.out]; rfl) | (rw [HK2.out]; go_num), by first | (rw [HH1.out]; done) | (rw [HH1.out]; rfl) | (rw [HH1.out]; go_num), by first | (rw [HH0.out]; done) | (rw [HH0.out]; rfl) | (rw [HH0.out]; go_num), rfl, hide (by first | (rw [HK2.out, HK3.out, hmi.out]; done) | (rw [HK2.out, HK3.out, hmi.out]; omega)), hide (by rw [HK1.out, HK4.out, HK5.out]; exact hdb.out), HB2⟩, by simp [intOf]; omega⟩
    · obtain rfl : i = 64 := by omega
      have l1 := kc_le Z 1 64
      have l2 := kc_le Z 2 64
      have l3 := kc_le Z 3 64
      have l4 := kc_le Z 4 64
      have l5 := kc_le Z 5 64
      have l6 := shc_le Z 0 64
      have l7 := shc_le Z 1 64
      have HBF : Hid (Below w.heap.size w wr) := hide (HB1.out.trans (hbl.out.mono HB1.out.size))
      generalize kc Z 1 64 = n1 at *
      generalize kc Z 2 64 = n2 at *
      generalize kc Z 3 64 = n3 at *
      generalize kc Z 4 64 = n4 at *
      generalize kc Z 5 64 = n5 at *
      generalize shc Z 0 64 = m0 at *
      generalize shc Z 1 64 = m1 at *
      rw [← hdb.out, ← hmi.out] at HTL
      have hmb : mi ≤ 128 := by have := hmi.out; omega
      clear hbl hmi
      cases db with
      | false =>
        rw [Bool.false_and] at HTL
        go_wp2_with fail
        go_ret2
        exact ⟨by rw [HTL.out]; rfl, HBF.out⟩
      | true =>
        rw [Bool.true_and] at HTL
        by_cases q1 : mi ≤ 1
        · have q1' : (mi : Int) ≤ 1 := by omega
          rw [decide_eq_true q1, Bool.true_or] at HTL
          go_wp2_with fail
          go_ret2
          exact ⟨by rw [HTL.out]; rfl, HBF.out⟩
        · have q1' : decide ((mi : Int) ≤ 1) = false := by simp; omega
          rw [decide_eq_false q1, Bool.false_or] at HTL
          by_cases q2 : n2 = 0
          · subst q2
            rw [decide_eq_true rfl, Bool.true_and] at HTL
            by_cases q3 : m1 = 0
            · subst q3
              rw [decide_eq_true rfl, Bool.true_or] at HTL
              go_wp2_with fail
              go_ret2
              exact ⟨by rw [HTL.out]; rfl, HBF.out⟩
            · have q3' : ((m1 : Int) == 0) = false := by simp; omega
              rw [decide_eq_false q3, Bool.false_or] at HTL
              by_cases q4 : m0 = 0
              · subst q4
                rw [decide_eq_true rfl] at HTL
                go_wp2_with fail
                go_ret2
                exact ⟨by rw [HTL.out]; rfl, HBF.out⟩
              · have q4' : ((m0 : Int) == 0) = false := by simp; omega
                rw [decide_eq_false q4] at HTL
                go_wp2_with fail
                go_ret2
                exact ⟨by rw [HTL.out]; rfl, HBF.out⟩
          · have q2' : ((n2 : Int) == 0) = false := by simp; omega
            rw [decide_eq_false q2, Bool.false_and] at HTL
            go_wp2_with fail
            go_ret2
            exact ⟨by rw [HTL.out]; rfl, HBF.out⟩

end Go.Proofs.YtdblmcihklcenaaDoor
