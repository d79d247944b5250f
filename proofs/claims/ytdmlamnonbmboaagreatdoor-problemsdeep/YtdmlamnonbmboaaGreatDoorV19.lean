/-
  Chess: lead and tooLittle, walked. No conditions beyond those that each theorem bears.
  Chess: the faces Attackers, Check and Material, walked. No conditions beyond those that each theorem bears.
-/
import Derived.Test.YtdmlamnonbmboaaGreatDoorV17
import Derived.Test.YtdmlamnonbmboaaGreatDoorV18
namespace Go.Proofs.YtdmlamnonbmboaaGreatDoor
open Go.RowKit Go.Shelf

attribute [local irreducible] wo wv mS kc shc kdL shL

set_option maxRecDepth 100000 in
set_option maxHeartbeats 4000000 in
theorem lead_any (a : Option Addr) (c : Nat) (Z : List Int) (hz : Pz Z) (w : World) (h : Rd w a 64 c Z) (hW : TabW w) :
    Calls Tryz.prog 48 #[.slice a 64 c] w fun e w' => e = .returned (.int .i64 (mS Z 64)) ∧ w' = w := by
  have hcm := h.max
  unfold maxLen at hcm
  have hcc := h.cap
  obtain ⟨bk, off, rfl, hc⟩ := h.cells (by omega)
  have HC : Hid (∀ i, i < 64 → w.cell? ⟨bk, off + i, none⟩ = some (.int .i64 (zg Z i))) := hide hc
  have HW := hide hW
  have HBD := hide (mS_bd hz)
  have HZB := hide hz.2
  have HSU : Hid (∀ n, mS Z (n + 1) = mS Z n + wv (zg Z n)) := hide (mS_succ Z)
  have HZE : Hid (mS Z 0 = 0) := hide (mS_zero Z)
  clear h hc hW hz
  go_enter Tryz.func48, Tryz.ntmps48
  go_wp2_with fail
  go_loopw [3, 8] (fun u v wr => ∃ i : Nat, v = .int .i64 i ∧ i ≤ 64 ∧ u = .int .i64 (mS Z i) ∧ w = wr) (fun _ v _ => 64 - (intOf v).toNat)
  case atStart => exact ⟨0, rfl, by omega, by rw [HZE.out], rfl⟩
  case round =>
    obtain ⟨i, rfl, hi, rfl, rfl⟩ := hrel
    by_cases hlt : i < 64
    · have hlt' : (i : Int) < 64 := by omega
      have cz := HC.out i hlt
      have hzb := HZB.out i
      have hbd := HBD.out i
      have HS := hide (HSU.out i)
      have HWP := hide (fun h => wv_pos (x := zg Z i) h)
      have HWN := hide (fun h => wv_neg (x := zg Z i) h)
      generalize mS Z i = m at *
      generalize zg Z i = z at *
      obtain ⟨zn, hzn⟩ : ∃ zn, z.natAbs = zn := ⟨_, rfl⟩
      have hw7 := HW.out zn (by omega)
      have hwb := wo_bd (j := zn) (by omega)
      rw [hzn] at HWP HWN
      generalize wo zn = wz at *
      by_cases hp : 0 < z
      · have hze : z = (zn : Int) := by omega
        have HE : Hid (mS Z (i + 1) = m + wz) := hide (by rw [HS.out, HWP.out hp])
        subst hze
        clear HS HWP HWN hzn
        have hp' : (0 : Int) < (zn : Int) := hp
        go_wp2_with fail
        exact ⟨⟨i + 1, by go_num, by omega, by rw [HE.out], trivial⟩, by simp [intOf]; omega⟩
      · have hze : -z = (zn : Int) := by omega
        have HE : Hid (mS Z (i + 1) = m - wz) := hide (by rw [HS.out, HWN.out hp]; omega)
        clear HS HWP HWN hzn
        go_wp2_with fail
        exact ⟨⟨i + 1, by go_num, by omega, by rw [HE.out], trivial⟩, by simp [intOf]; omega⟩
    · obtain rfl : i = 64 := by omega
      go_wp2_with fail
      go_ret
      exact ⟨rfl, rfl⟩

set_option maxRecDepth 100000 in
set_option maxHeartbeats 8000000 in
theorem tooLittle_any (a : Option Addr) (c : Nat) (Z : List Int) (hz : Pz Z) (w : World) (h : Rd w a 64 c Z) :
    Calls Tryz.prog 55 #[.slice a 64 c] w fun e w' => e = .returned (.bool (tl Z)) ∧ Below w.heap.size w w' := by
  have hcm := h.max
  unfold maxLen at hcm
  have hcc := h.cap
  obtain ⟨bk, off, rfl, hc⟩ := h.cells (by omega)
  have HC : Hid (∀ i, i < 64 → w.cell? ⟨bk, off + i, none⟩ = some (.int .i64 (zg Z i))) := hide hc
  have HBK : Hid (bk < w.heap.size) := hide (World.block_lt_of_cell? w _ (hc 0 (by omega)))
  have HZB := hide hz.2
  have HKI := hide kindOf_any
  have HTL : Hid (tl Z = (decide (kc Z 1 64 + kc Z 4 64 + kc Z 5 64 = 0) && (decide (kc Z 2 64 + kc Z 3 64 ≤ 1) || (decide (kc Z 2 64 = 0) && (decide (shc Z 1 64 = 0) || decide (shc Z 0 64 = 0)))))) := hide rfl
  obtain ⟨rr, hrr⟩ : ∃ rr, tl Z = rr := ⟨_, rfl⟩
  rw [hrr] at HTL ⊢
  clear h hc hz hrr
  obtain ⟨w1, hw1⟩ : ∃ w1, w.alloc (.cells #[.int .i64 0, .int .i64 0, .int .i64 0, .int .i64 0, .int .i64 0, .int .i64 0, .int .i64 0] 111) = w1 := ⟨_, rfl⟩
  obtain ⟨w2, hw2⟩ : ∃ w2, w1.alloc (.cells #[.int .i64 0, .int .i64 0] 115) = w2 := ⟨_, rfl⟩
  have s1 : w1.heap.size = w.heap.size + 1 := by rw [← hw1]; simp
  have HK1 : Hid (Blk w2 w.heap.size 111 (kdL Z 0)) := hide (by rw [← hw2, kdL_zero]; refine Blk.old ?_ _; rw [← hw1]; exact Blk.new w 111 _ _ rfl)
  have HS1 : Hid (Blk w2 w1.heap.size 115 (shL Z 0)) := hide (by
    rw [← hw2, shL_zero]; exact Blk.new w1 115 _ _ rfl)
  have HSB := hide s1
  have HBL : Hid (Below w.heap.size w w2) := hide (by rw [← hw2, ← hw1]; exact ((Below.refl _ w).alloc (Nat.le_refl _) _).alloc (by simp) _)
  clear s1
  go_enter Tryz.func55, Tryz.ntmps55
  go_upto_region 3 with fail
  clear hw2 hw1
  go_wp2_with fail
  go_loopw [11] (fun v wr => ∃ i : Nat, v = .int .i64 i ∧ i ≤ 64 ∧ Hid (Blk wr w.heap.size 111 (kdL Z i)) ∧ Hid (Blk wr w1.heap.size 115 (shL Z i)) ∧ Hid (Below w.heap.size w wr)) (fun v _ => 64 - (intOf v).toNat)
  case atStart => exact ⟨0, rfl, by omega, HK1, HS1, HBL⟩
  case round =>
    obtain ⟨i, rfl, hi, hkd, hsh, hbl⟩ := hrel
    clear HK1 HS1 HBL
    by_cases hlt : i < 64
    · have hlt' : (i : Int) < 64 := by omega
      have cz := (hbl.out.cell (p := ⟨bk, off + i, none⟩) HBK.out).trans (HC.out i hlt)
      have hzb := HZB.out i
      obtain ⟨x, hx⟩ : ∃ x, (zg Z i).natAbs = x := ⟨_, rfl⟩
      have hx7 : x < 7 := by omega
      have HKZ : Hid (∀ w, Calls Tryz.prog 74 #[.int .i64 (zg Z i)] w fun e w' => e = .returned (.int .i64 (x : Nat)) ∧ w' = w) := hide (fun w => by rw [← hx]; exact HKI.out (zg Z i) hzb.1 hzb.2 w)
      have ct := hkd.out.cell (i := x) (by rw [kdL_len]; exact hx7)
      have ft := hkd.out.frozen x
      rw [kdL_at Z i hx7] at ct
      have HST := hide (kdL_succ (Z := Z) (n := i) hx)
      rw [kdL_at Z i hx7] at HST
      have hcl := kc_le Z x i
      obtain ⟨cc, hcc2⟩ : ∃ cc, kc Z x i = cc := ⟨_, rfl⟩
      rw [hcc2] at ct hcl HST
      have K2 : Blk (wr.setCell ⟨w.heap.size, x, none⟩ (.int .i64 ((cc : Int) + 1))) w.heap.size 111 (kdL Z (i + 1)) := by rw [← HST.out]; exact hkd.out.set x _
      have S2 : Blk (wr.setCell ⟨w.heap.size, x, none⟩ (.int .i64 ((cc : Int) + 1))) w1.heap.size 115 (shL Z i) := hsh.out.other (by have := HSB.out; omega) _ _
      have B2 : Below w.heap.size w (wr.setCell ⟨w.heap.size, x, none⟩ (.int .i64 ((cc : Int) + 1))) := hbl.out.setCell (p := ⟨w.heap.size, x, none⟩) (Nat.le_refl _) _
      have HK2 := hide K2
      have HS2 := hide S2
      have HB2 := hide B2
      have HNO := hide (fun h => shL_no (Z := Z) (n := i) h)
      have HYE := hide (fun q h hq hq2 => shL_yes (Z := Z) (n := i) (q := q) h hq hq2)
      rw [hx] at HNO HYE
      generalize zg Z i = z at *
      clear hcc2 HST hkd hsh hbl K2 S2 B2 hx
      go_upto_region 8 with (go_at_call 74; refine (HKZ.out _).mono ?_; rintro e w5 ⟨rfl, hw⟩; subst w5)
      clear ct ft cz
      generalize wr.setCell ⟨w.heap.size, x, none⟩ (.int .i64 ((cc : Int) + 1)) = w3 at *
      by_cases h3 : x = 3
      · subst h3
        obtain ⟨q, hq⟩ : ∃ q, (i / 8 + i % 8) % 2 = q := ⟨_, rfl⟩
        have hq2 : q < 2 := by omega
        have HSY := hide (HYE.out q rfl hq hq2)
        have cs := HS2.out.cell (i := q) (by rw [shL_len]; omega)
        have fs := HS2.out.frozen q
        obtain ⟨sv, hsv⟩ : ∃ sv : Nat, (shL Z i).getD q 0 = (sv : Int) ∧ sv ≤ 64 := by
          have : q = 0 ∨ q = 1 := by omega
          have l0 := shc_le Z 0 i
          have l1 := shc_le Z 1 i
          rcases this with e | e
          · exact ⟨shc Z 0 i, by rw [e, shL_0], by omega⟩
          · exact ⟨shc Z 1 i, by rw [e, shL_1], by omega⟩
        rw [hsv.1] at cs HSY
        have hsv2 := hsv.2
        clear hsv
        have hqi : ((i : Int) / 8 + (i : Int) % 8) % 2 = (q : Int) := by omega
        have HS3 : Hid (Blk (w3.setCell ⟨w1.heap.size, q, none⟩ (.int .i64 ((sv : Int) + 1))) w1.heap.size 115 (shL Z (i + 1))) := hide (by rw [← HSY.out]; exact HS2.out.set q _)
        have HK3 : Hid (Blk (w3.setCell ⟨w1.heap.size, q, none⟩ (.int .i64 ((sv : Int) + 1))) w.heap.size 111 (kdL Z (i + 1))) := hide (HK2.out.other (by have := HSB.out; omega) _ _)
        have HB3 : Hid (Below w.heap.size w (w3.setCell ⟨w1.heap.size, q, none⟩ (.int .i64 ((sv : Int) + 1)))) := hide (HB2.out.setCell (p := ⟨w1.heap.size, q, none⟩) (by have := HSB.out; show w.heap.size ≤ w1.heap.size; omega) _)
        clear hq HNO HYE HSY
        go_wp2_with fail
        exact ⟨⟨i + 1, by go_num, by omega, HK3, HS3, HB3⟩, by simp [intOf]; omega⟩
      · have h3' : ((x : Int) == 3) = false := by simp; omega
        have HSN := hide (HNO.out h3)
        have HS3 : Hid (Blk w3 w1.heap.size 115 (shL Z (i + 1))) := hide (by rw [HSN.out]; exact HS2.out)
        clear HNO HYE HSN
        go_wp2_with fail
        exact ⟨⟨i + 1, by go_num, by omega, HK2, HS3, HB2⟩, by simp [intOf]; omega⟩
    · obtain rfl : i = 64 := by omega
      have c1 := hkd.out.cell (i := 1) (by rw [kdL_len]; omega)
      have c2 := hkd.out.cell (i := 2) (by rw [kdL_len]; omega)
      have c3 := hkd.out.cell (i := 3) (by rw [kdL_len]; omega)
      have c4 := hkd.out.cell (i := 4) (by rw [kdL_len]; omega)
      have c5 := hkd.out.cell (i := 5) (by rw [kdL_len]; omega)
      rw [kdL_at Z 64 (by omega)] at c1 c2 c3 c4 c5
      have d0 := hsh.out.cell (i := 0) (by rw [shL_len]; omega)
      rw [shL_0] at d0
      have d1 := hsh.out.cell (i := 1) (by rw [shL_len]; omega)
      rw [shL_1] at d1
      have l1 := kc_le Z 1 64
      have l2 := kc_le Z 2 64
      have l3 := kc_le Z 3 64
      have l4 := kc_le Z 4 64
      have l5 := kc_le Z 5 64
      have l6 := shc_le Z 0 64
      have l7 := shc_le Z 1 64
      generalize kc Z 1 64 = n1 at *
      generalize kc Z 2 64 = n2 at *
      generalize kc Z 3 64 = n3 at *
      generalize kc Z 4 64 = n4 at *
      generalize kc Z 5 64 = n5 at *
      generalize shc Z 0 64 = m0 at *
      generalize shc Z 1 64 = m1 at *
      clear hkd hsh
      by_cases hh : n1 + n4 + n5 = 0
      · have hg : ¬ (0 : Int) < (n1 : Int) + (n4 : Int) + (n5 : Int) := by omega
        rw [decide_eq_true hh, Bool.true_and] at HTL
        by_cases h2 : n2 = 0
        · subst h2
          rw [decide_eq_true rfl, Bool.true_and] at HTL
          by_cases z0 : m0 = 0
          · subst z0
            have HF : Hid (rr = true) := hide (by rw [HTL.out]; simp)
            clear HTL
            by_cases z1 : m1 = 0
            · subst z1
              go_wp2_with fail
              all_goals (first | (exfalso; omega) | (go_ret; exact ⟨by rw [HF.out]; first | rfl | (simp; done) | (simp; omega), hbl.out⟩))
            · have hlt1 : (0 : Int) < (m1 : Int) := by omega
              go_wp2_with fail
              all_goals (first | (exfalso; omega) | (go_ret; exact ⟨by rw [HF.out]; first | rfl | (simp; done) | (simp; omega), hbl.out⟩))
          · by_cases z1 : m1 = 0
            · subst z1
              have HF : Hid (rr = true) := hide (by rw [HTL.out]; simp)
              clear HTL
              have hlt1 : (0 : Int) < (m0 : Int) := by omega
              go_wp2_with fail
              all_goals (first | (exfalso; omega) | (go_ret; exact ⟨by rw [HF.out]; first | rfl | (simp; done) | (simp; omega), hbl.out⟩))
            · have e0 : ((m0 : Int) == 0) = false := by simp; omega
              have e1 : ((m1 : Int) == 0) = false := by simp; omega
              rw [decide_eq_false z0, decide_eq_false z1, Bool.or_self, Bool.or_false] at HTL
              by_cases q3 : n3 ≤ 1
              · have q3' : (n3 : Int) ≤ 1 := by omega
                have HF : Hid (rr = true) := hide (by rw [HTL.out]; simp; omega)
                clear HTL
                go_wp2_with fail
                all_goals (first | (exfalso; omega) | (go_ret; exact ⟨by rw [HF.out]; first | rfl | (simp; done) | (simp; omega), hbl.out⟩))
              · have q3' : decide ((n3 : Int) ≤ 1) = false := by simp; omega
                have HF : Hid (rr = false) := hide (by rw [HTL.out]; simp; omega)
                clear HTL
                go_wp2_with fail
                all_goals (first | (exfalso; omega) | (go_ret; exact ⟨by rw [HF.out]; first | rfl | (simp; done) | (simp; omega), hbl.out⟩))
        · have e2 : ((n2 : Int) == 0) = false := by simp; omega
          rw [decide_eq_false h2, Bool.false_and, Bool.or_false] at HTL
          by_cases q3 : n2 + n3 ≤ 1
          · have q3' : (n2 : Int) + (n3 : Int) ≤ 1 := by omega
            have HF : Hid (rr = true) := hide (by rw [HTL.out]; simp; omega)
            clear HTL
            go_wp2_with fail
            all_goals (first | (exfalso; omega) | (go_ret; exact ⟨by rw [HF.out]; first | rfl | (simp; done) | (simp; omega), hbl.out⟩))
          · have q3' : decide ((n2 : Int) + (n3 : Int) ≤ 1) = false := by simp; omega
            have HF : Hid (rr = false) := hide (by rw [HTL.out]; simp; omega)
            clear HTL
            go_wp2_with fail
            all_goals (first | (exfalso; omega) | (go_ret; exact ⟨by rw [HF.out]; first | rfl | (simp; done) | (simp; omega), hbl.out⟩))
      · have hg : (0 : Int) < (n1 : Int) + (n4 : Int) + (n5 : Int) := by omega
        rw [decide_eq_false hh, Bool.false_and] at HTL
        go_wp2_with fail
        go_ret
        exact ⟨by rw [HTL.out]; rfl, hbl.out⟩

end Go.Proofs.YtdmlamnonbmboaaGreatDoor

namespace Go.Proofs.YtdmlamnonbmboaaGreatDoor
open Go.RowKit Go.Shelf

attribute [local irreducible] mS tl

section
variable (a : Option Addr) (n c : Nat) (Z : List Int) (t k e h f : Int) (he1 : -9223372036854775808 ≤ e) (he2 : e ≤ 9223372036854775807) (w : World) (hz : Rd w a n c Z) (hT : Tabs w)
include he1 he2 hz hT

set_option maxRecDepth 100000 in
set_option maxRecDepth 100000 in
set_option maxRecDepth 100000 in
theorem Material_no (hM : ¬ MayC Z t k e h f) :
    Calls Tryz.prog 23 #[.agg (chA a n c t k e h f)] w fun r w' => r = .returned (.tuple #[.int .i64 0, .bool false, .int .i64 12]) ∧ Below w.heap.size w w' := by
  obtain ⟨w1, hw1⟩ : ∃ w1, w.alloc (.cells (chA a n c t k e h f) 24) = w1 := ⟨_, rfl⟩
  have B1 : Below w.heap.size w w1 := by rw [← hw1]; exact (Below.refl _ w).alloc (Nat.le_refl _) _
  have C1 : Ch w1 w.heap.size a n c t k e h f := by rw [← hw1]; exact Ch.new w a n c t k e h f
  have HMY := hide (May_any a n c Z t k e h f he1 he2 w1 (hz.mono B1) (hT.mono B1))
  rw [dB_f hM] at HMY
  have HB1 := hide B1
  clear B1 hz hT
  go_enter Tryz.func23, Tryz.ntmps23
  go_upto_region 1 with fail
  clear hw1
  go_wp2_with (refine wpList_load_ch rfl (.tmp 1) rfl w.heap.size rfl C1 ?_)
  refine HMY.out.mono ?_
  rintro r w2 ⟨rfl, hb2⟩
  have HB2 := hide (HB1.out.trans (hb2.mono HB1.out.size))
  clear hb2
  go_wp2_with fail
  go_ret3
  exact ⟨rfl, HB2.out⟩

set_option maxRecDepth 100000 in
set_option maxRecDepth 100000 in
set_option maxRecDepth 100000 in
set_option maxRecDepth 100000 in
set_option maxHeartbeats 4000000 in
theorem Material_yes (hM : MayC Z t k e h f) (hW : TabW w) :
    Calls Tryz.prog 23 #[.agg (chA a n c t k e h f)] w fun r w' => r = .returned (.tuple #[.int .i64 (mS Z 64), .bool (tl Z), .int .i64 0]) ∧ Below w.heap.size w w' := by
  obtain ⟨w1, hw1⟩ : ∃ w1, w.alloc (.cells (chA a n c t k e h f) 24) = w1 := ⟨_, rfl⟩
  have B1 : Below w.heap.size w w1 := by rw [← hw1]; exact (Below.refl _ w).alloc (Nat.le_refl _) _
  have C1 : Ch w1 w.heap.size a n c t k e h f := by rw [← hw1]; exact Ch.new w a n c t k e h f
  have HMY := hide (May_any a n c Z t k e h f he1 he2 w1 (hz.mono B1) (hT.mono B1))
  rw [dB_t hM] at HMY
  have HB1 := hide B1
  have hn : n = 64 := by have := hz.len; have := hM.std.1; omega
  subst hn
  have HCH : Hid (∀ W, Below w1.heap.size w1 W → Ch W w.heap.size a 64 c t k e h f) := hide (fun W hb => C1.below hb C1.lt)
  have HZW : Hid (∀ W, Below w1.heap.size w1 W → Rd W a 64 c Z) := hide (fun W hb => (hz.mono B1).mono hb)
  have HWW : Hid (∀ W, Below w1.heap.size w1 W → TabW W) := hide (fun W hb => (hW.mono B1).mono hb)
  have HTW : Hid (∀ W, Below w1.heap.size w1 W → Tabs W) := hide (fun W hb => (hT.mono B1).mono hb)
  clear B1 hz hT
  have HLE : Hid (∀ W, Below w1.heap.size w1 W → Calls Tryz.prog 48 #[.slice a 64 c] W fun e w' => e = .returned (.int .i64 (mS Z 64)) ∧ w' = W) := hide (fun W hb => lead_any a c Z hM.std.pz W (HZW.out W hb) (HWW.out W hb))
  have HTL : Hid (∀ W, Below w1.heap.size w1 W → Calls Tryz.prog 55 #[.slice a 64 c] W fun e w' => e = .returned (.bool (tl Z)) ∧ Below W.heap.size W w') := hide (fun W hb => tooLittle_any a c Z hM.std.pz W (HZW.out W hb))
  clear hM
  go_enter Tryz.func23, Tryz.ntmps23
  go_upto_region 1 with fail
  clear hw1
  go_wp2_with (refine wpList_load_ch rfl (.tmp 1) rfl w.heap.size rfl C1 ?_)
  refine HMY.out.mono ?_
  rintro r w2 ⟨rfl, hb2⟩
  obtain ⟨g0, g1, -, -, -, -⟩ := (HCH.out w2 hb2).cells
  have HB2 := hide hb2
  clear hb2
  go_upto_region 3 with fail
  refine wp_region_held (S := fun W5 => Below w1.heap.size w1 W5) (by kernel_rfl) ?_
  change wpAnyH _ _ _ _ _ _ _ _ (World.drew _)
  have SW : Below w1.heap.size w1 w2.drew := HB2.out.drew
  refine wpAnyH_take (i := 0) (v := .pointer (some ⟨w.heap.size, 0, none⟩)) rfl (by kernel_rfl) (by kernel_rfl) (by kernel_rfl) (fun _ _ _ h => h) (Or.inl ⟨by rfl, ?_⟩) SW ?_
  · intro W5 hW5
    go_simp <;> first | done | rfl
  go_simp
  refine wpAnyH_take (i := 1) (v := .slice a 64 c) rfl (by kernel_rfl) (by kernel_rfl) (by kernel_rfl) (fun _ _ _ h => h) (Or.inl ⟨by rfl, ?_⟩) SW ?_
  · intro W5 hW5
    obtain ⟨x0, -, -, -, -, -⟩ := (HCH.out W5 hW5).cells
    go_simp <;> first | done | rfl
  go_simp
  refine wpAnyH_take (i := 3) (v := .pointer (some ⟨w.heap.size, 0, none⟩)) rfl (by kernel_rfl) (by kernel_rfl) (by kernel_rfl) (fun _ _ _ h => h) (Or.inl ⟨by rfl, ?_⟩) SW ?_
  · intro W5 hW5
    go_simp <;> first | done | rfl
  go_simp
  refine wpAnyH_take (i := 4) (v := .slice a 64 c) rfl (by kernel_rfl) (by kernel_rfl) (by kernel_rfl) (fun _ _ _ h => h) (Or.inl ⟨by rfl, ?_⟩) SW ?_
  · intro W5 hW5
    obtain ⟨x0, -, -, -, -, -⟩ := (HCH.out W5 hW5).cells
    go_simp <;> first | done | rfl
  go_simp
  refine wpAnyH_ready (rs := [2]) (by kernel_rfl) (by simp) ?_
  refine AllReadyH.cons rfl (fun K1 hK1 => ?_) AllReadyH.nil
  go_simp
  refine (HLE.out _ SW).mono ?_
  rintro r w5 ⟨rfl, hw⟩
  subst w5
  refine hK1.out _ _ SW (fun SW => ?_)
  clear hK1 K1
  go_simp
  refine wpAnyH_ready (rs := [5]) (by kernel_rfl) (by simp) ?_
  refine AllReadyH.cons rfl (fun K1 hK1 => ?_) AllReadyH.nil
  go_simp
  refine (HTL.out _ SW).mono ?_
  rintro r w6 ⟨rfl, hb6⟩
  have B6 := SW.trans (hb6.mono SW.size)
  refine hK1.out _ _ B6 (fun SW => ?_)
  clear hK1 K1 hb6
  have HB6 := hide B6
  clear B6
  go_simp
  refine wpAnyH_take (i := 6) (v := .int .i64 (mS Z 64)) rfl (by kernel_rfl) (by kernel_rfl) (by kernel_rfl) (fun _ _ _ h => h) (Or.inl ⟨by rfl, ?_⟩) SW ?_
  · intro W5 hW5
    go_simp <;> first | done | rfl
  go_simp
  refine wpAnyH_take (i := 7) (v := .bool (tl Z)) rfl (by kernel_rfl) (by kernel_rfl) (by kernel_rfl) (fun _ _ _ h => h) (Or.inl ⟨by rfl, ?_⟩) SW ?_
  · intro W5 hW5
    go_simp <;> first | done | rfl
  go_simp
  refine wpAnyH_take (i := 8) (v := .int .i64 0) rfl (by kernel_rfl) (by kernel_rfl) (by kernel_rfl) (fun _ _ _ h => h) (Or.inl ⟨by rfl, ?_⟩) SW ?_
  · intro W5 hW5
    go_simp <;> first | done | rfl
  go_simp
  refine wpAnyH_done (by kernel_rfl) ?_ _
  have HBE := hide SW
  clear SW
  go_wp2_with fail
  go_ret3
  exact ⟨rfl, HB1.out.trans (HBE.out.mono HB1.out.size)⟩

end

end Go.Proofs.YtdmlamnonbmboaaGreatDoor
