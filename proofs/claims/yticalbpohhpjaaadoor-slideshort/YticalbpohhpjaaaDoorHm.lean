/-
  Home: a shortest row of moves. No conditions beyond those that each theorem bears.
-/
import Derived.Test.YticalbpohhpjaaaDoorHx
namespace Go.Proofs.YticalbpohhpjaaaDoor
open Go.RowKit

/-- The way that a map tells, from a tray on: so many moves, and which. -/
inductive Pth (W H N : Nat) (A : List (List Int × Int)) : Nat → List Int → Nat → List Int → Prop
  | home {Z : List Int} {g : Nat} (h : lk A (pad6 Z) = some (-1)) : Pth W H N A 0 Z g []
  | step {k : Nat} {Z : List Int} {g d q : Nat} {l : List Int} (h : lk A (pad6 Z) = some ((d : Nat) : Int)) (hd : d < 4) (hc : cmv W H g d = true) (hq : frm W H g d = q) (hp : Pth W H N A k (mvl Z g q) q l) : Pth W H N A (k + 1) Z g ((d : Int) :: l)

theorem Pth.len {W H N : Nat} {A : List (List Int × Int)} {k : Nat} {Z : List Int} {g : Nat} {l : List Int} (h : Pth W H N A k Z g l) : l.length = k := by
  induction h with
  | home h => rfl
  | step h hd hc hq hp ih => rw [List.length_cons, ih]

theorem HmI.ofMap {W H N tp tcb tc g mb : Nat} {T : List Int} {A : List (List Int × Int)} {w w' : World} (h : HmI W H N tp tcb tc T g w) (hM : Mz w mb A) (hk : Keeps (fun i => i = mb) w w') : HmI W H N tp tcb tc T g w' := by
  refine ⟨h.ty.keeps hk ?_, h.bw.ofMap hM hk⟩
  rintro rfl
  obtain ⟨es, clock, hb, _⟩ := hM
  have := h.ty
  unfold Ty at this
  rw [hb] at this
  cases this

/-- What the rings of a search for a tray must be, the last of them the K-th. -/
structure Found (W H N K : Nat) (T : List Int) : Prop where
  before : ∀ k, k < K → (rgs W H N k).2 ≠ [] ∧ inB (rgs W H N k).2 T = false
  last : (rgs W H N K).2 = [] ∨ inB (rgs W H N K).2 T = true
  len : ∀ k, (rgs W H N k).2.length ≤ 1000

theorem rings_home (W H N K cb c tp tcb tc g : Nat) (T : List Int) (w : World) (hF : Found W H N K T) (hT : Tab w) (hB : Bw w cb N c (homeL N)) (hI : HmI W H N tp tcb tc T g w) (hu : 2 ≤ W ∧ W ≤ 5) (hh : 2 ≤ H ∧ H ≤ 5) (hN : W * H = N) (hN6 : N ≤ 6) :
    Calls Tryd.prog 40 #[.agg (trA W H (some ⟨cb, 0, none⟩) N c ((N - 1 : Nat) : Int)), .func (.func 42) #[] #[.pointer (some ⟨tp, 0, none⟩)]] w fun e w' => ∃ mb, e = .returned (.map (some mb)) ∧ Mz w' mb (rgs W H N K).1 ∧ HmI W H N tp tcb tc T g w' ∧ Below w.heap.size w w' := by
  have hb4 := len_bd hu hh hN
  refine (rings_any W H N cb c 42 K #[.pointer (some ⟨tp, 0, none⟩)] (fun k => !inB (rgs W H N k).2 T) (fun _ w => HmI W H N tp tcb tc T g w) (fun _ => False) w hT hB hu hh hN hN6 hI
    (fun _ _ _ i hi => hi.elim) (fun i hi => hi.elim) (fun k W1 W2 h hb => h.below hb) (fun k W1 W2 mb A h hM hk => h.ofMap hM hk)
    (fun k hk => ⟨(hF.before k hk).1, by rw [(hF.before k hk).2]; rfl⟩) (hF.last.imp id (fun e => by rw [e]; rfl)) (fun k _ => hF.len k)
    (enters_of Tryd.func42 (by kernel_rfl) rfl)
    (fun k W1 v hk hne hI hv => (home1_any W H N tp tcb tc g v _ T W1 hI hv (by omega) (hF.len k)).mono fun e W2 ⟨h1, h2⟩ => ⟨h1, hI.below h2, Keeps.of_all h2⟩)).mono ?_
  rintro e w' ⟨mb, he, hm, hI', hk⟩
  refine ⟨mb, he, hm, ?_, ?_⟩
  · unfold endI at hI'
    split at hI' <;> exact hI'
  · exact hk.below (Nat.le_refl _) (fun i hi e => by rcases e with e | e; exact e; omega)

set_option maxRecDepth 100000 in
set_option maxHeartbeats 16000000 in
theorem Home_none (W H N K g : Nat) (a : Option Addr) (c : Nat) (T : List Int) (w : World) (h : Rd w a N c T) (hT : Tab w) (hm : mayB W H T = true) (hG : Gt N (T, g)) (hF : Found W H N K T) (hP : lk (rgs W H N K).1 (pad6 T) = none) (hKB : K ≤ 100000) (hu : 2 ≤ W ∧ W ≤ 5) (hh : 2 ≤ H ∧ H ≤ 5) (hN : W * H = N) (hN6 : N ≤ 6) :
    Calls Tryd.prog 19 #[.agg (gdA W H a N c)] w fun e w' => e = .returned (.tuple #[.slice none 0 0, .int .i64 10]) ∧ Below w.heap.size w w' := by
  have hb4 := len_bd hu hh hN
  have hS : decide (N ≤ 6) = true := decide_eq_true hN6
  have hlt := hG.lt.1
  have hix := hG.gap
  have HKZ : Hid (Kz (pad6 T)) := hide (hG.kz hN6)
  dsimp only at hlt hix
  obtain ⟨w1, hw1⟩ : ∃ w1, w.alloc (.cells (gdA W H a N c) 24) = w1 := ⟨_, rfl⟩
  have B1 : Below w.heap.size w w1 := by rw [← hw1]; exact (Below.refl _ _).alloc (Nat.le_refl _) _
  have CALL := hide (May_any W H a N c T w1 (h.mono B1))
  rw [hm] at CALL
  have HB := hide B1
  have K1 : Gd w1 w.heap.size W H a N c := by rw [← hw1]; exact Gd.new _ _ _ _ _ _
  have HH := hide (h.mono B1)
  have HT1 := hide (hT.mono B1)
  have HS1 : Hid (w1.heap.size = w.heap.size + 1) := hide (by rw [← hw1]; simp)
  have HGT := hide hG
  have HF := hide hF
  have HPP := hide hP
  have HT0 := hide hT.lt
  have HLN : Hid (K ≤ 100000) := hide hKB
  clear h B1 hm hG hF hP hT hKB
  go_enter Tryd.func19, Tryd.ntmps19
  go_upto_region 1 with fail
  clear hw1
  go_wp2_with (refine wpList_load_gd rfl (.tmp 1) rfl w.heap.size rfl K1 ?_)
  refine CALL.out.mono ?_
  rintro e w2 ⟨rfl, hb2⟩
  have K2 := K1.below hb2 (by have := HS1.out; omega)
  obtain ⟨c0, c1, c2⟩ := K2.cells
  have HB2 := hide (HB.out.trans (hb2.mono HB.out.size))
  have HR2 := hide (HH.out.mono hb2)
  have HT2 := hide (HT1.out.mono hb2)
  clear K1 HB CALL hb2 HH HT1 HS1
  go_wp2_with fail
  refine (isSmall_any W H N _ hN hb4.2).mono ?_
  rintro e wx ⟨rfl, hwx⟩
  subst wx
  rw [hS]
  clear hS
  go_wp2_with (refine wpList_load_gd rfl (.tmp 1) rfl w.heap.size rfl K2 ?_)
  refine (trayOf_any W H a N c T g w2 HR2.out (by omega) hix).mono ?_
  rintro e w3 ⟨tcb, tc, rfl, hBw, hcb, hb3⟩
  have K3 := K2.below hb3 K2.lt
  have hcw : w.heap.size ≤ tcb := by have := HB2.out.size; omega
  have HB3 := hide (HB2.out.trans (hb3.mono HB2.out.size))
  have HT3 := hide (HT2.out.mono hb3)
  have HW3 := hide hBw
  clear c0 c1 c2 K2 HR2 hb3 hBw HB2 HT2
  go_upto_region 6 with fail
  obtain ⟨w4, hw4⟩ : ∃ w4, w3.alloc (Obj.cells (trA W H (some ⟨tcb, 0, none⟩) N tc g) 55) = w4 := ⟨_, rfl⟩
  rw [hw4]
  have B34 : Below w3.heap.size w3 w4 := by rw [← hw4]; exact (Below.refl _ w3).alloc (Nat.le_refl _) _
  have HI4 : Hid (HmI W H N w3.heap.size tcb tc T g w4) := hide ⟨by rw [← hw4]; exact Ty.new _ _ _ _ _ _ _, HW3.out.mono B34⟩
  have K4 := K3.below B34 K3.lt
  obtain ⟨c0, c1, c2⟩ := K4.cells
  have HB4 := hide (HB3.out.trans (B34.mono HB3.out.size))
  have HT4 := hide (HT3.out.mono B34)
  have HTP : Hid (w.heap.size ≤ w3.heap.size ∧ w.heap.size ≤ tcb) := hide ⟨HB3.out.size, hcw⟩
  generalize hbt : w3.heap.size = tp at *
  clear hw4 HB3 HT3 HW3 B34 hbt K3 hcb hcw
  go_wp2_with fail
  refine (trayAtHome_any W H N w4 hu hh hN).mono ?_
  rintro e w5 ⟨cb, cc, rfl, bw, -, b5⟩
  have RH := hide (rings_home W H N K cb cc tp tcb tc g T w5 HF.out (HT4.out.mono b5) bw (HI4.out.below b5) hu hh hN hN6)
  have HB5 := hide (HB4.out.trans (b5.mono HB4.out.size))
  have HT5 := hide (HT4.out.mono b5)
  clear K4 c0 c1 c2 HB4 HT4 HI4 b5 bw
  go_wp2_with fail
  refine RH.out.mono ?_
  rintro e w6 ⟨mb, rfl, hm6, hi6, b6⟩
  have HB6 := hide (HB5.out.trans (b6.mono HB5.out.size))
  have HT6 := hide (HT5.out.mono b6)
  have HM6 := hide hm6
  have HI6 := hide hi6
  have T6 := hi6.ty
  clear RH HB5 HT5 hm6 hi6 b6
  go_upto_region 7 with fail
  go_wp2_with (refine wpList_load_ty rfl (.tmp 4) rfl tp rfl T6 ?_)
  refine (stones_any W H N tc tcb 0 g T w6 (by omega) HI6.out.bw.rd).mono ?_
  rintro e w7 ⟨rfl, b7⟩
  have hm7 := HM6.out.below b7 HM6.out.lt
  have HM7 := hide hm7
  have HI7 := hide (HI6.out.below b7)
  have HB7 := hide (HB6.out.trans (b7.mono HB6.out.size))
  have HT7 := hide (HT6.out.mono b7)
  have hkz := HKZ.out
  clear HM6 HI6 HB6 HT6 b7 T6 HKZ HF
  have hlk := HPP.out
  go_wp2_with (refine wpList_look2 rfl _ _ rfl hm7 hkz rfl rfl ?_)
  go_ret2
  exact ⟨rfl, HB7.out⟩

set_option maxRecDepth 100000 in
set_option maxHeartbeats 16000000 in
theorem Home_yes (W H N K g : Nat) (a : Option Addr) (c : Nat) (T  l : List Int) (w : World) (h : Rd w a N c T) (hT : Tab w) (hm : mayB W H T = true) (hG : Gt N (T, g)) (hF : Found W H N K T) (hP : Pth W H N (rgs W H N K).1 K T g l) (hKB : K ≤ 100000) (hu : 2 ≤ W ∧ W ≤ 5) (hh : 2 ≤ H ∧ H ≤ 5) (hN : W * H = N) (hN6 : N ≤ 6) :
    Calls Tryd.prog 19 #[.agg (gdA W H a N c)] w fun e w' => ∃ a' c', e = .returned (.tuple #[.slice a' K c', .int .i64 0]) ∧ Rd w' a' K c' l ∧ Below w.heap.size w w' := by
  have hb4 := len_bd hu hh hN
  have hS : decide (N ≤ 6) = true := decide_eq_true hN6
  have hlt := hG.lt.1
  have hix := hG.gap
  have HKZ : Hid (Kz (pad6 T)) := hide (hG.kz hN6)
  dsimp only at hlt hix
  obtain ⟨w1, hw1⟩ : ∃ w1, w.alloc (.cells (gdA W H a N c) 24) = w1 := ⟨_, rfl⟩
  have B1 : Below w.heap.size w w1 := by rw [← hw1]; exact (Below.refl _ _).alloc (Nat.le_refl _) _
  have CALL := hide (May_any W H a N c T w1 (h.mono B1))
  rw [hm] at CALL
  have HB := hide B1
  have K1 : Gd w1 w.heap.size W H a N c := by rw [← hw1]; exact Gd.new _ _ _ _ _ _
  have HH := hide (h.mono B1)
  have HT1 := hide (hT.mono B1)
  have HS1 : Hid (w1.heap.size = w.heap.size + 1) := hide (by rw [← hw1]; simp)
  have HGT := hide hG
  have HF := hide hF
  have HPP := hide hP
  have HT0 := hide hT.lt
  have HLN : Hid (K ≤ 100000) := hide hKB
  clear h B1 hm hG hF hP hT hKB
  go_enter Tryd.func19, Tryd.ntmps19
  go_upto_region 1 with fail
  clear hw1
  go_wp2_with (refine wpList_load_gd rfl (.tmp 1) rfl w.heap.size rfl K1 ?_)
  refine CALL.out.mono ?_
  rintro e w2 ⟨rfl, hb2⟩
  have K2 := K1.below hb2 (by have := HS1.out; omega)
  obtain ⟨c0, c1, c2⟩ := K2.cells
  have HB2 := hide (HB.out.trans (hb2.mono HB.out.size))
  have HR2 := hide (HH.out.mono hb2)
  have HT2 := hide (HT1.out.mono hb2)
  clear K1 HB CALL hb2 HH HT1 HS1
  go_wp2_with fail
  refine (isSmall_any W H N _ hN hb4.2).mono ?_
  rintro e wx ⟨rfl, hwx⟩
  subst wx
  rw [hS]
  clear hS
  go_wp2_with (refine wpList_load_gd rfl (.tmp 1) rfl w.heap.size rfl K2 ?_)
  refine (trayOf_any W H a N c T g w2 HR2.out (by omega) hix).mono ?_
  rintro e w3 ⟨tcb, tc, rfl, hBw, hcb, hb3⟩
  have K3 := K2.below hb3 K2.lt
  have hcw : w.heap.size ≤ tcb := by have := HB2.out.size; omega
  have HB3 := hide (HB2.out.trans (hb3.mono HB2.out.size))
  have HT3 := hide (HT2.out.mono hb3)
  have HW3 := hide hBw
  clear c0 c1 c2 K2 HR2 hb3 hBw HB2 HT2
  go_upto_region 6 with fail
  obtain ⟨w4, hw4⟩ : ∃ w4, w3.alloc (Obj.cells (trA W H (some ⟨tcb, 0, none⟩) N tc g) 55) = w4 := ⟨_, rfl⟩
  rw [hw4]
  have B34 : Below w3.heap.size w3 w4 := by rw [← hw4]; exact (Below.refl _ w3).alloc (Nat.le_refl _) _
  have HI4 : Hid (HmI W H N w3.heap.size tcb tc T g w4) := hide ⟨by rw [← hw4]; exact Ty.new _ _ _ _ _ _ _, HW3.out.mono B34⟩
  have K4 := K3.below B34 K3.lt
  obtain ⟨c0, c1, c2⟩ := K4.cells
  have HB4 := hide (HB3.out.trans (B34.mono HB3.out.size))
  have HT4 := hide (HT3.out.mono B34)
  have HTP : Hid (w.heap.size ≤ w3.heap.size ∧ w.heap.size ≤ tcb) := hide ⟨HB3.out.size, hcw⟩
  generalize hbt : w3.heap.size = tp at *
  clear hw4 HB3 HT3 HW3 B34 hbt K3 hcb hcw
  go_wp2_with fail
  refine (trayAtHome_any W H N w4 hu hh hN).mono ?_
  rintro e w5 ⟨cb, cc, rfl, bw, -, b5⟩
  have RH := hide (rings_home W H N K cb cc tp tcb tc g T w5 HF.out (HT4.out.mono b5) bw (HI4.out.below b5) hu hh hN hN6)
  have HB5 := hide (HB4.out.trans (b5.mono HB4.out.size))
  have HT5 := hide (HT4.out.mono b5)
  clear K4 c0 c1 c2 HB4 HT4 HI4 b5 bw
  go_wp2_with fail
  refine RH.out.mono ?_
  rintro e w6 ⟨mb, rfl, hm6, hi6, b6⟩
  have HB6 := hide (HB5.out.trans (b6.mono HB5.out.size))
  have HT6 := hide (HT5.out.mono b6)
  have HM6 := hide hm6
  have HI6 := hide hi6
  have T6 := hi6.ty
  clear RH HB5 HT5 hm6 hi6 b6
  go_upto_region 7 with fail
  go_wp2_with (refine wpList_load_ty rfl (.tmp 4) rfl tp rfl T6 ?_)
  refine (stones_any W H N tc tcb 0 g T w6 (by omega) HI6.out.bw.rd).mono ?_
  rintro e w7 ⟨rfl, b7⟩
  have hm7 := HM6.out.below b7 HM6.out.lt
  have HM7 := hide hm7
  have HI7 := hide (HI6.out.below b7)
  have HB7 := hide (HB6.out.trans (b7.mono HB6.out.size))
  have HT7 := hide (HT6.out.mono b7)
  have hkz := HKZ.out
  clear HM6 HI6 HB6 HT6 b7 T6 HKZ HF
  obtain ⟨d0, hd0⟩ : ∃ d0, lk (rgs W H N K).1 (pad6 T) = some d0 := by
    have := HPP.out
    cases this with
    | home h => exact ⟨_, h⟩
    | step h => exact ⟨_, h⟩
  have HD0 := hide hd0
  go_wp2_with (refine wpList_look2 rfl _ _ rfl hm7 hkz rfl rfl ?_)
  clear hm7 hkz hd0
  generalize hA : (rgs W H N K).1 = A at *
  clear hA
  have hlen := HPP.out.len
  obtain ⟨B0, hB0⟩ : ∃ B0, w7.heap.size = B0 := ⟨_, rfl⟩
  have HLT : Hid (tp < B0 ∧ tcb < B0 ∧ mb < B0 ∧ w.heap.size ≤ B0 ∧ 0 < B0) := hide ⟨by rw [← hB0]; exact HI7.out.ty.lt, by rw [← hB0]; exact HI7.out.bw.lt, by rw [← hB0]; exact HM7.out.lt, by rw [← hB0]; exact HB7.out.size, by rw [← hB0]; exact HT7.out.lt⟩
  have HSZ : Hid (B0 ≤ w7.heap.size) := hide (by omega)
  have HTM : Hid (tp ≠ mb ∧ tcb ≠ mb ∧ tp ≠ 0 ∧ tcb ≠ 0) := hide (by
    refine ⟨?_, ?_, ?_, ?_⟩
    · rintro rfl
      obtain ⟨es, clock, hb, _⟩ := HM7.out
      have := HI7.out.ty
      unfold Ty at this
      rw [hb] at this
      cases this
    · rintro rfl
      obtain ⟨es, clock, hb, _⟩ := HM7.out
      rcases HI7.out.bw.2 with ⟨hv, _⟩ | ⟨g', cap, cur, hv, -, hg', -⟩
      · simp at hv
      · simp only [Value.slice.injEq, Option.some.injEq, Addr.mk.injEq] at hv
        obtain ⟨⟨rfl, -⟩, -⟩ := hv
        rw [hb] at hg'
        cases hg'
    · have := HTP.out.1; have := HT0.out; omega
    · have := HTP.out.2; have := HT0.out; omega)
  have HO7 : Hid (w7.ownsRow B0 3 1 (.slice none 0 0) 0 (([] : List Int).map (Value.int .i64))) := hide (World.ownsRow_nil _ _ _ _)
  clear hB0
  go_loopw [6, 8] (fun dv lv wr => ∃ (j n : Nat) (Z : List Int) (q c8 : Nat) (a8 : Option Addr) (D l2 : List Int) (d : Int), dv = .int .i64 d ∧ lv = .slice a8 n c8 ∧ n + j = K ∧ Hid (lk A (pad6 Z) = some d) ∧ Hid (Pth W H N A j Z q l2) ∧ Hid (D ++ l2 = l) ∧ Hid (Gt N (Z, q)) ∧ Hid (wr.ownsRow B0 3 1 (.slice a8 n c8) n (D.map (Value.int .i64))) ∧ Hid (Mz wr mb A) ∧ Hid (HmI W H N tp tcb tc Z q wr) ∧ Hid (Tab wr) ∧ Hid (Below w.heap.size w wr) ∧ Hid (B0 ≤ wr.heap.size)) (fun _ lv _ => K - (lenOf lv))
  case atStart => exact ⟨K, 0, T, g, 0, none, [], l, d0, rfl, rfl, by omega, HD0, HPP, hide rfl, HGT, HO7, HM7, HI7, HT7, HB7, HSZ⟩
  case round =>
    clear HD0 HPP HGT HO7 HM7 HI7 HT7 HB7 HSZ
    obtain ⟨j, n, Z, q, c8, a8, D, l2, d, rfl, rfl, hnj, HDr, HPr, HCr, HGr, HOr, HMr, HIr, HTr, HBr, HSr⟩ := hrel
    have hp := HPr.out
    cases hp with
    | home h =>
      obtain rfl : d = -1 := by have := HDr.out; rw [h] at this; exact (Option.some.inj this).symm
      clear h
      obtain rfl : n = K := by omega
      go_wp2_with fail
      go_ret2
      refine ⟨a8, c8, rfl, ?_, HBr.out⟩
      · have h8 := Rd.of_own HOr.out
        have := HCr.out
        rw [List.append_nil] at this
        rw [← this]
        exact h8
    | step h hd hc hq hp =>
      rename_i k e q' l'
      obtain rfl : d = (e : Int) := by have := HDr.out; rw [h] at this; exact (Option.some.inj this).symm
      have HNX := hide hp
      have HC2 : Hid ((D ++ [(e : Int)]) ++ l' = l) := hide (by have := HCr.out; rw [← this]; simp)
      have hN8 : n + (k + 1) = K := hnj
      have hKb : K ≤ 100000 := HLN.out
      have hqN := HGr.out.lt.1
      dsimp only at hqN
      have HG2 : Hid (Gt N (mvl Z q q', q')) := hide (HGr.out.move hu.1 hN hd hc hq)
      have hor := HOr.out.alloc (.cells #[.int .i64 (e : Int)] 3)
      have hsz : B0 ≤ (World.alloc wr (.cells #[.int .i64 (e : Int)] 3)).heap.size := by rw [World.size_alloc]; have := HSr.out; omega
      have hR1 : Rd (World.alloc wr (.cells #[.int .i64 (e : Int)] 3)) (some ⟨wr.heap.size, 0, none⟩) 1 1 [(e : Int)] := Rd.of_blk (Blk.new wr 3 [(e : Int)] _ rfl) rfl (by decide)
      have HCC := hide hc
      have HQQ := hide hq
      clear h hp hc hq HCr HPr HDr
      go_wp2_with (at_builtin; refine wpList_append_rd _ rfl _ _ rfl B0 _ n D rfl hor (some ⟨wr.heap.size, 0, none⟩) 1 1 [(e : Int)] rfl hR1 (by omega) hsz ?_)
      intro v' w2' hO2 hg2
      obtain ⟨a9, c9, rfl⟩ := slice_form hO2
      have b2 : Below B0 wr w2' := ((Below.refl B0 wr).alloc HSr.out _).grown hg2 (by have := HSr.out; simp; omega) (fun i hi => (HOr.out.lt i hi).1)
      have HO2 := hide hO2
      have HB2' := hide (HBr.out.trans (b2.mono HLT.out.2.2.2.1))
      have HM2 := hide (HMr.out.below b2 HLT.out.2.2.1)
      have HY2 := hide (HIr.out.ty.below b2 HLT.out.1)
      have HW2' : Hid (Bw w2' tcb N tc Z) := hide (own_blk HIr.out.bw (fun i hi => b2.block i (by
        simp only [Value.ownBlock, Option.some.injEq] at hi
        rw [← hi]; exact HLT.out.2.1)))
      have HT2' := hide (HTr.out.below b2 HLT.out.2.2.2.2)
      have HS2' : Hid (B0 ≤ w2'.heap.size) := hide (Nat.le_trans HSr.out b2.size)
      clear hO2 hg2 hR1 hor hsz b2 HOr HBr HMr HIr HTr HSr
      go_wp2_with fail
      refine (move_any tp W H q e tcb N tc Z w2' HT2'.out HY2.out HW2'.out hu hh hN hqN hd).mono ?_
      rintro e3 w3' ⟨rfl, hk3, -, hmv⟩
      obtain ⟨ty3, bw3⟩ := hmv HCC.out q' HQQ.out
      have hltx := HLT.out
      have htmx := HTM.out
      have hk3b : Keeps (fun k => k = tp ∨ k = tcb) w2' w3' := hk3
      have HO3 : Hid (w3'.ownsRow B0 3 1 (.slice a9 (n + 1) c9) (n + 1) ((D ++ [(e : Int)]).map (Value.int .i64))) := hide (by rw [List.map_append]; exact own_blk HO2.out (fun i hi => hk3.block i (HO2.out.lt i hi).2 (by have := (HO2.out.lt i hi).1; omega)))
      have HB3' := hide (HB2'.out.trans (hk3.below HB2'.out.size (fun i hi => by have := HTP.out; omega)))
      have HM3 := hide (HM2.out.keeps hk3 (by omega))
      have HT3' := hide (HT2'.out.keeps hk3 (by omega))
      have HI3 : Hid (HmI W H N tp tcb tc (mvl Z q q') q' w3') := hide ⟨ty3, bw3⟩
      have HS3 : Hid (B0 ≤ w3'.heap.size) := hide (Nat.le_trans HS2'.out hk3.size)
      clear hk3 hk3b hmv ty3 bw3 HO2 HB2' HM2 HT2' HS2' HY2 HW2'
      have t3 := HI3.out.ty
      go_upto_region 14 with fail
      go_wp2_with (refine wpList_load_ty rfl (.tmp 4) rfl tp rfl t3 ?_)
      refine (stones_any W H N tc tcb 0 q' (mvl Z q q') w3' (by omega) HI3.out.bw.rd).mono ?_
      rintro e4 w4' ⟨rfl, b4⟩
      have hm4 := HM3.out.below b4 HM3.out.lt
      have hkz4 := HG2.out.kz hN6
      dsimp only at hkz4
      obtain ⟨d4, hd4⟩ : ∃ d4, lk A (pad6 (mvl Z q q')) = some d4 := by
        have := HNX.out
        cases this with
        | home h => exact ⟨_, h⟩
        | step h => exact ⟨_, h⟩
      have HD4 := hide hd4
      have HM4 := hide hm4
      have HO4 := hide (own_below HO3.out b4)
      have HI4' := hide (HI3.out.below b4)
      have HT4' := hide (HT3'.out.mono b4)
      have HB4' := hide (HB3'.out.trans (b4.mono HB3'.out.size))
      have HS4 : Hid (B0 ≤ w4'.heap.size) := hide (Nat.le_trans HS3.out b4.size)
      clear t3 b4 HO3 HM3 HI3 HT3' HB3' HS3
      go_wp2_with (refine wpList_look1 rfl _ _ rfl hm4 hkz4 rfl rfl ?_)
      go_roundw
      case rel => exact ⟨k, n + 1, mvl Z q q', q', c9, a9, D ++ [(e : Int)], l', d4, rfl, rfl, by omega, HD4, HNX, HC2, HG2, HO4, HM4, HI4', HT4', HB4', HS4⟩
      case measure => simp [lenOf]; omega

end Go.Proofs.YticalbpohhpjaaaDoor
