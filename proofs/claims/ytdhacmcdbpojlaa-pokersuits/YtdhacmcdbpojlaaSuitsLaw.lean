/-
  The law 'PokerSuits': every way through it ends with true. No conditions beyond those that each theorem bears.
-/
import Derived.Test.YtdhacmcdbpojlaaSuitMath
import Derived.Test.YtdhacmcdbpojlaaHand2
import Derived.Test.YtdhacmcdbpojlaaNthB
import Derived.Test.YtdhacmcdbpojlaaFaces2
import Derived.Deep.LoopGhost
namespace Go.Proofs.Ytdhacmcdbpojlaa
open Go.RowKit Go.Shelf

def fO (q i : Nat) : Nat := ((nthSt 4 q 4).1.getD i 0).toNat

theorem fO_all : ∀ q, q < 24 → (∀ i, i < 4 → (nthSt 4 q 4).1.getD i 0 = ((fO q i : Nat) : Int) ∧ fO q i < 4) ∧ ∀ i, i < 4 → ∀ j, j < 4 → fO q i = fO q j → i = j := by decide +kernel

def partS (L : List Nat) (k q j : Nat) : List Nat := (List.range j).map (fun i => suited (fO q) (L.getD ((i + k) % 7) 0))

theorem partS_succ (L : List Nat) (k q j : Nat) : partS L k q (j + 1) = partS L k q j ++ [suited (fO q) (L.getD ((j + k) % 7) 0)] := by
  simp [partS, List.range_succ]

theorem partS_seven (L : List Nat) (k q : Nat) : partS L k q 7 = (turned L k).map (suited (fO q)) := by
  simp only [partS, turned, List.map_map]; rfl

set_option maxRecDepth 100000 in
set_option maxHeartbeats 8000000 in
theorem suits_any (a : Option Addr) (n c : Nat) (zs : List Int) (t s : Int) (hz : ∀ z ∈ zs, -9223372036854775808 ≤ z ∧ z ≤ 9223372036854775807) (ht1 : -9223372036854775808 ≤ t) (ht2 : t ≤ 9223372036854775807) (hs1 : -9223372036854775808 ≤ s) (hs2 : s ≤ 9223372036854775807) (w : World) (h : Rd w a n c zs) :
    Calls Try.prog 6 #[.slice a n c, .int .i64 t, .int .i64 s] w fun e w' => e = .returned (.bool true) ∧ Below w.heap.size w w' := by
  have HR := hide h
  have HZ := hide hz
  clear h hz
  go_enter Try.func6, Try.ntmps6
  go_wp2_with fail
  refine (hand_keep a n c 7 zs HZ.out (by omega) w HR.out).mono ?_
  rintro e w1 ⟨L, a1, c1, hL1, hL2, hL3, rfl, hR1, hB1⟩
  have HC : Hid (Cards 7 L) := ⟨hL1, hL2, hL3⟩
  have HR1 := hide hR1
  have HB1 := hide hB1
  clear hL1 hL2 hL3 hR1 hB1 HR HZ
  obtain ⟨F, hF, eF, ebF, hpos⟩ := HC.out.best (by omega) (by omega)
  have EH := hide (HC.out.hand (by omega) (by omega))
  have EV := hide (HC.out.value (by omega) (by omega))
  go_wp2_with fail
  refine (Value_any a1 7 c1 _ w1 HR1.out).mono ?_
  rintro e w2 ⟨rfl, hB2⟩
  rw [EH.out, EV.out]
  have HB2 := hide (HB1.out.trans (hB2.mono HB1.out.size))
  have HR2 := hide (HR1.out.mono hB2)
  clear hB2
  go_wp2_with fail
  refine (Best_any a1 7 c1 _ w2 HR2.out).mono ?_
  rintro e w3 ⟨a3, m3, c3, rfl, hR3, hB3⟩
  rw [eF] at hR3
  obtain rfl : m3 = 5 := by have := hR3.len; rw [toI_length, hF.len] at this; omega
  rw [EH.out]
  have HR3 := hide hR3
  have HB3 := hide (HB2.out.trans (hB3.mono HB2.out.size))
  have HL3 := hide (HR2.out.mono hB3)
  have FH := hide (hF.hand (by omega) (by omega))
  have FV := hide ((hF.value (by omega) (by omega)).trans ebF)
  clear hR3 hB3 HR2 HB2 HR1 HB1 eF ebF hF
  go_wp2_with fail
  refine (Value_any a3 5 c3 _ w3 HR3.out).mono ?_
  rintro e w4 ⟨rfl, hB4⟩
  rw [FH.out, FV.out]
  have HB4 := hide (HB3.out.trans (hB4.mono HB3.out.size))
  have HL4 := hide (HL3.out.mono hB4)
  clear hB4 HB3 HL3 HR3 FH FV EH EV
  have C5 := HC.out.take 5 (by omega)
  have C6 := HC.out.take 6 (by omega)
  have H5 := hide (C5.hand (by omega) (by omega))
  have V5 := hide (C5.value (by omega) (by omega))
  have H6 := hide (C6.hand (by omega) (by omega))
  have V6 := hide (C6.value (by omega) (by omega))
  have hc1 := HL4.out.cap
  have hle1 : bv (L.take 5) ≤ bv (L.take 6) := bv_sub (by have := List.take_sublist 5 (L.take 6); rwa [List.take_take] at this) (by rw [C5.len]; omega)
  have hle2 : bv (L.take 6) ≤ bv L := bv_sub (List.take_sublist 6 L) (by rw [C6.len]; omega)
  clear C5 C6
  have R5 : Rd w4 a1 5 c1 (toI (L.take 5)) := by have := HL4.out.upto (k := 5) (by omega); rwa [toI, ← List.map_take] at this
  have R6 : Rd w4 a1 6 c1 (toI (L.take 6)) := by have := HL4.out.upto (k := 6) (by omega); rwa [toI, ← List.map_take] at this
  have HR5 := hide R5
  have HR6 := hide R6
  clear R5 R6
  go_wp2_with fail
  refine (Value_any a1 5 c1 _ _ HR5.out).mono ?_
  rintro e w5 ⟨rfl, hB5⟩
  rw [H5.out, V5.out]
  have HB5 := hide (HB4.out.trans (hB5.mono HB4.out.size))
  have HL5 := hide (HL4.out.mono hB5)
  have HR56 := hide (HR6.out.mono hB5)
  clear hB5 HB4 HL4 HR6 HR5 H5 V5
  go_wp2_with fail
  refine (Value_any a1 6 c1 _ _ HR56.out).mono ?_
  rintro e w6 ⟨rfl, hB6⟩
  rw [H6.out, V6.out]
  have HB6 := hide (HB5.out.trans (hB6.mono HB5.out.size))
  have HL6 := hide (HL5.out.mono hB6)
  clear hB6 HB5 HL5 HR56 H6 V6
  have b1 : ¬ bv L ≤ 0 := by omega
  have b2 : ¬ bv (L.take 6) < bv (L.take 5) := by omega
  have b3 : ¬ bv L < bv (L.take 6) := by omega
  obtain ⟨v, hv⟩ : ∃ v, bv L = v := ⟨_, rfl⟩
  obtain ⟨x, hx⟩ : ∃ v, bv (L.take 5) = v := ⟨_, rfl⟩
  obtain ⟨y, hy⟩ : ∃ v, bv (L.take 6) = v := ⟨_, rfl⟩
  rw [hx] at b2 hle1 ⊢
  rw [hy] at b2 b3 hle1 hle2 ⊢
  have HV := hide hv
  rw [hv] at b1 b3 hle2 hpos ⊢
  clear hx hy hv
  have d1 : decide (v ≤ 0) = false := by simp; omega
  have d2 : decide (y < x) = false := by simp; omega
  have d3 : decide (v < y) = false := by simp; omega
  have d4 : (v != v) = false := by simp
  go_wp2_with fail
  refine (picked_any s 24 _ hs1 hs2 (by omega) (by omega)).mono ?_
  rintro e w7 ⟨rfl, hw⟩
  subst w7
  have hk24 : pk s 24 < 24 := pk_lt _ _ (by omega)
  obtain ⟨q, hq⟩ : ∃ q, pk s 24 = q := ⟨_, rfl⟩
  rw [hq] at hk24 ⊢
  clear hq
  go_wp2_with fail
  refine (Nth_yes 4 q _ (by omega) (by show q < 24; omega)).mono ?_
  rintro e w7 ⟨a7, c7, rfl, hR7, hB7⟩
  have HR7 := hide hR7
  have HB7 := hide (HB6.out.trans (hB7.mono HB6.out.size))
  have HL7 := hide (HL6.out.mono hB7)
  clear hR7 hB7 HB6 HL6
  go_wp2_with fail
  refine (picked_any t 7 _ ht1 ht2 (by omega) (by omega)).mono ?_
  rintro e w8 ⟨rfl, hw⟩
  subst w8
  have hk7 : pk t 7 < 7 := pk_lt _ _ (by omega)
  obtain ⟨k, hk⟩ : ∃ k, pk t 7 = k := ⟨_, rfl⟩
  rw [hk] at hk7 ⊢
  clear hk
  go_wp2_with fail
  obtain ⟨b1', o1, ha1, hc1'⟩ := HL7.out.cells (by omega)
  obtain ⟨b7, o7, ha7, hc7⟩ := HR7.out.cells (by omega)
  subst ha1
  subst ha7
  have HC1 := hide hc1'
  have HC7 := hide hc7
  clear hc1' hc7
  go_loopw [20, 21] (fun s v wr => ∃ (j : Nat), v = .int .i64 j ∧ j ≤ 7 ∧ (∃ ad cc, s = .slice ad j cc) ∧ Hid (wr.ownsRow w7.heap.size 3 1 s j ((toI (partS L k q j)).map (Value.int .i64))) ∧ Hid (Below w7.heap.size w7 wr)) (fun _ v _ => 7 - (intOf v).toNat)
  case atStart => exact ⟨0, rfl, by omega, ⟨_, _, rfl⟩, World.ownsRow_nil _ _ _ _, Below.refl _ _⟩
  case round =>
    obtain ⟨j, rfl, hj, ⟨ad, cc, rfl⟩, hO, hB⟩ := hrel
    by_cases hlt : j < 7
    · have hlt' : (j : Int) < 7 := by omega
      have hps := partS_succ L k q j
      obtain ⟨m, hm⟩ : ∃ m, j + k = m := ⟨_, rfl⟩
      have hw1 : IntKind.i64.wrap ((j : Int) + (k : Int)) = (m : Int) := by rw [IntKind.wrap_i64]; omega
      have hp7 : m % 7 < 7 := by omega
      have hmr : Int.tmod (m : Int) 7 = ((m % 7 : Nat) : Int) := (Int.ofNat_tmod m 7).symm
      rw [hm] at hps
      have r1 := HC1.out (m % 7) hp7
      rw [toI_getD] at r1
      obtain ⟨p, hp⟩ : ∃ p, m % 7 = p := ⟨_, rfl⟩
      rw [hp] at hp7 hmr hps r1
      obtain ⟨x, hx⟩ : ∃ x, L.getD p 0 = x := ⟨_, rfl⟩
      have hx52 : x < 52 := by rw [← hx]; exact HC.out.lt _ (by have := HC.out.len; simp [List.getD, this, hp7])
      rw [hx] at hps r1
      have hq4 : Int.tdiv (x : Int) 4 = ((x / 4 : Nat) : Int) := (Int.ofNat_tdiv x 4).symm
      have hw4 : IntKind.i64.wrap (((x / 4 : Nat) : Int) * 4) = ((x / 4 * 4 : Nat) : Int) := by rw [IntKind.wrap_i64]; omega
      have hr4 : Int.tmod (x : Int) 4 = ((x % 4 : Nat) : Int) := (Int.ofNat_tmod x 4).symm
      have hx4 : x % 4 < 4 := by omega
      obtain ⟨fa, fb⟩ := (fO_all q hk24).1 (x % 4) hx4
      have r7 := HC7.out (x % 4) hx4
      rw [fa] at r7
      have r1' : wr.cell? ⟨b1', o1 + p, none⟩ = _ := (hB.out.cell (p := ⟨b1', o1 + p, none⟩) (World.block_lt_of_cell? w7 _ r1)).trans r1
      have r7' : wr.cell? ⟨b7, o7 + x % 4, none⟩ = _ := (hB.out.cell (p := ⟨b7, o7 + x % 4, none⟩) (World.block_lt_of_cell? w7 _ r7)).trans r7
      have hw5 : IntKind.i64.wrap (((x / 4 * 4 : Nat) : Int) + ((fO q (x % 4) : Nat) : Int)) = ((suited (fO q) x : Nat) : Int) := by rw [IntKind.wrap_i64]; unfold suited; omega
      obtain ⟨y5, hy5⟩ : ∃ y5, suited (fO q) x = y5 := ⟨_, rfl⟩
      obtain ⟨y3, hy3⟩ : ∃ y3, fO q (x % 4) = y3 := ⟨_, rfl⟩
      obtain ⟨y1, hy1⟩ : ∃ y1, x / 4 * 4 = y1 := ⟨_, rfl⟩
      obtain ⟨y0, hy0⟩ : ∃ y0, x / 4 = y0 := ⟨_, rfl⟩
      obtain ⟨y2, hy2⟩ : ∃ y2, x % 4 = y2 := ⟨_, rfl⟩
      rw [hy5] at hw5 hps
      rw [hy3] at r7' hw5
      rw [hy1] at hw4 hw5
      rw [hy0] at hq4 hw4
      rw [hy2] at hr4 hx4 r7'
      have hw0 : wrap64 (y0 : Int) = (y0 : Int) := by unfold wrap64; omega
      have hv4 : wrap64 ((y0 : Int) * 4) = (y1 : Int) := by have := hw4; rw [IntKind.wrap_i64] at this; unfold wrap64; omega
      have hv5 : wrap64 ((y1 : Int) + (y3 : Int)) = (y5 : Int) := by have := hw5; rw [IntKind.wrap_i64] at this; unfold wrap64; omega
      have HPS := hide hps
      clear hps fa fb r7 r1 hx hp hm hy5 hy3 hy1 hy0 hy2
      go_wp2_with (at_builtin; refine wpList_append_rd _ rfl (.tmp 116) (.tmp 126) rfl w7.heap.size _ j (toI (partS L k q j)) rfl (hO.out.alloc _) _ 1 1 [(y5 : Int)] rfl (one_rd _ _) (by omega) (by have := hB.out.size; simp; omega) ?_)
      intro v' w' hO' hG'
      obtain ⟨a', c', hv'⟩ := form_slice hO'
      rw [hv'] at hO' ⊢
      have hb0 : Below w7.heap.size w7 (wr.alloc (.cells #[.int .i64 (y5 : Int)] 3)) := hB.out.alloc hB.out.size _
      have HB' := hide (hb0.grown hG' hb0.size (fun j hj => (hO.out.lt j hj).1))
      have HO' := hide hO'
      clear hO' hG' hb0 hv'
      go_wp2_with fail
      go_roundw
      case rel =>
        refine ⟨j + 1, by go_num, by omega, ⟨a', c', rfl⟩, ?_, HB'.out⟩
        have := HO'.out
        rw [HPS.out]
        simp only [toI, List.map_append, List.map_cons, List.map_nil] at this ⊢
        exact this
      case measure => simp [intOf]; omega
    · obtain rfl : j = 7 := by omega
      rw [show (((7 : Nat)) : Int) = (7 : Int) from rfl]
      obtain ⟨CS, ES⟩ := HC.out.turnedSuited hk7 (fO q) (fun i hi => ((fO_all q hk24).1 i hi).2) (fun i j hi hj => (fO_all q hk24).2 i hi j hj)
      rw [← partS_seven] at CS ES
      have SH := hide (CS.hand (by omega) (by omega))
      have SV := hide ((CS.value (by omega) (by omega)).trans (ES.trans HV.out))
      have HRS := hide (Rd.of_own hO.out)
      clear CS ES
      go_wp2_with fail
      refine (Value_any ad 7 cc _ _ HRS.out).mono ?_
      rintro e w9 ⟨rfl, hB9⟩
      rw [SH.out, SV.out]
      have HB9 := hide (HB7.out.trans ((hB.out.trans (hB9.mono hB.out.size)).mono HB7.out.size))
      clear hB9
      have hvv : (v == v) = true := by simp
      go_wp2_with fail
      go_ret
      exact ⟨rfl, HB9.out⟩

end Go.Proofs.Ytdhacmcdbpojlaa
