/-
  Chess: does a move take a pawn in passing, and what place does a pawn go over: walked. No conditions beyond those that each theorem bears.
  Chess: the rights that a move loses, walked. No conditions beyond those that each theorem bears.
-/
import Derived.Test.YtdmlamnonbmboaaDoorQ18
namespace Go.Proofs.YtdmlamnonbmboaaDoor
open Go.RowKit Go.Shelf

set_option maxRecDepth 100000 in
set_option maxHeartbeats 2000000 in
theorem takesPassed_any (b : Nat) (Z : List Int) (t : Nat) (k e h f : Int) (hz : Pz Z) (x q n : Nat) (hx : x < 64) (w : World) (hs : Sb w b Z (t : Nat) k e h f) :
    Calls Tryd.prog 95 #[.pointer (some ⟨b, 0, none⟩), .agg #[.int .i64 (x : Nat), .int .i64 (q : Nat), .int .i64 (n : Nat)]] w fun r w' => r = .returned (.bool (tkB Z e x q)) ∧ Below w.heap.size w w' := by
  obtain ⟨w1, hw1⟩ : ∃ w1, w.alloc (.cells #[.int .i64 (x : Nat), .int .i64 (q : Nat), .int .i64 (n : Nat)] 42) = w1 := ⟨_, rfl⟩
  have B1 : Below w.heap.size w w1 := by rw [← hw1]; exact (Below.refl _ w).alloc (Nat.le_refl _) _
  have V1 : Vb w1 w.heap.size 42 [.int .i64 (x : Nat), .int .i64 (q : Nat), .int .i64 (n : Nat)] := by rw [← hw1]; exact Vb.new w 42 _
  have c0 := V1.cell (i := 0) rfl
  have c1 := V1.cell (i := 1) rfl
  have S1 := hs.mono B1
  obtain ⟨x64, x65, x66, -, -⟩ := S1.ends
  have HB1 := hide B1
  have HKO : Hid (∀ W, Below w1.heap.size w1 W → Calls Tryd.prog 80 #[.pointer (some ⟨b, 0, none⟩), .int .i64 (x : Nat)] W fun r w' => r = .returned (.int .i64 ((zg Z x).natAbs : Nat)) ∧ w' = W) := hide (fun W hb => kindOn_any b Z t k e h f hz x hx W (S1.mono hb))
  unfold tkB
  generalize (zg Z x).natAbs = m at *
  clear V1 B1 S1 hs hz
  by_cases hqe : (q : Int) = e
  · have b1 : ((q : Int) == e) = true := by simp [hqe]
    rw [decide_eq_true hqe, Bool.true_and]
    subst hqe
    have bm : ((m : Int) == 1) = (m == 1) := by
      by_cases hm : m = 1
      · subst hm; rfl
      · rw [beq_eq_false_iff_ne.2 hm, beq_eq_false_iff_ne.2 (by omega)]
    go_enter Tryd.func95, Tryd.ntmps95
    go_upto_region 1 with fail
    clear hw1
    go_quiet (first | (go_at_call 80; exact Calls.quiet_of_same (HKO.out _ (by first | exact Below.refl _ _ | exact drewN_below _ _ _))))
    have HB2 : Hid (Below w.heap.size w (w1.drewN nq)) := hide (HB1.out.trans ((drewN_below _ _ _).mono HB1.out.size))
    generalize w1.drewN nq = w2 at *
    go_wp2_with fail
    go_ret
    exact ⟨by rw [← bm]; rfl, HB2.out⟩
  · have b1 : ((q : Int) == e) = false := by simp [hqe]
    rw [decide_eq_false hqe, Bool.false_and]
    go_enter Tryd.func95, Tryd.ntmps95
    go_upto_region 1 with fail
    clear hw1
    go_quiet (fail)
    have HB2 : Hid (Below w.heap.size w (w1.drewN nq)) := hide (HB1.out.trans ((drewN_below _ _ _).mono HB1.out.size))
    generalize w1.drewN nq = w2 at *
    go_wp2_with fail
    go_ret
    exact ⟨rfl, HB2.out⟩

/-- The place that a pawn goes over. -/
def psI (Z : List Int) (t x q : Nat) : Int := if (zg Z x).natAbs = 1 ∧ (q : Int) = (x : Int) + pci t 8 + pci t 8 then (x : Int) + pci t 8 else -1

set_option maxRecDepth 100000 in
set_option maxHeartbeats 2000000 in
theorem passedBy_any (b : Nat) (Z : List Int) (t : Nat) (k e h f : Int) (hz : Pz Z) (x q n : Nat) (hx : x < 64) (w : World) (hs : Sb w b Z (t : Nat) k e h f) :
    Calls Tryd.prog 79 #[.pointer (some ⟨b, 0, none⟩), .agg #[.int .i64 (x : Nat), .int .i64 (q : Nat), .int .i64 (n : Nat)]] w fun r w' => r = .returned (.int .i64 (psI Z t x q)) ∧ Below w.heap.size w w' := by
  obtain ⟨w1, hw1⟩ : ∃ w1, w.alloc (.cells #[.int .i64 (x : Nat), .int .i64 (q : Nat), .int .i64 (n : Nat)] 42) = w1 := ⟨_, rfl⟩
  have B1 : Below w.heap.size w w1 := by rw [← hw1]; exact (Below.refl _ w).alloc (Nat.le_refl _) _
  have V1 : Vb w1 w.heap.size 42 [.int .i64 (x : Nat), .int .i64 (q : Nat), .int .i64 (n : Nat)] := by rw [← hw1]; exact Vb.new w 42 _
  have c0 := V1.cell (i := 0) rfl
  have c1 := V1.cell (i := 1) rfl
  have S1 := hs.mono B1
  obtain ⟨x64, x65, x66, -, -⟩ := S1.ends
  have HB1 := hide B1
  have HKO : Hid (∀ W, Below w1.heap.size w1 W → Calls Tryd.prog 80 #[.pointer (some ⟨b, 0, none⟩), .int .i64 (x : Nat)] W fun r w' => r = .returned (.int .i64 ((zg Z x).natAbs : Nat)) ∧ w' = W) := hide (fun W hb => kindOn_any b Z t k e h f hz x hx W (S1.mono hb))
  have HFO := hide (forward_any t)
  have hF : pci t 8 = 8 ∨ pci t 8 = -8 := by unfold pci; split <;> omega
  have HV1 := hide V1
  have HS1 := hide S1
  unfold psI
  generalize (zg Z x).natAbs = m at *
  generalize pci t 8 = F at *
  clear V1 B1 S1 hs hz
  by_cases hm : m = 1
  · subst hm
    by_cases hq : (q : Int) = (x : Int) + F + F
    · rw [if_pos ⟨rfl, hq⟩]
      have b1 : ((q : Int) == (x : Int) + F + F) = true := by simp [hq]
      have hqb : (x : Int) + F + F < 1000 ∧ -1000 < (x : Int) + F + F := by omega
      clear hq
      go_enter Tryd.func79, Tryd.ntmps79
      go_upto_region 1 with fail
      clear hw1
      go_quiet (first | (go_at_call 66; exact Calls.quiet_of_same (HFO.out _)))
      have HBX : Hid (Below w1.heap.size w1 (w1.drewN nq)) := hide (drewN_below _ _ _)
      have V2 := HV1.out.mono HBX.out
      have S2 := HS1.out.mono HBX.out
      clear c0 c1 x64 x65 x66
      have c0 := V2.cell (i := 0) rfl
      have c1 := V2.cell (i := 1) rfl
      have x64 := S2.ends.1
      clear V2 S2
      generalize w1.drewN nq = w2 at *
      go_upto_region 2 with fail
      go_quiet (first | (go_at_call 66; exact Calls.quiet_of_same (HFO.out _)) | (go_at_call 80; exact Calls.quiet_of_same (HKO.out _ (by first | exact HBX.out | exact HBX.out.trans ((drewN_below _ _ _).mono HBX.out.size)))))
      have HB2 : Hid (Below w.heap.size w (w2.drewN nq)) := hide ((HB1.out.trans (HBX.out.mono HB1.out.size)).trans ((drewN_below _ _ _).mono (Nat.le_trans HB1.out.size HBX.out.size)))
      generalize w2.drewN nq = w3 at *
      go_wp2_with fail
      go_ret
      exact ⟨rfl, HB2.out⟩
    · rw [if_neg (fun h => hq h.2)]
      have b1 : ((q : Int) == (x : Int) + F + F) = false := by simp [hq]
      go_enter Tryd.func79, Tryd.ntmps79
      go_upto_region 1 with fail
      clear hw1
      go_quiet (first | (go_at_call 66; exact Calls.quiet_of_same (HFO.out _)))
      have HBX : Hid (Below w1.heap.size w1 (w1.drewN nq)) := hide (drewN_below _ _ _)
      have V2 := HV1.out.mono HBX.out
      have S2 := HS1.out.mono HBX.out
      clear c0 c1 x64 x65 x66
      have c0 := V2.cell (i := 0) rfl
      have c1 := V2.cell (i := 1) rfl
      have x64 := S2.ends.1
      clear V2 S2
      generalize w1.drewN nq = w2 at *
      go_upto_region 2 with fail
      go_quiet (first | (go_at_call 66; exact Calls.quiet_of_same (HFO.out _)) | (go_at_call 80; exact Calls.quiet_of_same (HKO.out _ (by first | exact HBX.out | exact HBX.out.trans ((drewN_below _ _ _).mono HBX.out.size)))))
      have HB2 : Hid (Below w.heap.size w (w2.drewN nq)) := hide ((HB1.out.trans (HBX.out.mono HB1.out.size)).trans ((drewN_below _ _ _).mono (Nat.le_trans HB1.out.size HBX.out.size)))
      generalize w2.drewN nq = w3 at *
      go_wp2_with fail
      go_ret
      exact ⟨rfl, HB2.out⟩
  · rw [if_neg (fun h => hm h.1)]
    have b1 : ((m : Int) == 1) = false := by simp; omega
    go_enter Tryd.func79, Tryd.ntmps79
    go_upto_region 1 with fail
    clear hw1
    go_quiet (first | (go_at_call 66; exact Calls.quiet_of_same (HFO.out _)))
    have HBX : Hid (Below w1.heap.size w1 (w1.drewN nq)) := hide (drewN_below _ _ _)
    have V2 := HV1.out.mono HBX.out
    have S2 := HS1.out.mono HBX.out
    clear c0 c1 x64 x65 x66
    have c0 := V2.cell (i := 0) rfl
    have c1 := V2.cell (i := 1) rfl
    have x64 := S2.ends.1
    clear V2 S2
    generalize w1.drewN nq = w2 at *
    go_upto_region 2 with fail
    go_quiet (first | (go_at_call 66; exact Calls.quiet_of_same (HFO.out _)) | (go_at_call 80; exact Calls.quiet_of_same (HKO.out _ (by first | exact HBX.out | exact HBX.out.trans ((drewN_below _ _ _).mono HBX.out.size)))))
    have HB2 : Hid (Below w.heap.size w (w2.drewN nq)) := hide ((HB1.out.trans (HBX.out.mono HB1.out.size)).trans ((drewN_below _ _ _).mono (Nat.le_trans HB1.out.size HBX.out.size)))
    generalize w2.drewN nq = w3 at *
    go_wp2_with fail
    go_ret
    exact ⟨rfl, HB2.out⟩

end Go.Proofs.YtdmlamnonbmboaaDoor

namespace Go.Proofs.YtdmlamnonbmboaaDoor
open Go.RowKit Go.Shelf

def lsB (x q i : Nat) : Bool := x == kgP i || x == rkP i || q == rkP i
/-- The rights lost, of the first castlings. -/
def lsN (x q : Nat) : Nat → Nat
  | 0 => 0
  | i + 1 => lsN x q i ||| (if lsB x q i = true then 2 ^ i else 0)
theorem lsN_lt (x q : Nat) : ∀ n, lsN x q n < 2 ^ n
  | 0 => by rw [lsN]; decide
  | n + 1 => by
    rw [lsN]
    have h1 := lsN_lt x q n
    have h2 : 2 ^ n < 2 ^ (n + 1) := Nat.pow_lt_pow_right (by omega) (by omega)
    refine Nat.or_lt_two_pow (by omega) ?_
    split <;> omega
theorem tab_or : ((List.range 16).all fun a => (List.range 4).all fun i => bits BinOp.or IntKind.i64 (a : Int) (wrap64 (2 ^ i)) == ((a ||| 2 ^ i : Nat) : Int)) = true := by decide +kernel
theorem bit_or {a i : Nat} (ha : a < 16) (hi : i < 4) : bits BinOp.or IntKind.i64 (a : Int) (wrap64 (2 ^ i)) = ((a ||| 2 ^ i : Nat) : Int) := beq_iff_eq.1 (allN (allN tab_or ha) hi)

attribute [local irreducible] cT sdP kgP rkP

set_option maxRecDepth 100000 in
set_option maxHeartbeats 4000000 in
theorem rightsLost_any (x q n : Nat) (w : World) :
    Calls Tryd.prog 78 #[.agg #[.int .i64 (x : Nat), .int .i64 (q : Nat), .int .i64 (n : Nat)]] w fun r w' => r = .returned (.int .i64 (lsN x q 4 : Nat)) ∧ Below w.heap.size w w' := by
  obtain ⟨w1, hw1⟩ : ∃ w1, w.alloc (.cells #[.int .i64 (x : Nat), .int .i64 (q : Nat), .int .i64 (n : Nat)] 42) = w1 := ⟨_, rfl⟩
  have B1 : Below w.heap.size w w1 := by rw [← hw1]; exact (Below.refl _ w).alloc (Nat.le_refl _) _
  have V1 : Vb w1 w.heap.size 42 [.int .i64 (x : Nat), .int .i64 (q : Nat), .int .i64 (n : Nat)] := by rw [← hw1]; exact Vb.new w 42 _
  have HB1 := hide B1
  have HV1 : Hid (∀ W, Below w1.heap.size w1 W → Vb W w.heap.size 42 [.int .i64 (x : Nat), .int .i64 (q : Nat), .int .i64 (n : Nat)]) := hide (fun W hb => V1.mono hb)
  have HSU : Hid (∀ i, lsN x q (i + 1) = lsN x q i ||| (if lsB x q i = true then 2 ^ i else 0)) := hide (fun i => rfl)
  have HL0 : Hid (lsN x q 0 = 0) := hide rfl
  have HLT : Hid (∀ i, i < 4 → lsN x q i < 16) := hide (fun i hi => Nat.lt_of_lt_of_le (lsN_lt x q i) (by have h4 := Nat.pow_le_pow_right (n := 2) (by omega) (show i ≤ 4 by omega); exact h4))
  have HLB : Hid (∀ i, lsB x q i = (x == kgP i || x == rkP i || q == rkP i)) := hide (fun i => rfl)
  clear B1 V1
  go_enter Tryd.func78, Tryd.ntmps78
  go_upto_region 1 with fail
  clear hw1
  go_wp2_with fail
  refine (castlings_any _).mono ?_
  rintro r w0 ⟨rfl, hb0⟩
  have HB0 : Hid (Below w1.heap.size w1 w0) := hide hb0
  clear hb0
  go_wp2_with fail
  go_loopw [3, 7] (fun u v wr => ∃ i : Nat, v = .int .i64 i ∧ i ≤ 4 ∧ u = .int .i64 (lsN x q i : Nat) ∧ Hid (Below w1.heap.size w1 wr)) (fun _ v _ => 4 - (intOf v).toNat)
  case atStart => exact ⟨0, rfl, by omega, by rw [HL0.out]; rfl, HB0⟩
  case round =>
    obtain ⟨i, rfl, hi, rfl, hbl⟩ := hrel
    by_cases hlt : i < 4
    · have hlt' : (i : Int) < 4 := by omega
      have hidx := run_cas i hlt
      have HSI := hide (HSU.out i)
      have hl16 := HLT.out i hlt
      have hbo := bit_or hl16 hlt
      have HBI := hide (HLB.out i)
      generalize lsB x q i = lb at *
      generalize lsN x q i = ls at *
      generalize sdP i = si at *
      generalize kgP i = ki at *
      generalize rkP i = ri at *
      obtain ⟨w2, hw2⟩ : ∃ w2, wr.alloc (.cells #[.int .i64 (si : Nat), .int .i64 (ki : Nat), .int .i64 (ri : Nat)] 93) = w2 := ⟨_, rfl⟩
      have B2 : Below w1.heap.size w1 w2 := by rw [← hw2]; exact hbl.out.alloc hbl.out.size _
      have C2 : Vb w2 wr.heap.size 93 [.int .i64 (si : Nat), .int .i64 (ki : Nat), .int .i64 (ri : Nat)] := by rw [← hw2]; exact Vb.new wr 93 _
      have d1 := C2.cell (i := 1) rfl
      have d2 := C2.cell (i := 2) rfl
      have m0 := (HV1.out w2 B2).cell (i := 0) rfl
      have m1 := (HV1.out w2 B2).cell (i := 1) rfl
      have HB2 := hide B2
      clear B2 C2 hbl
      obtain ⟨lo, hlo⟩ : ∃ lo, ls ||| 2 ^ i = lo := ⟨_, rfl⟩
      rw [hlo] at hbo
      go_upto_region 5 with fail
      clear hw2 hidx
      by_cases e1 : x = ki
      · have b1 : ((x : Int) == (ki : Int)) = true := by simp [e1]
        have HE : Hid (lsN x q (i + 1) = lo) := hide (by rw [HSI.out, ← hlo, if_pos (by rw [HBI.out]; simp [e1])])
        clear e1 HSI HBI hlo
        go_wp2_with fail
        exact ⟨⟨i + 1, by go_num, by omega, by rw [HE.out], HB2⟩, by simp [intOf]; omega⟩
      · have b1 : ((x : Int) == (ki : Int)) = false := by simp; omega
        by_cases e2 : x = ri
        · have b2 : ((x : Int) == (ri : Int)) = true := by simp [e2]
          have HE : Hid (lsN x q (i + 1) = lo) := hide (by rw [HSI.out, ← hlo, if_pos (by rw [HBI.out]; simp [e2])])
          clear e1 e2 HSI HBI hlo
          go_wp2_with fail
          exact ⟨⟨i + 1, by go_num, by omega, by rw [HE.out], HB2⟩, by simp [intOf]; omega⟩
        · have b2 : ((x : Int) == (ri : Int)) = false := by simp; omega
          by_cases e3 : q = ri
          · have b3 : ((q : Int) == (ri : Int)) = true := by simp [e3]
            have HE : Hid (lsN x q (i + 1) = lo) := hide (by rw [HSI.out, ← hlo, if_pos (by rw [HBI.out]; simp [e3])])
            clear e1 e2 e3 HSI HBI hlo
            go_wp2_with fail
            exact ⟨⟨i + 1, by go_num, by omega, by rw [HE.out], HB2⟩, by simp [intOf]; omega⟩
          · have b3 : ((q : Int) == (ri : Int)) = false := by simp; omega
            have HE : Hid (lsN x q (i + 1) = ls) := hide (by rw [HSI.out, if_neg (by rw [HBI.out]; simp [e1, e2, e3]), Nat.or_zero])
            clear e1 e2 e3 HSI HBI hlo
            go_wp2_with fail
            exact ⟨⟨i + 1, by go_num, by omega, by rw [HE.out], HB2⟩, by simp [intOf]; omega⟩
    · obtain rfl : i = 4 := by omega
      go_wp2_with fail
      go_ret
      exact ⟨rfl, HB1.out.trans (hbl.out.mono HB1.out.size)⟩

end Go.Proofs.YtdmlamnonbmboaaDoor
