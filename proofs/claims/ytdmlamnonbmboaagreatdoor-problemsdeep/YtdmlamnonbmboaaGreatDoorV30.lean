/-
  Chess: does a move take a pawn in passing, and what place does a pawn go over: walked. No conditions beyond those that each theorem bears.
  Chess: the rights that a move loses, walked. No conditions beyond those that each theorem bears.
  Chess: no move takes a king. No conditions beyond those that each theorem bears.
  Chess: rights and the place gone over, behind a move. No conditions beyond those that each theorem bears.
  Chess: behind each move the position may be. No conditions beyond those that each theorem bears.
-/
import Derived.Test.YtdmlamnonbmboaaGreatDoorV23
import Derived.Test.YtdmlamnonbmboaaGreatDoorV22
namespace Go.Proofs.YtdmlamnonbmboaaGreatDoor
open Go.RowKit Go.Shelf

set_option maxRecDepth 100000 in
set_option maxHeartbeats 2000000 in
theorem takesPassed_any (b : Nat) (Z : List Int) (t : Nat) (k e h f : Int) (hz : Pz Z) (x q n : Nat) (hx : x < 64) (w : World) (hs : Sb w b Z (t : Nat) k e h f) :
    Calls Tryz.prog 80 #[.pointer (some ⟨b, 0, none⟩), .agg #[.int .i64 (x : Nat), .int .i64 (q : Nat), .int .i64 (n : Nat)]] w fun r w' => r = .returned (.bool (tkB Z e x q)) ∧ Below w.heap.size w w' := by
  obtain ⟨w1, hw1⟩ : ∃ w1, w.alloc (.cells #[.int .i64 (x : Nat), .int .i64 (q : Nat), .int .i64 (n : Nat)] 32) = w1 := ⟨_, rfl⟩
  have B1 : Below w.heap.size w w1 := by rw [← hw1]; exact (Below.refl _ w).alloc (Nat.le_refl _) _
  have V1 : Vb w1 w.heap.size 32 [.int .i64 (x : Nat), .int .i64 (q : Nat), .int .i64 (n : Nat)] := by rw [← hw1]; exact Vb.new w 32 _
  have c0 := V1.cell (i := 0) rfl
  have c1 := V1.cell (i := 1) rfl
  have S1 := hs.mono B1
  obtain ⟨x64, x65, x66, -, -⟩ := S1.ends
  have HB1 := hide B1
  have HKO : Hid (∀ W, Below w1.heap.size w1 W → Calls Tryz.prog 52 #[.pointer (some ⟨b, 0, none⟩), .int .i64 (x : Nat)] W fun r w' => r = .returned (.int .i64 ((zg Z x).natAbs : Nat)) ∧ w' = W) := hide (fun W hb => kindOn_any b Z t k e h f hz x hx W (S1.mono hb))
  unfold tkB
  generalize (zg Z x).natAbs = m at *
  clear V1 B1 S1 hs hz
  by_cases hqe : (q : Int) = e
  · have b1 : ((q : Int) == e) = true := by simp [hqe]
    rw [decide_eq_true hqe, Bool.true_and]
    subst hqe
    have bm : ((m : Int) == 1) = (m == 1) := by
      by_cases hm : m = 1
      · subst hm; rfl
      · rw [beq_eq_false_iff_ne.2 hm, beq_eq_false_iff_ne.2 (by omega)]
    go_enter Tryz.func80, Tryz.ntmps80
    go_upto_region 1 with fail
    clear hw1
    go_quiet (first | (go_at_call 52; exact Calls.quiet_of_same (HKO.out _ (by first | exact Below.refl _ _ | exact drewN_below _ _ _))))
    have HB2 : Hid (Below w.heap.size w (w1.drewN nq)) := hide (HB1.out.trans ((drewN_below _ _ _).mono HB1.out.size))
    generalize w1.drewN nq = w2 at *
    go_wp2_with fail
    go_ret
    exact ⟨by rw [← bm]; rfl, HB2.out⟩
  · have b1 : ((q : Int) == e) = false := by simp [hqe]
    rw [decide_eq_false hqe, Bool.false_and]
    go_enter Tryz.func80, Tryz.ntmps80
    go_upto_region 1 with fail
    clear hw1
    go_quiet (fail)
    have HB2 : Hid (Below w.heap.size w (w1.drewN nq)) := hide (HB1.out.trans ((drewN_below _ _ _).mono HB1.out.size))
    generalize w1.drewN nq = w2 at *
    go_wp2_with fail
    go_ret
    exact ⟨rfl, HB2.out⟩

/-- The place that a pawn goes over. -/
def psI (Z : List Int) (t x q : Nat) : Int := if (zg Z x).natAbs = 1 ∧ (q : Int) = (x : Int) + pci t 8 + pci t 8 then (x : Int) + pci t 8 else -1

set_option maxRecDepth 100000 in
set_option maxHeartbeats 2000000 in
theorem passedBy_any (b : Nat) (Z : List Int) (t : Nat) (k e h f : Int) (hz : Pz Z) (x q n : Nat) (hx : x < 64) (w : World) (hs : Sb w b Z (t : Nat) k e h f) :
    Calls Tryz.prog 51 #[.pointer (some ⟨b, 0, none⟩), .agg #[.int .i64 (x : Nat), .int .i64 (q : Nat), .int .i64 (n : Nat)]] w fun r w' => r = .returned (.int .i64 (psI Z t x q)) ∧ Below w.heap.size w w' := by
  obtain ⟨w1, hw1⟩ : ∃ w1, w.alloc (.cells #[.int .i64 (x : Nat), .int .i64 (q : Nat), .int .i64 (n : Nat)] 32) = w1 := ⟨_, rfl⟩
  have B1 : Below w.heap.size w w1 := by rw [← hw1]; exact (Below.refl _ w).alloc (Nat.le_refl _) _
  have V1 : Vb w1 w.heap.size 32 [.int .i64 (x : Nat), .int .i64 (q : Nat), .int .i64 (n : Nat)] := by rw [← hw1]; exact Vb.new w 32 _
  have c0 := V1.cell (i := 0) rfl
  have c1 := V1.cell (i := 1) rfl
  have S1 := hs.mono B1
  obtain ⟨x64, x65, x66, -, -⟩ := S1.ends
  have HB1 := hide B1
  have HKO : Hid (∀ W, Below w1.heap.size w1 W → Calls Tryz.prog 52 #[.pointer (some ⟨b, 0, none⟩), .int .i64 (x : Nat)] W fun r w' => r = .returned (.int .i64 ((zg Z x).natAbs : Nat)) ∧ w' = W) := hide (fun W hb => kindOn_any b Z t k e h f hz x hx W (S1.mono hb))
  have HFO := hide (forward_any t)
  have hF : pci t 8 = 8 ∨ pci t 8 = -8 := by unfold pci; split <;> omega
  have HV1 := hide V1
  have HS1 := hide S1
  unfold psI
  generalize (zg Z x).natAbs = m at *
  generalize pci t 8 = F at *
  clear V1 B1 S1 hs hz
  by_cases hm : m = 1
  · subst hm
    by_cases hq : (q : Int) = (x : Int) + F + F
    · rw [if_pos ⟨rfl, hq⟩]
      have b1 : ((q : Int) == (x : Int) + F + F) = true := by simp [hq]
      have hqb : (x : Int) + F + F < 1000 ∧ -1000 < (x : Int) + F + F := by omega
      clear hq
      go_enter Tryz.func51, Tryz.ntmps51
      go_upto_region 1 with fail
      clear hw1
      go_quiet (first | (go_at_call 76; exact Calls.quiet_of_same (HFO.out _)))
      have HBX : Hid (Below w1.heap.size w1 (w1.drewN nq)) := hide (drewN_below _ _ _)
      have V2 := HV1.out.mono HBX.out
      have S2 := HS1.out.mono HBX.out
      clear c0 c1 x64 x65 x66
      have c0 := V2.cell (i := 0) rfl
      have c1 := V2.cell (i := 1) rfl
      have x64 := S2.ends.1
      clear V2 S2
      generalize w1.drewN nq = w2 at *
      go_upto_region 2 with fail
      go_quiet (first | (go_at_call 76; exact Calls.quiet_of_same (HFO.out _)) | (go_at_call 52; exact Calls.quiet_of_same (HKO.out _ (by first | exact HBX.out | exact HBX.out.trans ((drewN_below _ _ _).mono HBX.out.size)))))
      have HB2 : Hid (Below w.heap.size w (w2.drewN nq)) := hide ((HB1.out.trans (HBX.out.mono HB1.out.size)).trans ((drewN_below _ _ _).mono (Nat.le_trans HB1.out.size HBX.out.size)))
      generalize w2.drewN nq = w3 at *
      go_wp2_with fail
      go_ret
      exact ⟨rfl, HB2.out⟩
    · rw [if_neg (fun h => hq h.2)]
      have b1 : ((q : Int) == (x : Int) + F + F) = false := by simp [hq]
      go_enter Tryz.func51, Tryz.ntmps51
      go_upto_region 1 with fail
      clear hw1
      go_quiet (first | (go_at_call 76; exact Calls.quiet_of_same (HFO.out _)))
      have HBX : Hid (Below w1.heap.size w1 (w1.drewN nq)) := hide (drewN_below _ _ _)
      have V2 := HV1.out.mono HBX.out
      have S2 := HS1.out.mono HBX.out
      clear c0 c1 x64 x65 x66
      have c0 := V2.cell (i := 0) rfl
      have c1 := V2.cell (i := 1) rfl
      have x64 := S2.ends.1
      clear V2 S2
      generalize w1.drewN nq = w2 at *
      go_upto_region 2 with fail
      go_quiet (first | (go_at_call 76; exact Calls.quiet_of_same (HFO.out _)) | (go_at_call 52; exact Calls.quiet_of_same (HKO.out _ (by first | exact HBX.out | exact HBX.out.trans ((drewN_below _ _ _).mono HBX.out.size)))))
      have HB2 : Hid (Below w.heap.size w (w2.drewN nq)) := hide ((HB1.out.trans (HBX.out.mono HB1.out.size)).trans ((drewN_below _ _ _).mono (Nat.le_trans HB1.out.size HBX.out.size)))
      generalize w2.drewN nq = w3 at *
      go_wp2_with fail
      go_ret
      exact ⟨rfl, HB2.out⟩
  · rw [if_neg (fun h => hm h.1)]
    have b1 : ((m : Int) == 1) = false := by simp; omega
    go_enter Tryz.func51, Tryz.ntmps51
    go_upto_region 1 with fail
    clear hw1
    go_quiet (first | (go_at_call 76; exact Calls.quiet_of_same (HFO.out _)))
    have HBX : Hid (Below w1.heap.size w1 (w1.drewN nq)) := hide (drewN_below _ _ _)
    have V2 := HV1.out.mono HBX.out
    have S2 := HS1.out.mono HBX.out
    clear c0 c1 x64 x65 x66
    have c0 := V2.cell (i := 0) rfl
    have c1 := V2.cell (i := 1) rfl
    have x64 := S2.ends.1
    clear V2 S2
    generalize w1.drewN nq = w2 at *
    go_upto_region 2 with fail
    go_quiet (first | (go_at_call 76; exact Calls.quiet_of_same (HFO.out _)) | (go_at_call 52; exact Calls.quiet_of_same (HKO.out _ (by first | exact HBX.out | exact HBX.out.trans ((drewN_below _ _ _).mono HBX.out.size)))))
    have HB2 : Hid (Below w.heap.size w (w2.drewN nq)) := hide ((HB1.out.trans (HBX.out.mono HB1.out.size)).trans ((drewN_below _ _ _).mono (Nat.le_trans HB1.out.size HBX.out.size)))
    generalize w2.drewN nq = w3 at *
    go_wp2_with fail
    go_ret
    exact ⟨rfl, HB2.out⟩

end Go.Proofs.YtdmlamnonbmboaaGreatDoor

namespace Go.Proofs.YtdmlamnonbmboaaGreatDoor
open Go.RowKit Go.Shelf

def lsB (x q i : Nat) : Bool := x == kgP i || x == rkP i || q == rkP i
/-- The rights lost, of the first castlings. -/
def lsN (x q : Nat) : Nat → Nat
  | 0 => 0
  | i + 1 => lsN x q i ||| (if lsB x q i = true then 2 ^ i else 0)
theorem lsN_lt (x q : Nat) : ∀ n, lsN x q n < 2 ^ n
  | 0 => by rw [lsN]; decide
  | n + 1 => by
    rw [lsN]
    have h1 := lsN_lt x q n
    have h2 : 2 ^ n < 2 ^ (n + 1) := Nat.pow_lt_pow_right (by omega) (by omega)
    refine Nat.or_lt_two_pow (by omega) ?_
    split <;> omega
theorem tab_or : ((List.range 16).all fun a => (List.range 4).all fun i => bits BinOp.or IntKind.i64 (a : Int) (wrap64 (2 ^ i)) == ((a ||| 2 ^ i : Nat) : Int)) = true := by decide +kernel
theorem bit_or {a i : Nat} (ha : a < 16) (hi : i < 4) : bits BinOp.or IntKind.i64 (a : Int) (wrap64 (2 ^ i)) = ((a ||| 2 ^ i : Nat) : Int) := beq_iff_eq.1 (allN (allN tab_or ha) hi)

attribute [local irreducible] cT sdP kgP rkP

set_option maxRecDepth 100000 in
set_option maxHeartbeats 4000000 in
theorem rightsLost_any (x q n : Nat) (w : World) :
    Calls Tryz.prog 50 #[.agg #[.int .i64 (x : Nat), .int .i64 (q : Nat), .int .i64 (n : Nat)]] w fun r w' => r = .returned (.int .i64 (lsN x q 4 : Nat)) ∧ Below w.heap.size w w' := by
  obtain ⟨w1, hw1⟩ : ∃ w1, w.alloc (.cells #[.int .i64 (x : Nat), .int .i64 (q : Nat), .int .i64 (n : Nat)] 32) = w1 := ⟨_, rfl⟩
  have B1 : Below w.heap.size w w1 := by rw [← hw1]; exact (Below.refl _ w).alloc (Nat.le_refl _) _
  have V1 : Vb w1 w.heap.size 32 [.int .i64 (x : Nat), .int .i64 (q : Nat), .int .i64 (n : Nat)] := by rw [← hw1]; exact Vb.new w 32 _
  have HB1 := hide B1
  have HV1 : Hid (∀ W, Below w1.heap.size w1 W → Vb W w.heap.size 32 [.int .i64 (x : Nat), .int .i64 (q : Nat), .int .i64 (n : Nat)]) := hide (fun W hb => V1.mono hb)
  have HSU : Hid (∀ i, lsN x q (i + 1) = lsN x q i ||| (if lsB x q i = true then 2 ^ i else 0)) := hide (fun i => rfl)
  have HL0 : Hid (lsN x q 0 = 0) := hide rfl
  have HLT : Hid (∀ i, i < 4 → lsN x q i < 16) := hide (fun i hi => Nat.lt_of_lt_of_le (lsN_lt x q i) (by have h4 := Nat.pow_le_pow_right (n := 2) (by omega) (show i ≤ 4 by omega); exact h4))
  have HLB : Hid (∀ i, lsB x q i = (x == kgP i || x == rkP i || q == rkP i)) := hide (fun i => rfl)
  clear B1 V1
  go_enter Tryz.func50, Tryz.ntmps50
  go_upto_region 1 with fail
  clear hw1
  go_wp2_with fail
  refine (castlings_any _).mono ?_
  rintro r w0 ⟨rfl, hb0⟩
  have HB0 : Hid (Below w1.heap.size w1 w0) := hide hb0
  clear hb0
  go_wp2_with fail
  go_loopw [3, 7] (fun u v wr => ∃ i : Nat, v = .int .i64 i ∧ i ≤ 4 ∧ u = .int .i64 (lsN x q i : Nat) ∧ Hid (Below w1.heap.size w1 wr)) (fun _ v _ => 4 - (intOf v).toNat)
  case atStart => exact ⟨0, rfl, by omega, by rw [HL0.out]; rfl, HB0⟩
  case round =>
    obtain ⟨i, rfl, hi, rfl, hbl⟩ := hrel
    by_cases hlt : i < 4
    · have hlt' : (i : Int) < 4 := by omega
      have hidx := run_cas i hlt
      have HSI := hide (HSU.out i)
      have hl16 := HLT.out i hlt
      have hbo := bit_or hl16 hlt
      have HBI := hide (HLB.out i)
      generalize lsB x q i = lb at *
      generalize lsN x q i = ls at *
      generalize sdP i = si at *
      generalize kgP i = ki at *
      generalize rkP i = ri at *
      obtain ⟨w2, hw2⟩ : ∃ w2, wr.alloc (.cells #[.int .i64 (si : Nat), .int .i64 (ki : Nat), .int .i64 (ri : Nat)] 106) = w2 := ⟨_, rfl⟩
      have B2 : Below w1.heap.size w1 w2 := by rw [← hw2]; exact hbl.out.alloc hbl.out.size _
      have C2 : Vb w2 wr.heap.size 106 [.int .i64 (si : Nat), .int .i64 (ki : Nat), .int .i64 (ri : Nat)] := by rw [← hw2]; exact Vb.new wr 106 _
      have d1 := C2.cell (i := 1) rfl
      have d2 := C2.cell (i := 2) rfl
      have m0 := (HV1.out w2 B2).cell (i := 0) rfl
      have m1 := (HV1.out w2 B2).cell (i := 1) rfl
      have HB2 := hide B2
      clear B2 C2 hbl
      obtain ⟨lo, hlo⟩ : ∃ lo, ls ||| 2 ^ i = lo := ⟨_, rfl⟩
      rw [hlo] at hbo
      go_upto_region 5 with fail
      clear hw2 hidx
      by_cases e1 : x = ki
      · have b1 : ((x : Int) == (ki : Int)) = true := by simp [e1]
        have HE : Hid (lsN x q (i + 1) = lo) := hide (by rw [HSI.out, ← hlo, if_pos (by rw [HBI.out]; simp [e1])])
        clear e1 HSI HBI hlo
        go_wp2_with fail
        exact ⟨⟨i + 1, by go_num, by omega, by rw [HE.out], HB2⟩, by simp [intOf]; omega⟩
      · have b1 : ((x : Int) == (ki : Int)) = false := by simp; omega
        by_cases e2 : x = ri
        · have b2 : ((x : Int) == (ri : Int)) = true := by simp [e2]
          have HE : Hid (lsN x q (i + 1) = lo) := hide (by rw [HSI.out, ← hlo, if_pos (by rw [HBI.out]; simp [e2])])
          clear e1 e2 HSI HBI hlo
          go_wp2_with fail
          exact ⟨⟨i + 1, by go_num, by omega, by rw [HE.out], HB2⟩, by simp [intOf]; omega⟩
        · have b2 : ((x : Int) == (ri : Int)) = false := by simp; omega
          by_cases e3 : q = ri
          · have b3 : ((q : Int) == (ri : Int)) = true := by simp [e3]
            have HE : Hid (lsN x q (i + 1) = lo) := hide (by rw [HSI.out, ← hlo, if_pos (by rw [HBI.out]; simp [e3])])
            clear e1 e2 e3 HSI HBI hlo
            go_wp2_with fail
            exact ⟨⟨i + 1, by go_num, by omega, by rw [HE.out], HB2⟩, by simp [intOf]; omega⟩
          · have b3 : ((q : Int) == (ri : Int)) = false := by simp; omega
            have HE : Hid (lsN x q (i + 1) = ls) := hide (by rw [HSI.out, if_neg (by rw [HBI.out]; simp [e1, e2, e3]), Nat.or_zero])
            clear e1 e2 e3 HSI HBI hlo
            go_wp2_with fail
            exact ⟨⟨i + 1, by go_num, by omega, by rw [HE.out], HB2⟩, by simp [intOf]; omega⟩
    · obtain rfl : i = 4 := by omega
      go_wp2_with fail
      go_ret
      exact ⟨rfl, HB1.out.trans (hbl.out.mono HB1.out.size)⟩

end Go.Proofs.YtdmlamnonbmboaaGreatDoor

namespace Go.Proofs.YtdmlamnonbmboaaGreatDoor
set_option maxRecDepth 20000

theorem own_sd {Z : List Int} {t f : Nat} (ht : t ≤ 1) (h : ownB Z t f = true) : sd (zg Z f) = (t : Int) := by
  have h1 := of_decide_eq_true h
  unfold pci at h1
  unfold sd
  have : t = 0 ∨ t = 1 := by omega
  rcases this with rfl | rfl
  · simp at h1; rw [if_pos h1]; rfl
  · simp at h1; rw [if_neg (by omega), if_pos h1]; rfl

/-- NO MOVE TAKES A KING. -/
theorem tg_nok {Z : List Int} {t : Nat} {k e : Int} {f q Ko : Nat} (ht : t ≤ 1) (hS : Std Z) (hKo : KgAt Z (1 - t) Ko) (hch : chk Z (1 - t) = false) (hf : f < 64) (hq : q < 64) (ho : ownB Z t f = true) (h : tgB Z t k e f q = true) : q ≠ Ko := fun e0 => by
  have hz := (hKo.2 Ko hKo.1).2 rfl
  have hz0 : zg Z q ≠ 0 := by rw [e0, hz]; unfold pc; split <;> omega
  have hno : f ∉ atL Z Ko t := fun hm => by
    unfold chk at hch
    rw [hKo.kg] at hch
    have := of_decide_eq_false hch
    rw [show 1 - (1 - t) = t by omega] at this
    have h2 : atL Z Ko t = [] := Classical.byContradiction this
    rw [h2] at hm
    cases hm
  have hb := hS.2.1 f hf
  have hx : KX (zg Z f) := KX_of hb.1 hb.2.1 (fun e1 => by have := of_decide_eq_true ho; rw [e1] at this; unfold pci at this; split at this <;> omega)
  unfold tgB at h
  simp only [Bool.or_eq_true, Bool.and_eq_true, decide_eq_true_eq, beq_iff_eq] at h
  rcases h with (h | h) | h
  · apply hno
    unfold atL
    simp only [List.mem_filter, List.mem_range, Bool.and_eq_true, beq_iff_eq]
    exact ⟨hf, own_sd ht ho, by rw [← e0]; exact (rch_iff Z hf hq hx).2 h.1⟩
  · have h2 := h.2
    unfold ahB at h2
    simp only [Bool.or_eq_true, Bool.and_eq_true, beq_iff_eq] at h2
    rcases h2 with ⟨h3, h4 | h4⟩
    · exact hz0 (by rw [h4]; exact h3)
    · exact hz0 (by rw [h4.2]; exact h4.1.2)
  · have h2 := h.2
    unfold casB at h2
    simp only [List.any_eq_true, List.mem_range, Bool.and_eq_true, beq_iff_eq] at h2
    obtain ⟨i, hi, hcs, hqi⟩ := h2
    have hm : cTo i ∈ cBt i := by
      match i, hi with
      | 0, _ => decide
      | 1, _ => decide
      | 2, _ => decide
      | 3, _ => decide
    exact hz0 (by rw [hqi]; exact (csB_at hcs).2.2.1 _ hm)

/-- The other's king stays. -/
theorem king_other {Z : List Int} {t : Nat} {k e : Int} {f q n Ko : Nat} (ht : t ≤ 1) (hS : Std Z) (hC : Cas Z k) (hP : Pas Z t e) (hKo : KgAt Z (1 - t) Ko) (hch : chk Z (1 - t) = false) (hf : f < 64) (hq : q < 64) (ho : ownB Z t f = true) (h : tgB Z t k e f q = true) (hn : n ∈ inB Z f q) : KgAt (mvZ Z t e f q n) (1 - t) Ko := by
  have hqK := tg_nok ht hS hKo hch hf hq ho h
  have hv := (pci_pos (vl_own ho hn)).2 5
  have hfv := (pci_pos (of_decide_eq_true ho)).2 5
  have hz := (hKo.2 Ko hKo.1).2 rfl
  have hfK : f ≠ Ko := fun e0 => hfv (by rw [e0]; exact hz)
  have hpc0 : (0 : Int) ≠ pc (1 - t) 6 := by unfold pc; split <;> omega
  refine ⟨hKo.1, fun p hp => ?_⟩
  rcases cI_of hS hC hf ho h with ⟨hc, _, _⟩ | ⟨i, hi, hc, hcs, hfk, hqk, h6, hrk⟩
  · cases htk : tkB Z e f q with
    | false =>
      rw [mvZ_plain hS.1 hf hq hc htk]
      by_cases e1 : p = q
      · rw [if_pos e1]; exact ⟨fun a => absurd a hv, fun a => absurd (e1.symm.trans a) hqK⟩
      · rw [if_neg e1]
        by_cases e2 : p = f
        · rw [if_pos e2]; exact ⟨fun a => absurd a hpc0, fun a => absurd (e2.symm.trans a) hfK⟩
        · rw [if_neg e2]; exact hKo.2 p hp
    | true =>
      have hta := tk_at ht hS hP hf hq ho h htk
      rw [mvZ_take hS.1 hf hq hc hta.2.2.1 htk]
      by_cases e0 : p = bk t q
      · rw [if_pos e0]
        refine ⟨fun a => absurd a hpc0, fun a => ?_⟩
        have h1 := (hKo.2 p hp).2 a
        rw [e0, hta.2.2.2.1] at h1
        unfold pc at h1
        split at h1 <;> omega
      · rw [if_neg e0]
        by_cases e1 : p = q
        · rw [if_pos e1]; exact ⟨fun a => absurd a hv, fun a => absurd (e1.symm.trans a) hqK⟩
        · rw [if_neg e1]
          by_cases e2 : p = f
          · rw [if_pos e2]; exact ⟨fun a => absurd a hpc0, fun a => absurd (e2.symm.trans a) hfK⟩
          · rw [if_neg e2]; exact hKo.2 p hp
  · have hcp := cas_pl hi
    rw [mvZ_cas hS.1 hi hc, hrk]
    have hr4 : pc t 4 ≠ pc (1 - t) 6 := by unfold pc; split <;> split <;> omega
    have hov : zg Z (cOv i) = 0 := (csB_at hcs).2.2.1 _ (by
      match i, hi with
      | 0, _ => decide
      | 1, _ => decide
      | 2, _ => decide
      | 3, _ => decide)
    by_cases e1 : p = cOv i
    · rw [if_pos e1]
      exact ⟨fun a => absurd a hr4, fun a => absurd ((hKo.2 p hp).2 a) (by rw [e1, hov]; exact hpc0)⟩
    · rw [if_neg e1]
      by_cases e2 : p = rkP i
      · rw [if_pos e2]
        exact ⟨fun a => absurd a hpc0, fun a => absurd ((hKo.2 p hp).2 a) (by rw [e2, hrk]; exact hr4)⟩
      · rw [if_neg e2]
        by_cases e4 : p = cTo i
        · rw [if_pos e4]; exact ⟨fun a => absurd a hv, fun a => absurd ((hqk.trans e4.symm).trans a) hqK⟩
        · rw [if_neg e4]
          by_cases e5 : p = kgP i
          · rw [if_pos e5]; exact ⟨fun a => absurd a hpc0, fun a => absurd ((hfk.trans e5.symm).trans a) hfK⟩
          · rw [if_neg e5]; exact hKo.2 p hp

theorem vl_edge {Z : List Int} {t f q n : Nat} (hq : q < 64) (hn : n ∈ inB Z f q) (h : (vl Z t f n).natAbs = 1) : 8 ≤ q ∧ q < 56 := by
  have h1 := inB_lt hn
  unfold vl at h
  by_cases h0 : n = 0
  · rw [if_pos h0] at h
    have h2 := h1.2.2 h0
    have h3 : ¬ edge (q : Int) = true := fun he => h2 ⟨h, he⟩
    unfold edge at h3
    simp at h3
    omega
  · rw [if_neg h0] at h
    have h2 := h1.2.1 h0
    unfold pci at h
    split at h <;> omega

/-- THE PIECES STAND BEHIND A MOVE AS THEY MAY. -/
theorem std_after {Z : List Int} {t : Nat} {k e : Int} {f q n K Ko : Nat} (ht : t ≤ 1) (hS : Std Z) (hC : Cas Z k) (hP : Pas Z t e) (hK : KgAt Z t K) (hKo : KgAt Z (1 - t) Ko) (hch : chk Z (1 - t) = false) (hf : f < 64) (hq : q < 64) (ho : ownB Z t f = true) (h : tgB Z t k e f q = true) (hn : n ∈ inB Z f q) : Std (mvZ Z t e f q n) := by
  have k1 := king_after ht hS hC hP hK hf hq ho h hn
  have k2 := king_other ht hS hC hP hKo hch hf hq ho h hn
  have hpz := pz_of (t := t) (e := e) (f := f) (q := q) (n := n) hS (inB_lt hn).1
  refine ⟨hpz.1, fun p hp => ⟨(hpz.2 p).1, (hpz.2 p).2, fun h1 => ?_⟩, ?_, ?_⟩
  · have hold : (zg Z p).natAbs = 1 → 8 ≤ p ∧ p < 56 := (hS.2.1 p hp).2.2
    rcases cI_of hS hC hf ho h with ⟨hc, _, _⟩ | ⟨i, hi, hc, hcs, hfk, hqk, h6, hrk⟩
    · cases htk : tkB Z e f q with
      | false =>
        rw [mvZ_plain hS.1 hf hq hc htk] at h1
        by_cases e1 : p = q
        · rw [if_pos e1] at h1; rw [e1]; exact vl_edge hq hn h1
        · rw [if_neg e1] at h1
          by_cases e2 : p = f
          · rw [if_pos e2] at h1; simp at h1
          · rw [if_neg e2] at h1; exact hold h1
      | true =>
        have hta := tk_at ht hS hP hf hq ho h htk
        rw [mvZ_take hS.1 hf hq hc hta.2.2.1 htk] at h1
        by_cases e0 : p = bk t q
        · rw [if_pos e0] at h1; simp at h1
        · rw [if_neg e0] at h1
          by_cases e1 : p = q
          · rw [if_pos e1] at h1; rw [e1]; exact vl_edge hq hn h1
          · rw [if_neg e1] at h1
            by_cases e2 : p = f
            · rw [if_pos e2] at h1; simp at h1
            · rw [if_neg e2] at h1; exact hold h1
    · rw [mvZ_cas hS.1 hi hc, hrk] at h1
      by_cases e1 : p = cOv i
      · rw [if_pos e1] at h1; unfold pc at h1; split at h1 <;> omega
      · rw [if_neg e1] at h1
        by_cases e2 : p = rkP i
        · rw [if_pos e2] at h1; simp at h1
        · rw [if_neg e2] at h1
          by_cases e4 : p = cTo i
          · rw [if_pos e4] at h1; rw [e4, ← hqk]; exact vl_edge hq hn h1
          · rw [if_neg e4] at h1
            by_cases e5 : p = kgP i
            · rw [if_pos e5] at h1; simp at h1
            · rw [if_neg e5] at h1; exact hold h1
  · have : t = 0 ∨ t = 1 := by omega
    rcases this with rfl | rfl
    · exact cnt_of k1.1 k1.2
    · exact cnt_of k2.1 k2.2
  · have : t = 0 ∨ t = 1 := by omega
    rcases this with rfl | rfl
    · exact cnt_of k2.1 k2.2
    · exact cnt_of k1.1 k1.2

end Go.Proofs.YtdmlamnonbmboaaGreatDoor

namespace Go.Proofs.YtdmlamnonbmboaaGreatDoor
set_option maxRecDepth 20000

/-- What a move leaves as it was. -/
theorem mvZ_old {Z : List Int} {t : Nat} {k e : Int} {f q n : Nat} (ht : t ≤ 1) (hS : Std Z) (hC : Cas Z k) (hP : Pas Z t e) (hf : f < 64) (hq : q < 64) (ho : ownB Z t f = true) (h : tgB Z t k e f q = true) {p : Nat} (hpf : p ≠ f) (hpq : p ≠ q) (hpb : zg Z p ≠ pc (1 - t) 1 ∨ tkB Z e f q = false) (hpc : ∀ i, i < 4 → sdP i = t → (zg Z f).natAbs = 6 → f = kgP i → q = cTo i → p ≠ rkP i ∧ p ≠ cOv i) : zg (mvZ Z t e f q n) p = zg Z p := by
  rcases cI_of hS hC hf ho h with ⟨hc, _, _⟩ | ⟨i, hi, hc, hcs, hfk, hqk, h6, hrk⟩
  · cases htk : tkB Z e f q with
    | false => rw [mvZ_plain hS.1 hf hq hc htk, if_neg hpq, if_neg hpf]
    | true =>
      have hta := tk_at ht hS hP hf hq ho h htk
      have hb : p ≠ bk t q := fun e0 => by
        rcases hpb with hb | hb
        · exact hb (by rw [e0]; exact hta.2.2.2.1)
        · rw [hb] at htk; cases htk
      rw [mvZ_take hS.1 hf hq hc hta.2.2.1 htk, if_neg hb, if_neg hpq, if_neg hpf]
  · have h1 := hpc i hi (csB_at hcs).1 h6 hfk hqk
    rw [mvZ_cas hS.1 hi hc, if_neg h1.2, if_neg h1.1, if_neg (by rw [← hqk]; exact hpq), if_neg (by rw [← hfk]; exact hpf)]

theorem cas_apart : ∀ i, i < 4 → ∀ j, j < 4 → (sdP i = sdP j → kgP i = kgP j) ∧ (sdP i ≠ sdP j → kgP i ≠ rkP j ∧ kgP i ≠ cOv j ∧ rkP i ≠ rkP j ∧ rkP i ≠ cOv j) := by decide

/-- RIGHTS THAT ARE LEFT STILL HAVE THEIR KINGS AND ROOKS. -/
theorem cas_after {Z : List Int} {t : Nat} {k k' e : Int} {f q n Ko : Nat} (ht : t ≤ 1) (hS : Std Z) (hC : Cas Z k) (hP : Pas Z t e) (hKo : KgAt Z (1 - t) Ko) (hch : chk Z (1 - t) = false) (hf : f < 64) (hq : q < 64) (ho : ownB Z t f = true) (h : tgB Z t k e f q = true)
    (h0 : 0 ≤ k') (h15 : k' ≤ 15) (hk : ∀ i, i < 4 → bitB k' i = true → bitB k i = true ∧ f ≠ kgP i ∧ f ≠ rkP i ∧ q ≠ rkP i) : Cas (mvZ Z t e f q n) k' := by
  refine ⟨h0, h15, fun i hi hb => ?_⟩
  obtain ⟨hbk, hfk, hfr, hqr⟩ := hk i hi hb
  obtain ⟨hzk, hzr⟩ := hC.2.2 i hi hbk
  have hqk : q ≠ kgP i := fun e0 => by
    by_cases hs : sdP i = t
    · have := tg_no ht hP h
      unfold ownB at this
      rw [e0, hzk, hs] at this
      have := of_decide_eq_false this
      unfold pci pc at this
      split at this <;> simp at this
    · have hsi : sdP i = 1 - t := by
        have : sdP i ≤ 1 := (kr_lt hi).2.2
        omega
      have := tg_nok ht hS hKo hch hf hq ho h
      apply this
      refine (hKo.2 q hq).1 ?_
      rw [e0, hzk, hsi]
  have hp1 : ∀ s, pc s 6 ≠ pc (1 - t) 1 := fun s => by unfold pc; split <;> split <;> omega
  have hp4 : ∀ s, pc s 4 ≠ pc (1 - t) 1 := fun s => by unfold pc; split <;> split <;> omega
  have hcas : ∀ j, j < 4 → sdP j = t → f = kgP j → sdP i ≠ sdP j := fun j hj hs hfj hij => hfk (by rw [hfj]; exact ((cas_apart i hi j hj).1 hij).symm)
  constructor
  · rw [mvZ_old ht hS hC hP hf hq ho h (fun e0 => hfk e0.symm) (fun e0 => hqk e0.symm) (Or.inl (by rw [hzk]; exact hp1 _)) (fun j hj hs _ hfj _ => ⟨((cas_apart i hi j hj).2 (hcas j hj hs hfj)).1, ((cas_apart i hi j hj).2 (hcas j hj hs hfj)).2.1⟩)]
    exact hzk
  · rw [mvZ_old ht hS hC hP hf hq ho h (fun e0 => hfr e0.symm) (fun e0 => hqr e0.symm) (Or.inl (by rw [hzr]; exact hp4 _)) (fun j hj hs _ hfj _ => ⟨((cas_apart i hi j hj).2 (hcas j hj hs hfj)).2.2.1, ((cas_apart i hi j hj).2 (hcas j hj hs hfj)).2.2.2⟩)]
    exact hzr

/-- THE PLACE THAT A PAWN HAS GONE OVER IS ONE. -/
theorem pas_after {Z : List Int} {t : Nat} {k e : Int} {f q n : Nat} (ht : t ≤ 1) (hS : Std Z) (hP : Pas Z t e) (hf : f < 64) (hq : q < 64) (ho : ownB Z t f = true) (h : tgB Z t k e f q = true) (hn : n ∈ inB Z f q) :
    Pas (mvZ Z t e f q n) ((1 - t : Nat) : Int) (if (zg Z f).natAbs = 1 ∧ (q : Int) = (f : Int) + pci t 8 + pci t 8 then (f : Int) + pci t 8 else -1) := by
  split
  · rename_i hh
    obtain ⟨hpw, hqq⟩ := hh
    have hb := hS.2.1 f hf
    have hin := hb.2.2 hpw
    have hzf := own_pc (of_decide_eq_true ho)
    rw [hpw] at hzf
    have hx : KX (zg Z f) := KX_of hb.1 hb.2.1 (fun e1 => by rw [e1] at hpw; simp at hpw)
    have hF : pci t 8 = 8 ∨ pci t 8 = -8 := by unfold pci; split <;> omega
    have hah : ahB Z t f q = true := by
      have h' := h
      unfold tgB at h'
      simp only [Bool.or_eq_true, Bool.and_eq_true, decide_eq_true_eq, beq_iff_eq] at h'
      rcases h' with (h1 | h1) | h1
      · exfalso
        have h2 := (rch_iff Z hf hq hx).2 h1.1
        rw [not_atR_file hpw (by unfold dX; omega)] at h2
        cases h2
      · exact h1.2
      · omega
    unfold ahB at hah
    simp only [Bool.and_eq_true, beq_iff_eq, Bool.or_eq_true] at hah
    obtain ⟨hz1, hz2⟩ := hah
    have ho1 : (on1 t f : Int) = (f : Int) + pci t 8 := by unfold on1 fw; omega
    have hne : q ≠ on1 t f := fun e0 => by omega
    have hed : edge ((f : Int) - fw t) = true := by
      rcases hz2 with h1 | h1
      · exact absurd h1 hne
      · exact h1.1.1
    have hc : cI Z f q = none := by unfold cI; rw [if_neg (by omega)]
    have hzq : zg Z q = 0 := by
      rcases hz2 with h1 | h1
      · exact absurd h1 hne
      · rw [h1.2]; exact h1.1.2
    have htk : tkB Z e f q = false := by
      cases htk : tkB Z e f q with
      | false => rfl
      | true =>
        have hta := tk_at ht hS hP hf hq ho h htk
        exfalso
        have hbk : bk t q = on1 t f := by unfold bk on1 fw; omega
        have h1 := hta.2.2.2.1
        rw [hbk, hz1] at h1
        unfold pc at h1
        split at h1 <;> omega
    have hn0 : n = 0 := by
      unfold inB at hn
      rw [if_neg (fun hh => by
        have h1 := hh.2
        unfold edge at h1 hed
        unfold fw at hed
        simp at h1 hed
        omega)] at hn
      simpa using hn
    have hpl := fun p => mvZ_plain (t := t) (e := e) (n := n) hS.1 hf hq hc htk p
    have hvq : zg (mvZ Z t e f q n) q = zg Z f := by rw [hpl q, if_pos rfl]; unfold vl; rw [if_pos hn0]
    have hvf : zg (mvZ Z t e f q n) f = 0 := by rw [hpl f, if_neg (by omega), if_pos rfl]
    have hv1 : zg (mvZ Z t e f q n) (on1 t f) = 0 := by rw [hpl, if_neg (Ne.symm hne), if_neg (by omega)]; exact hz1
    unfold Pas
    unfold edge fw at hed
    simp at hed
    have : t = 0 ∨ t = 1 := by omega
    rcases this with rfl | rfl
    · have hF8 : pci 0 8 = 8 := rfl
      rw [hF8] at hqq ho1 hed ⊢
      right; right
      refine ⟨rfl, by omega, by omega, ?_, ?_, ?_⟩
      · rw [show ((f : Int) + 8).toNat = on1 0 f by omega]; exact hv1
      · rw [show ((f : Int) + 8).toNat + 8 = q by omega, hvq, hzf]; rfl
      · rw [show ((f : Int) + 8).toNat - 8 = f by omega]; exact hvf
    · have hF8 : pci 1 8 = -8 := rfl
      rw [hF8] at hqq ho1 hed ⊢
      right; left
      refine ⟨rfl, by omega, by omega, ?_, ?_, ?_⟩
      · rw [show ((f : Int) + -8).toNat = on1 1 f by omega]; exact hv1
      · rw [show ((f : Int) + -8).toNat - 8 = q by omega, hvq, hzf]; rfl
      · rw [show ((f : Int) + -8).toNat + 8 = f by omega]; exact hvf
  · exact Or.inl rfl

end Go.Proofs.YtdmlamnonbmboaaGreatDoor

namespace Go.Proofs.YtdmlamnonbmboaaGreatDoor
set_option maxRecDepth 20000

/-- BEHIND EACH MOVE THE POSITION MAY BE. -/
theorem may_after {Z : List Int} {t : Nat} {k k' e h h' fl fl' : Int} {f q n K : Nat} (hM : MayC Z (t : Nat) k e h fl) (hK : KgAt Z t K) (hf : f < 64) (hq : q < 64) (ho : ownB Z t f = true) (hg : tgB Z t k e f q = true) (hn : n ∈ inB Z f q) (hx : exB Z t e K f q n = false)
    (h0 : 0 ≤ k') (h15 : k' ≤ 15) (hk : ∀ i, i < 4 → bitB k' i = true → bitB k i = true ∧ f ≠ kgP i ∧ f ≠ rkP i ∧ q ≠ rkP i) (hh : 0 ≤ h' ∧ h' ≤ 999) (hfl : 1 ≤ fl' ∧ fl' ≤ 999) :
    MayC (mvZ Z t e f q n) ((1 - t : Nat) : Int) k' (if (zg Z f).natAbs = 1 ∧ (q : Int) = (f : Int) + pci t 8 + pci t 8 then (f : Int) + pci t 8 else -1) h' fl' := by
  obtain ⟨hS, htt, hC, hP, _, _, _, _, hch⟩ := hM
  have ht : t ≤ 1 := by omega
  have hch' : chk Z (1 - t) = false := by
    have : (1 - ((t : Nat) : Int)).toNat = 1 - t := by omega
    rw [this] at hch; exact hch
  obtain ⟨Ko, hKo⟩ := hS.kgAt (1 - t)
  have hS' := std_after ht hS hC hP hK hKo hch' hf hq ho hg hn
  refine ⟨hS', by omega, cas_after ht hS hC hP hKo hch' hf hq ho hg h0 h15 hk, pas_after ht hS hP hf hq ho hg hn, hh.1, hh.2, hfl.1, hfl.2, ?_⟩
  have e1 : (1 - ((1 - t : Nat) : Int)).toNat = t := by omega
  rw [e1]
  have k1 := king_after ht hS hC hP hK hf hq ho hg hn
  unfold chk
  rw [k1.kg]
  have h1 : atk (mvZ Z t e f q n) (kgA K f q) (1 - t) = [] := by
    unfold exB at hx
    exact Classical.byContradiction (of_decide_eq_false hx)
  have h2 := (atk_nil hS'.pz k1.1 (show 1 - t = 0 ∨ 1 - t = 1 by omega)).1 h1
  exact decide_eq_false (fun hne => hne h2)

end Go.Proofs.YtdmlamnonbmboaaGreatDoor
