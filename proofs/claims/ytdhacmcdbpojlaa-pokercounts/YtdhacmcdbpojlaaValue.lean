/-
  What poker.valueOf answers. No conditions beyond those that each theorem bears.
-/
import Derived.Test.YtdhacmcdbpojlaaSigns
namespace Go.Proofs.Ytdhacmcdbpojlaa
open Go.RowKit Go.Shelf

attribute [local go_sem] run_idx0 run_idx1 run_idx2 run_idx3 run_idx4

def digits (c : Nat) (l : List Nat) : Nat := l.foldl (fun v s => v * 13 + s) c

/-- The value of a hand from its signs, how many, how often the first, and whether it is a flush. -/
def valF (fl : Bool) (sg : List Nat) (n most : Nat) : Nat :=
  let c := byTimes n most
  let t := topS (sg.getD 0 0) (sg.getD 1 0) (sg.getD 4 0)
  if c = 0 then
    (if byLine fl t = 4 ∨ byLine fl t = 8 then digits (byLine fl t) [t, 0, 0, 0, 0] else digits (byLine fl t) sg)
  else digits c sg

def valN (a b c d e : Nat) : Nat :=
  valF (flN a b c d e) (stepS (wsOf [a, b, c, d, e]) 5).2 (stepS (wsOf [a, b, c, d, e]) 5).1 ((wsOf [a, b, c, d, e]).getD 4 0 / 13)

theorem stepS_lt (ws : List Nat) (k : Nat) : ∀ s ∈ (stepS ws k).2, s < 13 := by
  induction k with
  | zero => simp [stepS]
  | succ k ih =>
    unfold stepS
    split
    · intro s hs
      rcases List.mem_or_eq_of_mem_set hs with h | h
      · exact ih s h
      · omega
    · exact ih

theorem byTimes_le (n most : Nat) : byTimes n most ≤ 7 := by
  unfold byTimes
  repeat' split
  all_goals omega

theorem ret_int {x y : Int} (h : x = y) : Ending.returned (.int .i64 x) = .returned (.int .i64 y) := by rw [h]

theorem byTimes_ne4 (n most : Nat) : byTimes n most ≠ 4 := by
  unfold byTimes
  repeat' split
  all_goals omega

theorem topS_lt (a b e : Nat) (h : a < 13) : topS a b e < 13 := by
  unfold topS
  repeat' split
  all_goals omega

set_option maxRecDepth 100000 in
set_option maxHeartbeats 4000000 in
theorem valF_any (a b c d e : Nat) (hlt : ∀ x ∈ [a, b, c, d, e], x < 52) (w : World) :
    Calls Try.prog 29 #[arrN a b c d e] w fun r w' => r = .returned (.int .i64 (valN a b c d e)) ∧ Below w.heap.size w w' := by
  have SG := signs_any a b c d e hlt
  have hbnd := stepS_lt (wsOf [a, b, c, d, e]) 5
  have hle := stepS_le (wsOf [a, b, c, d, e]) 5
  unfold valN
  obtain ⟨sn, hsn⟩ : ∃ sn, stepS (wsOf [a, b, c, d, e]) 5 = sn := ⟨_, rfl⟩
  obtain ⟨most, hmost⟩ : ∃ m, (wsOf [a, b, c, d, e]).getD 4 0 / 13 = m := ⟨_, rfl⟩
  rw [hsn] at SG hbnd hle ⊢
  rw [hmost] at SG ⊢
  obtain ⟨n, sg⟩ := sn
  simp only at SG hbnd hle ⊢
  have FL := flush_any a b c d e (hlt a (by simp)) (hlt b (by simp)) (hlt c (by simp)) (hlt d (by simp)) (hlt e (by simp))
  have LN := fun s0 s1 s2 s3 s4 h0 h1 h4 w => byLine_any a b c d e s0 s1 s2 s3 s4 (hlt a (by simp)) (hlt b (by simp)) (hlt c (by simp)) (hlt d (by simp)) (hlt e (by simp)) h0 h1 h4 w
  obtain ⟨fl, hfl⟩ : ∃ fl, flN a b c d e = fl := ⟨_, rfl⟩
  rw [hfl] at LN ⊢
  have HSG := hide SG
  have HLN := hide LN
  have HBN := hide hbnd
  clear SG LN FL hbnd hsn hmost hfl hlt
  unfold arrN
  unfold arrN at HSG HLN
  go_enter Try.func29, Try.ntmps29
  go_wp2_with fail
  refine (HSG.out _).mono ?_
  rintro r w1 ⟨s0, s1, s2, s3, s4, hs, rfl, hB⟩
  subst hs
  have hb := HBN.out
  have z0 : s0 < 13 := hb s0 (by simp)
  have z1 : s1 < 13 := hb s1 (by simp)
  have z2 : s2 < 13 := hb s2 (by simp)
  have z3 : s3 < 13 := hb s3 (by simp)
  have z4 : s4 < 13 := hb s4 (by simp)
  have K0 : Blk w1 w.heap.size 48 [a, b, c, d, e] := (Blk.new w 48 [a, b, c, d, e] _ rfl).keeps (Keeps.of_below hB) (by simp)
  have HK0 := hide K0
  have HB := hide (Below.trans ((Below.refl _ w).alloc (Nat.le_refl _) (Obj.cells #[.int .i64 a, .int .i64 b, .int .i64 c, .int .i64 d, .int .i64 e] 48)) (hB.mono (by simp)))
  clear hb hB K0 HBN HSG
  go_wp2_with fail
  refine (byTimes_any n most _).mono ?_
  rintro r w2 ⟨rfl, hw⟩
  subst w2
  have c7 := byTimes_le n most
  obtain ⟨cl, hcl⟩ : ∃ cl, byTimes n most = cl := ⟨_, rfl⟩
  have c4 := byTimes_ne4 n most
  rw [hcl] at c7 c4
  simp only [hcl]
  have HCL := hide hcl
  clear hcl
  by_cases h0 : cl = 0
  · subst h0
    have HK0' := HK0.out.old (Obj.cells #[.int .i64 s0, .int .i64 s1, .int .i64 s2, .int .i64 s3, .int .i64 s4] 48)
    have g0 := HK0'.cell (i := 0) (by simp)
    have g1 := HK0'.cell (i := 1) (by simp)
    have g2 := HK0'.cell (i := 2) (by simp)
    have g3 := HK0'.cell (i := 3) (by simp)
    have g4 := HK0'.cell (i := 4) (by simp)
    simp only [List.getD, List.getElem?_cons_zero, List.getElem?_cons_succ, Option.getD_some] at g0 g1 g2 g3 g4
    clear HK0'
    go_wp2_with fail
    refine (HLN.out s0 s1 s2 s3 s4 (by omega) (by omega) (by omega) _).mono ?_
    rintro r w2 ⟨rfl, hB2⟩
    have KS : Blk w2 w1.heap.size 48 [s0, s1, s2, s3, s4] := (Blk.new w1 48 [s0, s1, s2, s3, s4] _ rfl).keeps (Keeps.of_below hB2) (by simp)
    have d0 := KS.cell (i := 0) (by simp)
    have d1 := KS.cell (i := 1) (by simp)
    have d2 := KS.cell (i := 2) (by simp)
    have d3 := KS.cell (i := 3) (by simp)
    have d4 := KS.cell (i := 4) (by simp)
    have e0 := KS.frozen 0
    have e1 := KS.frozen 1
    have e2 := KS.frozen 2
    have e3 := KS.frozen 3
    have e4 := KS.frozen 4
    simp only [List.getD, List.getElem?_cons_zero, List.getElem?_cons_succ, Option.getD_some] at d0 d1 d2 d3 d4
    have HSZ : Hid (w.heap.size ≤ w1.heap.size) := HB.out.size
    have HB2 : Hid (Below w.heap.size w w2) := (HB.out.alloc HB.out.size _).trans (hB2.mono (by have := HSZ.out; simp; omega))
    have ht13 := topS_lt s0 s1 s4 z0
    obtain ⟨t, ht⟩ : ∃ t, topS s0 s1 s4 = t := ⟨_, rfl⟩
    simp only [ht] at ht13 ⊢
    have ht0 := ht
    have HKS := hide KS
    clear hB2 KS HLN HK0 g0 g1 g2 g3 g4
    cases fl with
    | true =>
      by_cases hp : 0 < t
      · have eL : byLine true t = 8 := by simp [byLine, hp]
        have VAL : Hid (valF true [s0, s1, s2, s3, s4] n most = ((((8 * 13 + t) * 13 + 0) * 13 + 0) * 13 + 0) * 13 + 0) := by
          show _ = _
          simp [valF, HCL.out, ht, eL, digits]
        simp only [eL]
        clear eL ht0
        have TP := hide (top_any s0 s1 s2 s3 s4 (by omega) (by omega) (by omega))
        unfold arrN at TP
        simp only [ht] at TP
        go_wp2_with fail
        refine (TP.out _).mono ?_
        rintro r w3 ⟨rfl, hw⟩
        have KS3 : Blk w3 w1.heap.size 48 [s0, s1, s2, s3, s4] := by rw [hw]; exact HKS.out.old _
        have HB3 : Hid (Below w.heap.size w w3) := by rw [hw]; exact HB2.out.alloc HB2.out.size _
        clear d0 d1 d2 d3 d4 e0 e1 e2 e3 e4 hw HKS
        have d0 := KS3.cell (i := 0) (by simp)
        have d1 := KS3.cell (i := 1) (by simp)
        have d2 := KS3.cell (i := 2) (by simp)
        have d3 := KS3.cell (i := 3) (by simp)
        have d4 := KS3.cell (i := 4) (by simp)
        have e0 := KS3.frozen 0
        have e1 := KS3.frozen 1
        have e2 := KS3.frozen 2
        have e3 := KS3.frozen 3
        have e4 := KS3.frozen 4
        simp only [List.getD, List.getElem?_cons_zero, List.getElem?_cons_succ, Option.getD_some] at d0 d1 d2 d3 d4
        clear KS3
        go_wp2
        refine wp_loop_rounds 6 ?_
        rw [rounds_succ]
        go_wp2
        rw [rounds_succ]
        go_wp2
        rw [rounds_succ]
        go_wp2
        rw [rounds_succ]
        go_wp2
        rw [rounds_succ]
        go_wp2
        rw [rounds_succ]
        go_wp2
        go_ret
        refine ⟨by rw [VAL.out]; exact ret_int (by push_cast; omega), ?_⟩
        exact ((((HB3.out.setCell (p := ⟨w1.heap.size, 0, none⟩) HSZ.out _).setCell (p := ⟨w1.heap.size, 1, none⟩) HSZ.out _).setCell (p := ⟨w1.heap.size, 2, none⟩) HSZ.out _).setCell (p := ⟨w1.heap.size, 3, none⟩) HSZ.out _).setCell (p := ⟨w1.heap.size, 4, none⟩) HSZ.out _
      · have eL : byLine true t = 5 := by simp [byLine, hp]
        have VAL : Hid (valF true [s0, s1, s2, s3, s4] n most = ((((5 * 13 + s0) * 13 + s1) * 13 + s2) * 13 + s3) * 13 + s4) := by
          show _ = _
          simp [valF, HCL.out, ht, eL, digits]
        simp only [eL]
        clear eL ht0
        go_wp2
        refine wp_loop_rounds 6 ?_
        rw [rounds_succ]
        go_wp2
        rw [rounds_succ]
        go_wp2
        rw [rounds_succ]
        go_wp2
        rw [rounds_succ]
        go_wp2
        rw [rounds_succ]
        go_wp2
        rw [rounds_succ]
        go_wp2
        go_ret
        exact ⟨by rw [VAL.out]; exact ret_int (by push_cast; omega), HB2.out⟩
    | false =>
      by_cases hp : 0 < t
      · have eL : byLine false t = 4 := by simp [byLine, hp]
        have VAL : Hid (valF false [s0, s1, s2, s3, s4] n most = ((((4 * 13 + t) * 13 + 0) * 13 + 0) * 13 + 0) * 13 + 0) := by
          show _ = _
          simp [valF, HCL.out, ht, eL, digits]
        simp only [eL]
        clear eL ht0
        have TP := hide (top_any s0 s1 s2 s3 s4 (by omega) (by omega) (by omega))
        unfold arrN at TP
        simp only [ht] at TP
        go_wp2_with fail
        refine (TP.out _).mono ?_
        rintro r w3 ⟨rfl, hw⟩
        have KS3 : Blk w3 w1.heap.size 48 [s0, s1, s2, s3, s4] := by rw [hw]; exact HKS.out.old _
        have HB3 : Hid (Below w.heap.size w w3) := by rw [hw]; exact HB2.out.alloc HB2.out.size _
        clear d0 d1 d2 d3 d4 e0 e1 e2 e3 e4 hw HKS
        have d0 := KS3.cell (i := 0) (by simp)
        have d1 := KS3.cell (i := 1) (by simp)
        have d2 := KS3.cell (i := 2) (by simp)
        have d3 := KS3.cell (i := 3) (by simp)
        have d4 := KS3.cell (i := 4) (by simp)
        have e0 := KS3.frozen 0
        have e1 := KS3.frozen 1
        have e2 := KS3.frozen 2
        have e3 := KS3.frozen 3
        have e4 := KS3.frozen 4
        simp only [List.getD, List.getElem?_cons_zero, List.getElem?_cons_succ, Option.getD_some] at d0 d1 d2 d3 d4
        clear KS3
        go_wp2
        refine wp_loop_rounds 6 ?_
        rw [rounds_succ]
        go_wp2
        rw [rounds_succ]
        go_wp2
        rw [rounds_succ]
        go_wp2
        rw [rounds_succ]
        go_wp2
        rw [rounds_succ]
        go_wp2
        rw [rounds_succ]
        go_wp2
        go_ret
        refine ⟨by rw [VAL.out]; exact ret_int (by push_cast; omega), ?_⟩
        exact ((((HB3.out.setCell (p := ⟨w1.heap.size, 0, none⟩) HSZ.out _).setCell (p := ⟨w1.heap.size, 1, none⟩) HSZ.out _).setCell (p := ⟨w1.heap.size, 2, none⟩) HSZ.out _).setCell (p := ⟨w1.heap.size, 3, none⟩) HSZ.out _).setCell (p := ⟨w1.heap.size, 4, none⟩) HSZ.out _
      · have eL : byLine false t = 0 := by simp [byLine, hp]
        have VAL : Hid (valF false [s0, s1, s2, s3, s4] n most = ((((0 * 13 + s0) * 13 + s1) * 13 + s2) * 13 + s3) * 13 + s4) := by
          show _ = _
          simp [valF, HCL.out, ht, eL, digits]
        simp only [eL]
        clear eL ht0
        go_wp2
        refine wp_loop_rounds 6 ?_
        rw [rounds_succ]
        go_wp2
        rw [rounds_succ]
        go_wp2
        rw [rounds_succ]
        go_wp2
        rw [rounds_succ]
        go_wp2
        rw [rounds_succ]
        go_wp2
        rw [rounds_succ]
        go_wp2
        go_ret
        exact ⟨by rw [VAL.out]; exact ret_int (by push_cast; omega), HB2.out⟩
  · have h0' : ((cl : Int) == 0) = false := by simp; omega
    have h4' : ((cl : Int) == 4) = false := by simp; omega
    have h8' : ((cl : Int) == 8) = false := by simp; omega
    have VAL : Hid (valF fl [s0, s1, s2, s3, s4] n most = ((((cl * 13 + s0) * 13 + s1) * 13 + s2) * 13 + s3) * 13 + s4) := by
      show _ = _
      simp [valF, HCL.out, h0, digits]
    have HSZ : Hid (w.heap.size ≤ w1.heap.size) := HB.out.size
    go_wp2
    refine wp_loop_rounds 6 ?_
    rw [rounds_succ]
    go_wp2
    rw [rounds_succ]
    go_wp2
    rw [rounds_succ]
    go_wp2
    rw [rounds_succ]
    go_wp2
    rw [rounds_succ]
    go_wp2
    rw [rounds_succ]
    go_wp2
    go_ret
    exact ⟨by rw [VAL.out]; exact ret_int (by push_cast; omega), HB.out.alloc HSZ.out _⟩

end Go.Proofs.Ytdhacmcdbpojlaa
