/-
  What poker.Counts answers: of each class how many of all fives have it. No conditions beyond those that each theorem bears.
-/
import Derived.Test.YtdhacmcdbpojlaaBest
import Derived.Test.YtdhacmcdbpojlaaOthers
import Derived.Test.YtdhacmcdbpojlaaRuns
namespace Go.Proofs.Ytdhacmcdbpojlaa
open Go.RowKit Go.Shelf

theorem digs_lt (c : Nat) (l : List Nat) (h : ∀ x ∈ l, x < 13) : digits c l < (c + 1) * 13 ^ l.length := by
  induction l generalizing c with
  | nil => simp [digits]
  | cons y l ih =>
    have h1 := ih (c * 13 + y) (fun x hx => h x (by simp [hx]))
    have hy := h y (by simp)
    have e : digits c (y :: l) = digits (c * 13 + y) l := rfl
    rw [e, List.length_cons, Nat.pow_succ]
    refine Nat.lt_of_lt_of_le h1 ?_
    have h2 : c * 13 + y + 1 ≤ (c + 1) * 13 := by omega
    refine Nat.le_trans (Nat.mul_le_mul_right _ h2) ?_
    rw [Nat.mul_assoc, Nat.mul_comm 13]
    exact Nat.le_refl _

theorem byLine_le (fl : Bool) (t : Nat) : byLine fl t ≤ 8 := by
  unfold byLine
  repeat' split
  all_goals omega

/-- Every value is below nine times thirteen to the fifth. -/
theorem valN_lt (a b c d e : Nat) : valN a b c d e < 3341637 := by
  have hl := stepS_len (wsOf [a, b, c, d, e]) 5
  have hb := stepS_lt (wsOf [a, b, c, d, e]) 5
  unfold valN
  generalize (stepS (wsOf [a, b, c, d, e]) 5).2 = sg at hl hb
  generalize (stepS (wsOf [a, b, c, d, e]) 5).1 = n
  generalize (wsOf [a, b, c, d, e]).getD 4 0 / 13 = most
  generalize flN a b c d e = fl
  have h0 : sg.getD 0 0 < 13 := hb _ (by simp [List.getD, hl])
  have ht := topS_lt (sg.getD 0 0) (sg.getD 1 0) (sg.getD 4 0) h0
  have key : ∀ cl l, cl ≤ 8 → l.length = 5 → (∀ x ∈ l, x < 13) → digits cl l < 3341637 := by
    intro cl l h1 h2 h3
    have h4 := digs_lt cl l h3
    rw [h2] at h4
    have h5 : (cl + 1) * 13 ^ 5 ≤ 9 * 13 ^ 5 := Nat.mul_le_mul_right _ (by omega)
    omega
  unfold valF
  simp only
  split
  · split
    · exact key _ _ (byLine_le _ _) rfl (by intro x hx; simp only [List.mem_cons, List.not_mem_nil, or_false] at hx; rcases hx with h | h | h | h | h <;> omega)
    · exact key _ _ (byLine_le _ _) hl hb
  · exact key _ _ (Nat.le_trans (byTimes_le _ _) (by omega)) hl hb

/-- Of these hands so many have the class. -/
def cntC (hs : List (List Nat)) (c : Nat) : Nat := (hs.map (fun h => valL h / 371293)).count c

theorem cntC_snoc (hs : List (List Nat)) (h : List Nat) (c : Nat) : cntC (hs ++ [h]) c = if valL h / 371293 = c then cntC hs c + 1 else cntC hs c := by
  simp only [cntC, List.map_append, List.map_cons, List.map_nil, List.count_append, List.count_singleton]
  by_cases e : valL h / 371293 = c
  · subst e; simp
  · simp [e]

theorem comb_le : ∀ (l : List Nat) (k : Nat), (comb k l).length ≤ 2 ^ l.length := by
  intro l
  induction l with
  | nil => intro k; cases k <;> simp [comb]
  | cons y l ih =>
    intro k
    cases k with
    | zero => simp [comb]; exact Nat.pos_of_ne_zero (by simp)
    | succ k =>
      rw [comb, List.length_append, List.length_map, List.length_cons, Nat.pow_succ]
      have h1 := ih k
      have h2 := ih (k + 1)
      omega

theorem oth_nil : othK [] 52 = List.range 52 := by
  simp [othK]

theorem pick_range (n : Nat) (s : List Nat) (h : ∀ x ∈ s, x < n) : pick (List.range n) s = s := by
  simp only [pick]
  conv => rhs; rw [← List.map_id s]
  apply List.map_congr_left
  intro i hi
  simp [List.getD, h i hi]

theorem und35 : Try.prog.underlying 35 = some (.array 9 3) := by kernel_rfl

theorem load35 (w : World) (b : Nat) (x0 x1 x2 x3 x4 x5 x6 x7 x8 : Int) (h0 : w.cell? ⟨b, 0, none⟩ = some (.int .i64 x0)) (h1 : w.cell? ⟨b, 1, none⟩ = some (.int .i64 x1)) (h2 : w.cell? ⟨b, 2, none⟩ = some (.int .i64 x2)) (h3 : w.cell? ⟨b, 3, none⟩ = some (.int .i64 x3)) (h4 : w.cell? ⟨b, 4, none⟩ = some (.int .i64 x4)) (h5 : w.cell? ⟨b, 5, none⟩ = some (.int .i64 x5)) (h6 : w.cell? ⟨b, 6, none⟩ = some (.int .i64 x6)) (h7 : w.cell? ⟨b, 7, none⟩ = some (.int .i64 x7)) (h8 : w.cell? ⟨b, 8, none⟩ = some (.int .i64 x8)) :
    (loadVar 35 ⟨b, 0, none⟩).run Try.prog w = .ok (.agg #[.int .i64 x0, .int .i64 x1, .int .i64 x2, .int .i64 x3, .int .i64 x4, .int .i64 x5, .int .i64 x6, .int .i64 x7, .int .i64 x8]) w := by
  simp [loadVar, go_sem, h0, h1, h2, h3, h4, h5, h6, h7, h8]

theorem results_c35 {fn : Func} {t : Tmp} (h : fn.results = #[.cell t 35]) (tmps : Array Value) (w : World) (b : Nat) (hb : tmps.getD t undef = .pointer (some ⟨b, 0, none⟩)) (x0 x1 x2 x3 x4 x5 x6 x7 x8 : Int) (h0 : w.cell? ⟨b, 0, none⟩ = some (.int .i64 x0)) (h1 : w.cell? ⟨b, 1, none⟩ = some (.int .i64 x1)) (h2 : w.cell? ⟨b, 2, none⟩ = some (.int .i64 x2)) (h3 : w.cell? ⟨b, 3, none⟩ = some (.int .i64 x3)) (h4 : w.cell? ⟨b, 4, none⟩ = some (.int .i64 x4)) (h5 : w.cell? ⟨b, 5, none⟩ = some (.int .i64 x5)) (h6 : w.cell? ⟨b, 6, none⟩ = some (.int .i64 x6)) (h7 : w.cell? ⟨b, 7, none⟩ = some (.int .i64 x7)) (h8 : w.cell? ⟨b, 8, none⟩ = some (.int .i64 x8)) :
    (results fn tmps).run Try.prog w = .ok (.agg #[.int .i64 x0, .int .i64 x1, .int .i64 x2, .int .i64 x3, .int .i64 x4, .int .i64 x5, .int .i64 x6, .int .i64 x7, .int .i64 x8]) w := by
  have hl := load35 w b x0 x1 x2 x3 x4 x5 x6 x7 x8 h0 h1 h2 h3 h4 h5 h6 h7 h8
  have hb' : tmps[t]?.getD undef = .pointer (some ⟨b, 0, none⟩) := by simpa using hb
  have ha : (asAddr (.pointer (some ⟨b, 0, none⟩))).run Try.prog w = .ok ⟨b, 0, none⟩ w := rfl
  simp [results, h, hb', ha, hl, Sem.run_bind, Result.andThen]

attribute [local go_sem] Oper.semAt_some wide_fn wide_fn0 wide_depth

set_option maxRecDepth 100000 in
set_option maxHeartbeats 4000000 in
theorem Counts_any (w : World) :
    Calls Try.prog 15 #[] w fun e w' => ∃ T : List Nat, T.length = 9 ∧ (∀ c, c < 9 → T.getD c 0 = cntC ((comb 5 (List.range 52)).map (pick (List.range 52))) c) ∧ e = .returned (.agg ((toI T).map (Value.int .i64)).toArray) ∧ Below w.heap.size w w' := by
  obtain ⟨rest, hcomb, hrun⟩ := sets_run 52 5 (by omega)
  have hlen := sets_ok 52 5 (by omega)
  have hcl := comb_le (List.range 52) 5
  rw [hcomb] at hlen hcl ⊢
  have hcl2 : (List.range 5 :: rest).length ≤ 4503599627370496 := Nat.le_trans hcl (by simp)
  clear hcl
  have HT := hide hcomb
  clear hcomb
  refine (callsIn_wide (n := 0)).1 ?_
  refine callsIn_of_wp_marks Try.func15 rfl trivial ?_ rfl
  simp only [Try.ntmps15, List.size_toArray, List.length_nil, Nat.reduceSub, Array.replicate_succ, Array.replicate_zero, List.push_toArray, List.append_toArray, List.nil_append, List.cons_append]
  refine wpIn_wide.2 ?_
  go_wp2_with fail
  refine (others_any none 0 0 [] _ (Rd.of_nil _)).mono ?_
  rintro e w1 ⟨a1, c1, rfl, hR1, hnew, hB1⟩
  rw [oth_nil] at hR1 ⊢
  rw [List.length_range] at hR1 ⊢
  obtain ⟨w00, hw00⟩ : ∃ w00, w.alloc (Obj.cells #[Value.int IntKind.i64 0, Value.int IntKind.i64 0, Value.int IntKind.i64 0, Value.int IntKind.i64 0, Value.int IntKind.i64 0, Value.int IntKind.i64 0, Value.int IntKind.i64 0, Value.int IntKind.i64 0, Value.int IntKind.i64 0] 35) = w00 := ⟨_, rfl⟩
  rw [hw00] at hB1
  have KT0 : Blk w00 w.heap.size 35 (List.replicate 9 0) := by rw [← hw00]; exact Blk.new w 35 _ _ rfl
  have hs00 : w00.heap.size = w.heap.size + 1 := by rw [← hw00]; simp
  have hB00 : Below w.heap.size w w00 := by rw [← hw00]; exact (Below.refl _ w).alloc (Nat.le_refl _) _
  have KT1 : Blk w1 w.heap.size 35 (List.replicate 9 0) := (hB1.block _ KT0.lt).trans KT0
  have hBw1 : Below w.heap.size w w1 := hB00.trans (hB1.mono (by omega))
  have hs1 : w.heap.size + 1 ≤ w1.heap.size := by have := hB1.size; omega
  have HNEW : Hid (∀ b off, a1 = some ⟨b, off, none⟩ → w.heap.size + 1 ≤ b) := fun b off e => by have := hnew b off e; simp at this; omega
  have HKT := hide KT1
  have HBW := hide hBw1
  have HS1 := hide hs1
  have HR1 := hide hR1
  clear hnew hw00 KT0 hs00 hB00 KT1 hBw1 hs1 hR1 hB1
  go_wp2_with fail
  refine (fives_any a1 52 c1 _).mono ?_
  rintro e w2 ⟨rfl, hw⟩
  subst w2
  go_wp2
  obtain ⟨w0, hw0⟩ : ∃ w0, w1.alloc (Obj.cells #[Value.slice a1 52 c1] 22) = w0 := ⟨_, rfl⟩
  have hsz : w0.heap.size = w1.heap.size + 1 := by rw [← hw0]; simp
  have hB0 : Below w1.heap.size w1 w0 := by rw [← hw0]; exact (Below.refl _ w1).alloc (Nat.le_refl _) _
  have hc3 : w0.cell? ⟨w1.heap.size, 0, none⟩ = some (.slice a1 52 c1) := by rw [← hw0]; exact new_cell w1 _ 22
  rw [hw0]
  have hR0 : Rd w0 a1 52 c1 (toI (List.range 52)) := HR1.out.mono hB0
  have hKT0 : Blk w0 w.heap.size 35 (List.replicate 9 0) := (hB0.block _ HKT.out.lt).trans HKT.out
  have hBw0 : Below w.heap.size w w0 := HBW.out.trans (hB0.mono (by have := HS1.out; omega))
  have hs1 := HS1.out
  have hab : ∀ b off, a1 = some ⟨b, off, none⟩ → ¬ b = w.heap.size ∧ b < w1.heap.size := by
    intro b off e
    obtain ⟨b', off', e', hc⟩ := HR1.out.cells (by omega)
    have hn := HNEW.out b off e
    rw [e'] at e
    cases e
    exact ⟨by omega, World.block_lt_of_cell? w1 _ (hc 0 (by omega))⟩
  refine (wpIn_wide (n := 1)).1 (wp_range_all (gf := 38) (lb := #[.pointer (some ⟨w1.heap.size, 0, none⟩)]) (G := GFive) (R := RFive w1.heap.size a1 52 c1 (toI (List.range 52))) (xs := (List.range 5 :: rest).map (handOf (toI (List.range 52)))) (by simp [Act.eval]) (enters_of Try.func38 (by kernel_rfl) rfl)
    (fives1_all w1.heap.size a1 52 c1 (toI (List.range 52)) (by omega) (by omega) rest hrun hlen) (fun k => k = w.heap.size) (fun k hk => by omega) ⟨hc3, hR0⟩ ?_ ?_
    (fun pre W' => ∃ T : List Nat, Blk W' w.heap.size 35 T ∧ T.length = 9 ∧ (∀ c, c < 9 → T.getD c 0 = cntC (pre.map natL) c) ∧ Below w.heap.size w W') ?_ ⟨_, hKT0, rfl, fun c hc => by rw [rep0]; simp [cntC], hBw0⟩ ?_ ?_)
  · intro l' A B hl' hA hk
    refine ⟨hk.cell hA.1 ?_, hA.2.keeps hk (fun b off e => ?_)⟩
    · rintro (hx | hx)
      · simp at hx; omega
      · simp at hx; omega
    · have := hab b off e
      rintro (hx | hx) <;> omega
  · rintro x args W' ⟨rfl, _⟩; rfl
  · rintro s A B ⟨T, h1, h2, h3, h4⟩ hb
    exact ⟨T, (hb.block _ (by omega)).trans h1, h2, h3, h4.trans (hb.mono (by omega))⟩
  · rintro l2 pre x args W2 hl2 ⟨rec, hrec⟩ ⟨T, hT, hTl, hTc, hb⟩ hpre ⟨rfl, hx5⟩
    have hmem : x ∈ (List.range 5 :: rest).map (handOf (toI (List.range 52))) := hpre.subset (by simp)
    have hplen : pre.length ≤ 4503599627370496 := by
      have h1 := hpre.length_le
      rw [List.length_append, List.length_map] at h1
      omega
    obtain ⟨s, hs, rfl⟩ := List.mem_map.1 hmem
    obtain ⟨hs5, hsb⟩ := hlen s hs
    obtain ⟨q0, q1, q2, q3, q4, rfl⟩ : ∃ q0 q1 q2 q3 q4, s = [q0, q1, q2, q3, q4] := by
      match s, hs5 with
      | [q0, q1, q2, q3, q4], _ => exact ⟨q0, q1, q2, q3, q4, rfl⟩
    have hz : ∀ i, (List.range 52).getD i 0 < 52 := by
      intro i
      by_cases hi : i < 52
      · simp [List.getD, hi]
      · simp [List.getD, hi]
    rw [handOf_toI]
    have hy0 := hz q0
    have hy1 := hz q1
    have hy2 := hz q2
    have hy3 := hz q3
    have hy4 := hz q4
    simp only [pick, List.map_cons, List.map_nil]
    obtain ⟨y0, e0⟩ : ∃ y, (List.range 52).getD q0 0 = y := ⟨_, rfl⟩
    obtain ⟨y1, e1⟩ : ∃ y, (List.range 52).getD q1 0 = y := ⟨_, rfl⟩
    obtain ⟨y2, e2⟩ : ∃ y, (List.range 52).getD q2 0 = y := ⟨_, rfl⟩
    obtain ⟨y3, e3⟩ : ∃ y, (List.range 52).getD q3 0 = y := ⟨_, rfl⟩
    obtain ⟨y4, e4⟩ : ∃ y, (List.range 52).getD q4 0 = y := ⟨_, rfl⟩
    rw [e0] at hy0 ⊢
    rw [e1] at hy1 ⊢
    rw [e2] at hy2 ⊢
    rw [e3] at hy3 ⊢
    rw [e4] at hy4 ⊢
    have VA := hide (fun w => valF_any y0 y1 y2 y3 y4 (by simp; omega) w)
    unfold arrN at VA
    have hvl := valN_lt y0 y1 y2 y3 y4
    have hlt2 : l2 < W2.heap.size := (Array.getElem?_eq_some_iff.1 hrec).1
    obtain ⟨vv, hvv⟩ : ∃ vv, valN y0 y1 y2 y3 y4 = vv := ⟨_, rfl⟩
    rw [hvv] at hvl VA
    obtain ⟨q, hq⟩ : ∃ q, vv / 371293 = q := ⟨_, rfl⟩
    have hqi : (vv : Int) / 371293 = (q : Int) := by omega
    have hq9 : q < 9 := by omega
    have hTq : T.getD q 0 ≤ pre.length := by
      rw [hTc q hq9, cntC]
      refine Nat.le_trans List.count_le_length ?_
      simp
    obtain ⟨m, hm⟩ : ∃ m, T.getD q 0 = m := ⟨_, rfl⟩
    rw [hm] at hTq
    have HCN : Hid (∀ c, c < 9 → (T.set q (m + 1)).getD c 0 = cntC ((pre ++ [[(y0 : Int), y1, y2, y3, y4]]).map natL) c) := by
      intro c hc
      rw [getD_setN _ _ _ _ (by omega), List.map_append, List.map_cons, List.map_nil, show natL [(y0 : Int), y1, y2, y3, y4] = [y0, y1, y2, y3, y4] from rfl, cntC_snoc]
      have hvq : valL [y0, y1, y2, y3, y4] / 371293 = q := by
        show valN y0 y1 y2 y3 y4 / 371293 = q
        rw [hvv, hq]
      rw [hvq]
      by_cases e' : c = q
      · subst e'; rw [if_pos rfl, if_pos rfl, ← hTc c hc, hm]
      · rw [if_neg e', if_neg (fun h => e' h.symm)]; exact hTc c hc
    have HTL : Hid ((T.set q (m + 1)).length = 9) := by show _ = _; rw [List.length_set]; exact hTl
    have HT2 := hide hT
    have HB2 := hide hb
    have HM := hide hm
    have HTl := hide hTl
    clear e0 e1 e2 e3 e4 hmem hpre hx5 hs hs5 hsb hw0 hc3 hR0 hab hKT0 hBw0 hrun hlen hz hvv hq hm hT hTl hTc hb HKT HBW HR1 HNEW HT
    have HREC := hide hrec
    clear hrec
    simp only [arr5, toI, List.map_cons, List.map_nil, List.getD, List.getElem?_cons_zero, List.getElem?_cons_succ, Option.getD_some]
    gi_wp2
    refine ⟨(Keeps.refl _ _).alloc _, ?_⟩
    intro W3 hk3
    have F3 : Blk W3 W2.heap.size 48 [y0, y1, y2, y3, y4] := (Blk.new W2 48 [y0, y1, y2, y3, y4] _ rfl).keeps hk3 (by omega)
    have T3 : Blk W3 w.heap.size 35 T := (HT2.out.old _).keeps hk3 (by omega)
    have B3 : Below w.heap.size w W3 := (HB2.out.alloc HB2.out.size _).trans (hk3.below (by have := HB2.out.size; simp; omega) (fun k hk e => by omega))
    have c0 := F3.cell (i := 0) (by simp)
    have c1 := F3.cell (i := 1) (by simp)
    have c2 := F3.cell (i := 2) (by simp)
    have c3 := F3.cell (i := 3) (by simp)
    have c4 := F3.cell (i := 4) (by simp)
    simp only [List.getD, List.getElem?_cons_zero, List.getElem?_cons_succ, Option.getD_some] at c0 c1 c2 c3 c4
    have HT3 := hide T3
    have HB3 := hide B3
    clear F3 T3 B3 hk3 HT2 HB2 HREC
    gi_wp2_with fail
    refine (CallsIn.inRound l2 (callsIn_wide.2 (VA.out W3))).mono ?_
    rintro e W4 ⟨rfl, hB4⟩
    have T4 : Blk W4 w.heap.size 35 T := (hB4.block _ HT3.out.lt).trans HT3.out
    have B4 : Below w.heap.size w W4 := HB3.out.trans (hB4.mono HB3.out.size)
    have tc := T4.cell (i := q) (by rw [HTl.out]; exact hq9)
    rw [HM.out] at tc
    have tf := T4.frozen q
    have HT4 := hide (T4.set q (m + 1))
    have HB4 := hide B4
    have HK4 : Hid (Keeps (fun k => k = w.heap.size) W3 W4) := Keeps.of_all hB4
    clear T4 B4 hB4 HT3 HB3 VA c0 c1 c2 c3 c4
    gi_wp2
    refine ⟨HK4.out.setCell (p := ⟨w.heap.size, q, none⟩) rfl _, T.set q (m + 1), ?_, HTL.out, HCN.out, HB4.out.setCell (p := ⟨w.heap.size, q, none⟩) (Nat.le_refl _) _⟩
    have := HT4.out
    rw [show ((m + 1 : Nat) : Int) = (m : Int) + 1 by omega] at this
    exact this
  · rintro D W3 hD ⟨T, hT, hTl, hTc, hb⟩ hK
    have hfin : ((List.range 5 :: rest).map (handOf (toI (List.range 52)))).map natL = (List.range 5 :: rest).map (pick (List.range 52)) := by
      rw [List.map_map]
      apply List.map_congr_left
      intro s _
      show natL (handOf (toI (List.range 52)) s) = _
      rw [handOf_toI, natL_toI]
    rw [hfin] at hTc
    obtain ⟨t0, t1, t2, t3, t4, t5, t6, t7, t8, rfl⟩ : ∃ t0 t1 t2 t3 t4 t5 t6 t7 t8, T = [t0, t1, t2, t3, t4, t5, t6, t7, t8] := by
      match T, hTl with
      | [t0, t1, t2, t3, t4, t5, t6, t7, t8], _ => exact ⟨t0, t1, t2, t3, t4, t5, t6, t7, t8, rfl⟩
    have g0 := hT.cell (i := 0) (by simp)
    have f0 := hT.frozen 0
    have g1 := hT.cell (i := 1) (by simp)
    have f1 := hT.frozen 1
    have g2 := hT.cell (i := 2) (by simp)
    have f2 := hT.frozen 2
    have g3 := hT.cell (i := 3) (by simp)
    have f3 := hT.frozen 3
    have g4 := hT.cell (i := 4) (by simp)
    have f4 := hT.frozen 4
    have g5 := hT.cell (i := 5) (by simp)
    have f5 := hT.frozen 5
    have g6 := hT.cell (i := 6) (by simp)
    have f6 := hT.frozen 6
    have g7 := hT.cell (i := 7) (by simp)
    have f7 := hT.frozen 7
    have g8 := hT.cell (i := 8) (by simp)
    have f8 := hT.frozen 8
    simp only [List.getD, List.getElem?_cons_zero, List.getElem?_cons_succ, Option.getD_some] at g0 g1 g2 g3 g4 g5 g6 g7 g8
    have HK := hide hK
    have HB := hide hb
    have HTC := hide hTc
    have HD := hide hD
    have HS := hide hsz
    clear hT hTc hb hK hfin hrun hlen hR0 hKT0 hBw0 hc3 hw0 hab hD hsz hB0 HKT HBW HR1 HNEW
    go_wp2
    rw [setCell_id g0, setCell_id g1, setCell_id g2, setCell_id g3, setCell_id g4, setCell_id g5, setCell_id g6, setCell_id g7, setCell_id g8]
    refine ⟨by simp, .inl ⟨_, _, rfl, run_takeDeferred HK.out, ?_⟩⟩
    have kk : Keeps (fun k => k = D) W3 (W3.putObj D (Obj.deferred none)) := Keeps.put (X := fun k => k = D) (Keeps.refl _ W3) (l := D) rfl _
    have hDD := HD.out
    have hSS := HS.out
    have nD : ¬ w.heap.size = D := by omega
    refine ⟨_, results_c35 rfl _ _ w.heap.size rfl t0 t1 t2 t3 t4 t5 t6 t7 t8 (kk.cell g0 nD) (kk.cell g1 nD) (kk.cell g2 nD) (kk.cell g3 nD) (kk.cell g4 nD) (kk.cell g5 nD) (kk.cell g6 nD) (kk.cell g7 nD) (kk.cell g8 nD), [t0, t1, t2, t3, t4, t5, t6, t7, t8], rfl, HTC.out, rfl, ?_⟩
    exact HB.out.trans (kk.below HB.out.size (fun k hk e => by omega))

end Go.Proofs.Ytdhacmcdbpojlaa
