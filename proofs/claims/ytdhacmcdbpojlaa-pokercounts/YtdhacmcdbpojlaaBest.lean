/-
  What poker.best answers: over all fives, the greatest value and the first hand that has it. No conditions beyond those that each theorem bears.
-/
import Derived.Test.YtdhacmcdbpojlaaValue
import Derived.BigRegionIn
namespace Go.Proofs.Ytdhacmcdbpojlaa
open Go.RowKit Go.Shelf

/-- The value of five cards in a list. -/
def valL (h : List Nat) : Nat := valN (h.getD 0 0) (h.getD 1 0) (h.getD 2 0) (h.getD 3 0) (h.getD 4 0)

def bestS (p : Int × List Nat) (h : List Nat) : Int × List Nat := if p.1 < (valL h : Int) then ((valL h : Int), h) else p

/-- The greatest value, and the first hand with it. -/
def bestF (hs : List (List Nat)) : Int × List Nat := hs.foldl bestS (-1, [0, 0, 0, 0, 0])

theorem bestF_snoc (hs : List (List Nat)) (h : List Nat) : bestF (hs ++ [h]) = bestS (bestF hs) h := by simp [bestF]

def natL (x : List Int) : List Nat := x.map Int.toNat

theorem natL_toI (x : List Nat) : natL (toI x) = x := by
  simp only [natL, toI, List.map_map]
  have : (Int.toNat ∘ fun x : Nat => (x : Int)) = id := by funext x; simp
  rw [this, List.map_id]

/-- The cards at these places. -/
def pick (zs : List Nat) (s : List Nat) : List Nat := s.map (fun i => zs.getD i 0)

theorem handOf_toI (zs s : List Nat) : handOf (toI zs) s = toI (pick zs s) := by
  simp only [handOf, toI, pick, List.map_map]
  apply List.map_congr_left
  intro i _
  show (toI zs).getD i 0 = _
  rw [toI_getD]; rfl

theorem bestF_len (hs : List (List Nat)) (h5 : ∀ h ∈ hs, h.length = 5) : (bestF hs).2.length = 5 := by
  suffices ∀ (hs : List (List Nat)) (p : Int × List Nat), p.2.length = 5 → (∀ h ∈ hs, h.length = 5) → (hs.foldl bestS p).2.length = 5 from this hs _ rfl h5
  intro hs
  induction hs with
  | nil => intro p hp _; exact hp
  | cons h hs ih =>
    intro p hp hh
    refine ih _ ?_ (fun x hx => hh x (by simp [hx]))
    unfold bestS
    split
    · exact hh h (by simp)
    · exact hp

theorem boxed_drew {W : World} {B : Nat} {t : TypeId} {v : Value} (h : Boxed W B t v) : Boxed W.drew B t v := h
theorem blk_drew {W : World} {B t : Nat} {L : List Nat} (h : Blk W B t L) : Blk W.drew B t L := h
theorem boxed_far {W : World} {B : Nat} {t : TypeId} {v : Value} (h : Boxed W B t v) {p : Addr} (hne : B ≠ p.block) (u : Value) : Boxed (W.setCell p u) B t v :=
  (Below.heap_setCell W p u B hne).trans h
theorem boxed_put {W : World} {B : Nat} {t : TypeId} {v : Value} (h : Boxed W B t v) (u : Value) : Boxed (W.setCell ⟨B, 0, none⟩ u) B t u := by
  have h' : W.heap[B]? = _ := h
  simp [Boxed, World.setCell, Array.getElem?_modify, h']
theorem Blk.far {W : World} {B t : Nat} {L : List Nat} (h : Blk W B t L) {p : Addr} (hne : B ≠ p.block) (u : Value) : Blk (W.setCell p u) B t L :=
  (Below.heap_setCell W p u B hne).trans h
theorem Blk.all5 {W : World} {B t x0 x1 x2 x3 x4 : Nat} (h : Blk W B t [x0, x1, x2, x3, x4]) (y0 y1 y2 y3 y4 : Nat) :
    Blk (((((W.setCell ⟨B, 0, none⟩ (.int .i64 y0)).setCell ⟨B, 1, none⟩ (.int .i64 y1)).setCell ⟨B, 2, none⟩ (.int .i64 y2)).setCell ⟨B, 3, none⟩ (.int .i64 y3)).setCell ⟨B, 4, none⟩ (.int .i64 y4)) B t [y0, y1, y2, y3, y4] :=
  ((((h.set 0 y0).set 1 y1).set 2 y2).set 3 y3).set 4 y4

theorem best_round {w W3 W4 : World} {b x0 x1 x2 x3 x4 : Nat} {bv : Int} (hV : Boxed W4 b 3 (.int .i64 bv)) (hH : Blk W4 (b + 1) 48 [x0, x1, x2, x3, x4]) (hB : Below b w W4) (hK : Keeps (fun k => k = b ∨ k = b + 1) W3 W4) (vv y0 y1 y2 y3 y4 : Nat) (W5 : World)
    (h5 : W5 = ((((((W4.setCell ⟨b, 0, none⟩ (.int .i64 vv)).setCell ⟨b + 1, 0, none⟩ (.int .i64 y0)).setCell ⟨b + 1, 1, none⟩ (.int .i64 y1)).setCell ⟨b + 1, 2, none⟩ (.int .i64 y2)).setCell ⟨b + 1, 3, none⟩ (.int .i64 y3)).setCell ⟨b + 1, 4, none⟩ (.int .i64 y4)).drew) :
    Keeps (fun k => k = b ∨ k = b + 1) W3 W5 ∧ Boxed W5 b 3 (.int .i64 vv) ∧ Blk W5 (b + 1) 48 [y0, y1, y2, y3, y4] ∧ Below b w W5 := by
  subst h5
  have hne : b ≠ b + 1 := by omega
  have hne' : b + 1 ≠ b := by omega
  refine ⟨?_, ?_, ?_, ?_⟩
  · have k0 := hK.setCell (p := ⟨b, 0, none⟩) (.inl rfl) (.int .i64 vv)
    have k1 := k0.setCell (p := ⟨b + 1, 0, none⟩) (.inr rfl) (.int .i64 y0)
    have k2 := k1.setCell (p := ⟨b + 1, 1, none⟩) (.inr rfl) (.int .i64 y1)
    have k3 := k2.setCell (p := ⟨b + 1, 2, none⟩) (.inr rfl) (.int .i64 y2)
    have k4 := k3.setCell (p := ⟨b + 1, 3, none⟩) (.inr rfl) (.int .i64 y3)
    exact (k4.setCell (p := ⟨b + 1, 4, none⟩) (.inr rfl) (.int .i64 y4)).drew
  · have k0 := boxed_put hV (.int .i64 vv)
    have k1 := boxed_far k0 (p := ⟨b + 1, 0, none⟩) hne (.int .i64 y0)
    have k2 := boxed_far k1 (p := ⟨b + 1, 1, none⟩) hne (.int .i64 y1)
    have k3 := boxed_far k2 (p := ⟨b + 1, 2, none⟩) hne (.int .i64 y2)
    have k4 := boxed_far k3 (p := ⟨b + 1, 3, none⟩) hne (.int .i64 y3)
    exact boxed_drew (boxed_far k4 (p := ⟨b + 1, 4, none⟩) hne (.int .i64 y4))
  · exact blk_drew ((Blk.far hH (p := ⟨b, 0, none⟩) hne' (.int .i64 vv)).all5 y0 y1 y2 y3 y4)
  · have k0 := hB.setCell (p := ⟨b, 0, none⟩) (Nat.le_refl _) (.int .i64 vv)
    have k1 := k0.setCell (p := ⟨b + 1, 0, none⟩) (Nat.le_succ _) (.int .i64 y0)
    have k2 := k1.setCell (p := ⟨b + 1, 1, none⟩) (Nat.le_succ _) (.int .i64 y1)
    have k3 := k2.setCell (p := ⟨b + 1, 2, none⟩) (Nat.le_succ _) (.int .i64 y2)
    have k4 := k3.setCell (p := ⟨b + 1, 3, none⟩) (Nat.le_succ _) (.int .i64 y3)
    exact (k4.setCell (p := ⟨b + 1, 4, none⟩) (Nat.le_succ _) (.int .i64 y4)).drew

attribute [local go_sem] Oper.semAt_some wide_fn wide_fn0 wide_depth

set_option maxRecDepth 100000 in
set_option maxHeartbeats 4000000 in
theorem best_any (a : Option Addr) (n c : Nat) (zs : List Nat) (h5 : 5 ≤ n) (hn : n ≤ 1000) (hz : ∀ i, zs.getD i 0 < 52) (rest : List (List Nat)) (hrun : Run n 5 (List.range 5) rest) (hlen : ∀ x ∈ (List.range 5 :: rest), x.length = 5 ∧ ∀ i, x.getD i 0 < n) (w : World) (hRd : Rd w a n c (toI zs)) :
    Calls Try.prog 23 #[.slice a n c] w fun e w' => ∃ v x0 x1 x2 x3 x4, bestF ((List.range 5 :: rest).map (pick zs)) = (v, [x0, x1, x2, x3, x4]) ∧ e = .returned (.tuple #[.int .i64 v, arrN x0 x1 x2 x3 x4]) ∧ Below w.heap.size w w' := by
  refine (callsIn_wide (n := 0)).1 ?_
  refine callsIn_of_wp_marks Try.func23 rfl trivial ?_ rfl
  simp only [Try.ntmps23, List.size_toArray, List.length_cons, List.length_nil, Nat.reduceAdd, Nat.reduceSub, Array.replicate_succ, Array.replicate_zero, List.push_toArray, List.append_toArray, List.nil_append, List.cons_append]
  refine wpIn_wide.2 ?_
  go_wp2_with fail
  refine (fives_any a n c _).mono ?_
  rintro e w1 ⟨rfl, hw⟩
  subst w1
  go_wp2
  obtain ⟨w0, hw0⟩ : ∃ w0, ((w.alloc (Obj.cells #[Value.int IntKind.i64 (-1)] 3)).alloc (Obj.cells #[Value.int IntKind.i64 0, Value.int IntKind.i64 0, Value.int IntKind.i64 0, Value.int IntKind.i64 0, Value.int IntKind.i64 0] 48)).alloc (Obj.cells #[Value.slice a n c] 22) = w0 := ⟨_, rfl⟩
  have hsz : w0.heap.size = w.heap.size + 3 := by rw [← hw0]; simp
  have hB0 : Below w.heap.size w w0 := by rw [← hw0]; exact ((((Below.refl _ w).alloc (Nat.le_refl _) _).alloc (by simp) _).alloc (by simp; omega) _)
  have hb1 : Boxed w0 w.heap.size 3 (.int .i64 (-1)) := by rw [← hw0]; exact ((Boxed.new w 3 _).alloc _).alloc _
  have hb2 : Blk w0 (w.heap.size + 1) 48 [0, 0, 0, 0, 0] := by
    rw [← hw0]
    have := (Blk.new (w.alloc (Obj.cells #[Value.int IntKind.i64 (-1)] 3)) 48 [0, 0, 0, 0, 0] _ rfl).old (Obj.cells #[Value.slice a n c] 22)
    rw [World.size_alloc] at this
    exact this
  have hc3 : w0.cell? ⟨w.heap.size + 2, 0, none⟩ = some (.slice a n c) := by
    rw [← hw0]
    have := new_cell ((w.alloc (Obj.cells #[Value.int IntKind.i64 (-1)] 3)).alloc (Obj.cells #[Value.int IntKind.i64 0, Value.int IntKind.i64 0, Value.int IntKind.i64 0, Value.int IntKind.i64 0, Value.int IntKind.i64 0] 48)) (.slice a n c) 22
    rw [World.size_alloc, World.size_alloc] at this
    exact this
  rw [hw0]
  have hR0 : Rd w0 a n c (toI zs) := hRd.mono hB0
  have hab : ∀ b off, a = some ⟨b, off, none⟩ → b < w.heap.size := by
    intro b off e
    obtain ⟨b', off', e', hc⟩ := hRd.cells (by omega)
    rw [e'] at e
    cases e
    exact World.block_lt_of_cell? w _ (hc 0 (by omega))
  refine (wpIn_wide (n := 1)).1 (wp_range_all (gf := 38) (lb := #[.pointer (some ⟨w.heap.size + 2, 0, none⟩)]) (G := GFive) (R := RFive (w.heap.size + 2) a n c (toI zs)) (xs := (List.range 5 :: rest).map (handOf (toI zs))) (by simp [Act.eval]) (enters_of Try.func38 (by kernel_rfl) rfl)
    (fives1_all (w.heap.size + 2) a n c (toI zs) h5 hn rest hrun hlen) (fun k => k = w.heap.size ∨ k = w.heap.size + 1) (fun k hk => by rcases hk with rfl | rfl <;> omega) ⟨hc3, hR0⟩ ?_ ?_
    (fun pre W' => Boxed W' w.heap.size 3 (.int .i64 (bestF (pre.map natL)).1) ∧ Blk W' (w.heap.size + 1) 48 (bestF (pre.map natL)).2 ∧ Below w.heap.size w W') ?_ ⟨hb1, hb2, hB0⟩ ?_ ?_)
  · intro l' A B hl' hA hk
    refine ⟨hk.cell hA.1 ?_, hA.2.keeps hk (fun b off e => ?_)⟩
    · rintro (hx | hx)
      · simp at hx
      · simp at hx; omega
    · have := hab b off e
      rintro (hx | hx) <;> omega
  · rintro x args W' ⟨rfl, _⟩; rfl
  · rintro s A B ⟨h1, h2, h3⟩ hb
    refine ⟨(hb.block _ (by omega)).trans h1, (hb.block _ (by omega)).trans h2, h3.trans (hb.mono (by omega))⟩
  · rintro l2 pre x args W2 hl2 ⟨rec, hrec⟩ ⟨hv, hh, hb⟩ hpre ⟨rfl, hx5⟩
    have hmem : x ∈ (List.range 5 :: rest).map (handOf (toI zs)) := hpre.subset (by simp)
    obtain ⟨s, hs, rfl⟩ := List.mem_map.1 hmem
    obtain ⟨hs5, _⟩ := hlen s hs
    obtain ⟨q0, q1, q2, q3, q4, rfl⟩ : ∃ q0 q1 q2 q3 q4, s = [q0, q1, q2, q3, q4] := by
      match s, hs5 with
      | [q0, q1, q2, q3, q4], _ => exact ⟨q0, q1, q2, q3, q4, rfl⟩
    rw [handOf_toI]
    have hy0 := hz q0
    have hy1 := hz q1
    have hy2 := hz q2
    have hy3 := hz q3
    have hy4 := hz q4
    simp only [pick, List.map_cons, List.map_nil]
    obtain ⟨y0, e0⟩ : ∃ y, zs.getD q0 0 = y := ⟨_, rfl⟩
    obtain ⟨y1, e1⟩ : ∃ y, zs.getD q1 0 = y := ⟨_, rfl⟩
    obtain ⟨y2, e2⟩ : ∃ y, zs.getD q2 0 = y := ⟨_, rfl⟩
    obtain ⟨y3, e3⟩ : ∃ y, zs.getD q3 0 = y := ⟨_, rfl⟩
    obtain ⟨y4, e4⟩ : ∃ y, zs.getD q4 0 = y := ⟨_, rfl⟩
    rw [e0] at hy0 ⊢
    rw [e1] at hy1 ⊢
    rw [e2] at hy2 ⊢
    rw [e3] at hy3 ⊢
    rw [e4] at hy4 ⊢
    have HLN : Hid ((bestF (pre.map natL)).2.length = 5) := by
      refine bestF_len _ (fun h hh => ?_)
      obtain ⟨x, hx, rfl⟩ := List.mem_map.1 hh
      have hx' : x ∈ (List.range 5 :: rest).map (handOf (toI zs)) := hpre.subset (by simp [hx])
      obtain ⟨s, hs, rfl⟩ := List.mem_map.1 hx'
      simp [natL, handOf, (hlen s hs).1]
    have VA := hide (fun w => valF_any y0 y1 y2 y3 y4 (by simp; omega) w)
    unfold arrN at VA
    have hlt2 : l2 < W2.heap.size := (Array.getElem?_eq_some_iff.1 hrec).1
    clear e0 e1 e2 e3 e4 hmem hpre hx5 hs hs5 hw0 hc3 hR0 hab hb1 hb2 hRd hrun hlen hz
    simp only [arr5, toI, List.map_cons, List.map_nil, List.getD, List.getElem?_cons_zero, List.getElem?_cons_succ, Option.getD_some]
    have HV := hide hv
    have HH := hide hh
    have HB := hide hb
    have HREC := hide hrec
    clear hv hh hb hrec
    gi_wp2
    refine ⟨(Keeps.refl _ _).alloc _, ?_⟩
    intro W3 hk3
    have hl5 := HREC.out
    have F3 : Blk W3 W2.heap.size 48 [y0, y1, y2, y3, y4] := (Blk.new W2 48 [y0, y1, y2, y3, y4] _ rfl).keeps hk3 (by omega)
    have V3 : Boxed W3 w.heap.size 3 (.int .i64 (bestF (pre.map natL)).1) := (hk3.block _ (by simp; omega) (by omega)).trans (HV.out.alloc _)
    have H3 : Blk W3 (w.heap.size + 1) 48 (bestF (pre.map natL)).2 := (HH.out.old _).keeps hk3 (by omega)
    have B3 : Below w.heap.size w W3 := (HB.out.alloc HB.out.size _).trans (hk3.below (by have := HB.out.size; simp; omega) (fun k hk e => by omega))
    obtain ⟨bv, hbv⟩ : ∃ bv, (bestF (pre.map natL)).1 = bv := ⟨_, rfl⟩
    rw [hbv] at V3
    have c0 := F3.cell (i := 0) (by simp)
    have c1 := F3.cell (i := 1) (by simp)
    have c2 := F3.cell (i := 2) (by simp)
    have c3 := F3.cell (i := 3) (by simp)
    have c4 := F3.cell (i := 4) (by simp)
    simp only [List.getD, List.getElem?_cons_zero, List.getElem?_cons_succ, Option.getD_some] at c0 c1 c2 c3 c4
    have HF3 := hide F3
    have HV3 := hide V3
    have HH3 := hide H3
    have HB3 := hide B3
    have HBV := hide hbv
    clear F3 V3 H3 B3 hk3 HV HH HB HREC hl5 hbv
    gi_wp2_with fail
    refine (CallsIn.inRound l2 (callsIn_wide.2 (VA.out W3))).mono ?_
    rintro e W4 ⟨rfl, hB4⟩
    have F4 : Blk W4 W2.heap.size 48 [y0, y1, y2, y3, y4] := (hB4.block _ HF3.out.lt).trans HF3.out
    have V4 : Boxed W4 w.heap.size 3 (.int .i64 bv) := (hB4.block _ (Array.getElem?_eq_some_iff.1 HV3.out).1).trans HV3.out
    have H4 : Blk W4 (w.heap.size + 1) 48 (bestF (pre.map natL)).2 := (hB4.block _ HH3.out.lt).trans HH3.out
    have B4 : Below w.heap.size w W4 := HB3.out.trans (hB4.mono HB3.out.size)
    obtain ⟨x0, x1, x2, x3, x4, hx⟩ : ∃ x0 x1 x2 x3 x4, (bestF (pre.map natL)).2 = [x0, x1, x2, x3, x4] := by
      match (bestF (pre.map natL)).2, HLN.out with
      | [x0, x1, x2, x3, x4], _ => exact ⟨x0, x1, x2, x3, x4, rfl⟩
    rw [hx] at H4
    obtain ⟨vv, hvv⟩ : ∃ vv, valN y0 y1 y2 y3 y4 = vv := ⟨_, rfl⟩
    simp only [hvv]
    clear c0 c1 c2 c3 c4
    have c0 := F4.cell (i := 0) (by simp)
    have c1 := F4.cell (i := 1) (by simp)
    have c2 := F4.cell (i := 2) (by simp)
    have c3 := F4.cell (i := 3) (by simp)
    have c4 := F4.cell (i := 4) (by simp)
    have g0 := H4.cell (i := 0) (by simp)
    have g1 := H4.cell (i := 1) (by simp)
    have g2 := H4.cell (i := 2) (by simp)
    have g3 := H4.cell (i := 3) (by simp)
    have g4 := H4.cell (i := 4) (by simp)
    have e0 := H4.frozen 0
    have e1 := H4.frozen 1
    have e2 := H4.frozen 2
    have e3 := H4.frozen 3
    have e4 := H4.frozen 4
    have vc := V4.cell
    have vf := V4.frozen
    simp only [List.getD, List.getElem?_cons_zero, List.getElem?_cons_succ, Option.getD_some] at c0 c1 c2 c3 c4 g0 g1 g2 g3 g4
    have HV4 := hide V4
    have HH4 := hide H4
    have HB4 := hide B4
    have HX := hide hx
    have HVV := hide hvv
    have HK4 : Hid (Keeps (fun k => k = w.heap.size ∨ k = w.heap.size + 1) W3 W4) := Keeps.of_all hB4
    have hne1 : ¬ W2.heap.size = w.heap.size := by omega
    have hne2 : ¬ W2.heap.size = w.heap.size + 1 := by omega
    clear F4 V4 H4 B4 hx hvv hB4 HF3 HV3 HH3 HB3 VA HLN
    by_cases hgt : bv < (vv : Int)
    · gi_wp2
      gi_region
      all_goals gi_wp2
      all_goals
        have ee : bestF ((pre ++ [[(y0 : Int), y1, y2, y3, y4]]).map natL) = ((vv : Int), [y0, y1, y2, y3, y4]) := by
          rw [List.map_append, List.map_cons, List.map_nil, show natL [(y0 : Int), y1, y2, y3, y4] = [y0, y1, y2, y3, y4] from rfl, bestF_snoc, bestS, if_pos]
          · show ((valN y0 y1 y2 y3 y4 : Int), _) = _
            rw [HVV.out]
          · rw [HBV.out]
            show bv < (valN y0 y1 y2 y3 y4 : Int)
            rw [HVV.out]; omega
        obtain ⟨r1, r2, r3, r4⟩ := best_round HV4.out HH4.out HB4.out HK4.out vv y0 y1 y2 y3 y4 _ rfl
        refine ⟨r1, ?_⟩
        show Boxed _ _ _ (Value.int IntKind.i64 (bestF (List.map natL (pre ++ [[(y0 : Int), y1, y2, y3, y4]]))).fst) ∧ Blk _ _ _ (bestF (List.map natL (pre ++ [[(y0 : Int), y1, y2, y3, y4]]))).snd ∧ _
        rw [ee]
        exact ⟨r2, r3, r4⟩
    · gi_wp2
      refine ⟨HK4.out, ?_⟩
      have e1 : bestF ((pre ++ [[(y0 : Int), y1, y2, y3, y4]]).map natL) = bestF (pre.map natL) := by
        rw [List.map_append, List.map_cons, List.map_nil, show natL [(y0 : Int), y1, y2, y3, y4] = [y0, y1, y2, y3, y4] from rfl, bestF_snoc, bestS, if_neg]
        rw [HBV.out]
        show ¬ bv < (valN y0 y1 y2 y3 y4 : Int)
        rw [HVV.out]; omega
      show Boxed _ _ _ (Value.int IntKind.i64 (bestF (List.map natL (pre ++ [[(y0 : Int), y1, y2, y3, y4]]))).fst) ∧ Blk _ _ _ (bestF (List.map natL (pre ++ [[(y0 : Int), y1, y2, y3, y4]]))).snd ∧ _
      rw [e1]
      exact ⟨by rw [HBV.out]; exact HV4.out, by rw [HX.out]; exact HH4.out, HB4.out⟩
  · rintro D W3 hD ⟨hv, hh, hb⟩ hK
    have hfin : ((List.range 5 :: rest).map (handOf (toI zs))).map natL = (List.range 5 :: rest).map (pick zs) := by
      rw [List.map_map]
      apply List.map_congr_left
      intro s _
      show natL (handOf (toI zs) s) = _
      rw [handOf_toI, natL_toI]
    rw [hfin] at hv hh
    have HLN : (bestF ((List.range 5 :: rest).map (pick zs))).2.length = 5 := by
      refine bestF_len _ (fun h hh => ?_)
      obtain ⟨s, hs, rfl⟩ := List.mem_map.1 hh
      simp [pick, (hlen s hs).1]
    obtain ⟨v, hd, hbf⟩ : ∃ v hd, bestF ((List.range 5 :: rest).map (pick zs)) = (v, hd) := ⟨_, _, rfl⟩
    rw [hbf] at hv hh HLN
    obtain ⟨x0, x1, x2, x3, x4, rfl⟩ : ∃ x0 x1 x2 x3 x4, hd = [x0, x1, x2, x3, x4] := by
      match hd, HLN with
      | [x0, x1, x2, x3, x4], _ => exact ⟨x0, x1, x2, x3, x4, rfl⟩
    have g0 := hh.cell (i := 0) (by simp)
    have g1 := hh.cell (i := 1) (by simp)
    have g2 := hh.cell (i := 2) (by simp)
    have g3 := hh.cell (i := 3) (by simp)
    have g4 := hh.cell (i := 4) (by simp)
    have e0 := hh.frozen 0
    have e1 := hh.frozen 1
    have e2 := hh.frozen 2
    have e3 := hh.frozen 3
    have e4 := hh.frozen 4
    have vc := hv.cell
    have vf := hv.frozen
    simp only [List.getD, List.getElem?_cons_zero, List.getElem?_cons_succ, Option.getD_some] at g0 g1 g2 g3 g4 vc vf
    have HK := hide hK
    have HB := hide hb
    have HBF := hide hbf
    have HD := hide hD
    have HS := hide hsz
    clear hv hh hb hK hbf hfin HLN hrun hlen hRd hR0 hb1 hb2 hc3 hw0 hab hz hD hsz hB0
    go_wp2
    go_region
    all_goals rw [setCell_id vc, setCell_id g0, setCell_id g1, setCell_id g2, setCell_id g3, setCell_id g4]
    all_goals go_wp2
    all_goals
      refine ⟨by simp, .inl ⟨_, _, rfl, run_takeDeferred HK.out, ?_⟩⟩
      have kk : Keeps (fun k => k = D) W3 (W3.drew.putObj D (Obj.deferred none)) := Keeps.put (X := fun k => k = D) (Keeps.refl _ W3).drew (l := D) rfl _
      have hDD := HD.out
      have hSS := HS.out
      have nD : ¬ w.heap.size = D := by omega
      have nD1 : ¬ w.heap.size + 1 = D := by omega
      refine ⟨_, results_cc rfl _ _ w.heap.size (w.heap.size + 1) rfl rfl v x0 x1 x2 x3 x4 (kk.cell vc nD) (kk.cell g0 nD1) (kk.cell g1 nD1) (kk.cell g2 nD1) (kk.cell g3 nD1) (kk.cell g4 nD1), v, x0, x1, x2, x3, x4, HBF.out, rfl, ?_⟩
      exact HB.out.trans (kk.below HB.out.size (fun k hk e => by omega))

end Go.Proofs.Ytdhacmcdbpojlaa
