/-
  Moves played. No conditions beyond those that each theorem bears.
-/
import Derived.Test.YtafiaimlmdflnaaPf
namespace Go.Proofs.Ytafiaimlmdflnaa
open Go.RowKit Go.Shelf Go.Maps Go.WideMaps

/-- What comes of moves. -/
noncomputable def runP (W H : Nat) : PS → List Int → PS × Nat
  | s, [] => (s, 0)
  | s, x :: xs => if (mvd W H s x).2 = 0 then runP W H (mvd W H s x).1 xs else mvd W H s x

theorem stn_m {W H : Nat} {s : PS} {x : Int} : ((stn W H s x).2 = 0 → (stn W H s x).1.m = s.m + 1) ∧ ((stn W H s x).2 ≠ 0 → (stn W H s x).1 = s) := by
  unfold stn
  split
  · split
    · exact ⟨fun h => by simp at h, fun _ => rfl⟩
    · exact ⟨fun _ => rfl, fun h => absurd rfl h⟩
  · rename_i h
    exact ⟨fun h' => absurd h' h, fun _ => rfl⟩

theorem mvd_m {W H : Nat} {s : PS} {x : Int} : ((mvd W H s x).2 = 0 → (mvd W H s x).1.m = s.m + 1) ∧ ((mvd W H s x).2 ≠ 0 → (mvd W H s x).1 = s) := by
  unfold mvd
  split
  · exact ⟨fun h => by simp at h, fun _ => rfl⟩
  · split
    · exact ⟨fun _ => rfl, fun h => absurd rfl h⟩
    · exact stn_m

/-- Of moves played, those that were good lead to the same. -/
theorem runP_take (W H : Nat) : ∀ (L : List Int) (s : PS), s.m ≤ (runP W H s L).1.m ∧ (runP W H s L).1.m - s.m ≤ L.length ∧ runP W H s (L.take ((runP W H s L).1.m - s.m)) = ((runP W H s L).1, 0) ∧ ((runP W H s L).2 = 0 ↔ (runP W H s L).1.m - s.m = L.length)
  | [], s => by simp [runP]
  | x :: xs, s => by
    by_cases h : (mvd W H s x).2 = 0
    · have e : runP W H s (x :: xs) = runP W H (mvd W H s x).1 xs := by rw [runP, if_pos h]
      have hm := mvd_m.1 h
      obtain ⟨i1, i2, i3, i4⟩ := runP_take W H xs (mvd W H s x).1
      rw [e]
      generalize hr : runP W H (mvd W H s x).1 xs = r at *
      have hd : r.1.m - s.m = (r.1.m - (mvd W H s x).1.m) + 1 := by omega
      refine ⟨by omega, by simp only [List.length_cons]; omega, ?_, ?_⟩
      · rw [hd, List.take_succ_cons, runP, if_pos h, i3]
      · rw [i4]
        simp only [List.length_cons]
        omega
    · have e : runP W H s (x :: xs) = mvd W H s x := by rw [runP, if_neg h]
      have hm := mvd_m.2 h
      rw [e, hm, Nat.sub_self]
      exact ⟨Nat.le_refl _, Nat.zero_le _, rfl, ⟨fun h' => absurd h' h, fun h' => by simp at h'⟩⟩

theorem runP_cons {W H : Nat} {s : PS} {L : List Int} {j : Nat} (hj : j < L.length) : runP W H s (L.drop j) = if (mvd W H s (L.getD j 0)).2 = 0 then runP W H (mvd W H s (L.getD j 0)).1 (L.drop (j + 1)) else mvd W H s (L.getD j 0) := by
  have e : L.getD j 0 = L[j] := by simp [List.getD, hj]
  rw [List.drop_eq_getElem_cons hj, runP, e]

theorem wp_storeG {o : Oper} {a : Act} {w : World} {K : Act → World → Prop} {Q : Exit → Act → World → Prop} (x y : Operand) (ho : o.op = .store 24 x y)
    (b : Nat) {W H : Int} {ad : Option Addr} {n c : Nat} {W' H' : Int} {ad' : Option Addr} {n' c' : Nat} (hx : a.eval x = .pointer (some ⟨b, 0, none⟩)) (hy : a.eval y = .agg (gdA W H ad n c)) (hb : Gd w b W' H' ad' n' c')
    (h : ∀ w', Gd w' b W H ad n c → Keeps (fun k => k = b) w w' → K (a.put o.dst undef) w') : o.wp Try.prog a w K Q := by
  have hb' : w.heap[b]? = _ := hb
  refine wp_store_row 24 x y ho b (gdA W H ad n c) hx hy 24 _ hb' size24 rfl (by simp [Value.oneCell']) ?_
  refine h _ ?_ ?_
  · simp [Gd, World.setRow, Array.getElem?_modify, hb']
  · exact ⟨rfl, rfl, rfl, by simp [World.setRow], fun k _ hk => by simp [World.setRow, Array.getElem?_modify, show ¬ b = k from fun e => hk e.symm]⟩

/-- Two numbers lie in a block. -/
def Tw (w : World) (b : Nat) (t u : Int) : Prop := w.heap[b]? = some (.cells #[.int .i64 t, .int .i64 u] 37 (0, 0))
theorem Tw.lt {w : World} {b : Nat} {t u : Int} (h : Tw w b t u) : b < w.heap.size := (Array.getElem?_eq_some_iff.1 h).1
theorem Tw.keeps {X : Nat → Prop} {w w' : World} {b : Nat} {t u : Int} (h : Tw w b t u) (hk : Keeps X w w') (hb : ¬ X b) : Tw w' b t u := (hk.block b h.lt hb).trans h
theorem Tw.below {w w' : World} {b C : Nat} {t u : Int} (h : Tw w b t u) (hk : Below C w w') (hb : b < C) : Tw w' b t u := (hk.block b hb).trans h
theorem Tw.new (w : World) (t u : Int) : Tw (w.alloc (.cells #[.int .i64 t, .int .i64 u] 37)) w.heap.size t u := heap_alloc_new w _
theorem Tw.range {w : World} {b : Nat} {t u : Int} (h : Tw w b t u) : w.rangeAt b 0 [.int .i64 t, .int .i64 u] := World.rangeAt_of_block h 0 2

theorem wp_storeT {o : Oper} {a : Act} {w : World} {K : Act → World → Prop} {Q : Exit → Act → World → Prop} (x y : Operand) (ho : o.op = .store 37 x y)
    (b : Nat) {t u t' u' : Int} (hx : a.eval x = .pointer (some ⟨b, 0, none⟩)) (hy : a.eval y = .agg #[.int .i64 t, .int .i64 u]) (hb : Tw w b t' u')
    (h : ∀ w', Tw w' b t u → Keeps (fun k => k = b) w w' → K (a.put o.dst undef) w') : o.wp Try.prog a w K Q := by
  have hb' : w.heap[b]? = _ := hb
  refine wp_store_row 37 x y ho b #[.int .i64 t, .int .i64 u] hx hy 37 _ hb' size37 rfl (by simp [Value.oneCell']) ?_
  refine h _ ?_ ?_
  · simp [Tw, World.setRow, Array.getElem?_modify, hb']
  · exact ⟨rfl, rfl, rfl, by simp [World.setRow], fun k _ hk => by simp [World.setRow, Array.getElem?_modify, show ¬ b = k from fun e => hk e.symm]⟩

theorem wpList_storeT {ops : Array Oper} {rest : List Oper} {o : Oper} {a : Act} {w : World} {Q : Exit → Act → World → Prop} (hgd : o.guard = none) (x y : Operand) (ho : o.op = .store 37 x y)
    (b : Nat) {t u t' u' : Int} (hx : a.eval x = .pointer (some ⟨b, 0, none⟩)) (hy : a.eval y = .agg #[.int .i64 t, .int .i64 u]) (hb : Tw w b t' u')
    (h : ∀ w', Tw w' b t u → Keeps (fun k => k = b) w w' → wpList Try.prog ops Q rest (a.put o.dst undef) w') : wpList Try.prog ops Q (o :: rest) a w :=
  wpList_plain hgd fun _ hK => wp_storeT x y ho b hx hy hb (fun w' h1 h2 => hK _ _ (h w' h1 h2))

theorem results_play {fn : Func} {t s u x : Tmp} (h : fn.results = #[.cell t 24, .cell s 37, .tmp u, .tmp x]) (tmps : Array Value) (w : World) (b d : Nat) (hb : tmps.getD t undef = .pointer (some ⟨b, 0, none⟩)) (hd : tmps.getD s undef = .pointer (some ⟨d, 0, none⟩)) {W H : Int} {ad : Option Addr} {n c : Nat} (hr : Gd w b W H ad n c) {p q : Int} (hq : Tw w d p q) {v v' : Value} (hv : tmps.getD u undef = v) (hv' : tmps.getD x undef = v') :
    (results fn tmps).run Try.prog w = .ok (.tuple #[.agg (gdA W H ad n c), .agg #[.int .i64 p, .int .i64 q], v, v']) w := by
  have hb' : tmps[t]?.getD undef = .pointer (some ⟨b, 0, none⟩) := by simpa using hb
  have hd' : tmps[s]?.getD undef = .pointer (some ⟨d, 0, none⟩) := by simpa using hd
  have h1 : tmps[u]?.getD undef = v := by simpa using hv
  have h2 : tmps[x]?.getD undef = v' := by simpa using hv'
  have hl := run_loadVar_row (P := Try.prog) w b 24 24 (gdA W H ad n c) (0, 0) _ hr Try.underlying24 rfl size24
  have hl2 := run_loadVar_row (P := Try.prog) w d 37 37 #[.int .i64 p, .int .i64 q] (0, 0) _ hq Try.underlying37 rfl size37
  simp [results, h, hb', hd', h1, h2, asAddr, hl, hl2]

theorem Bw.notCells {w : World} {cb N bc : Nat} {Z : List Int} (h : Bw w cb N bc Z) {b : Nat} {cs : Array Value} {t : TypeId} (hb : w.heap[b]? = some (.cells cs t (0, 0))) (ht : t ≠ 3) : cb ≠ b := by
  rintro rfl
  rcases h.2 with ⟨hv, -⟩ | ⟨g, cap, cur, hv, -, hg, -⟩
  · simp at hv
  · simp only [Value.slice.injEq, Option.some.injEq, Addr.mk.injEq] at hv
    obtain ⟨⟨rfl, -⟩, -⟩ := hv
    rw [hb] at hg
    simp only [Option.some.injEq, Obj.cells.injEq] at hg
    exact ht hg.2.1

attribute [local irreducible] D4 spr rgs rgsU lib goneU gone clr grp pz pt pE pad kof stn mvd runP ps0

theorem play_pre (w : World) (W H : Int) (a : Option Addr) (n c : Nat) : ∃ w1, ((w.alloc (.cells (gdA W H a n c) 24)).alloc (.cells (gdA 0 0 none 0 0) 24)).alloc (.cells #[.int .i64 0, .int .i64 0] 37) = w1 ∧ Below w.heap.size w w1 ∧ Gd w1 w.heap.size W H a n c ∧ Gd w1 (w.heap.size + 1) 0 0 none 0 0 ∧ Tw w1 (w.heap.size + 2) 0 0 := by
  refine ⟨_, rfl, (((Below.refl _ w).alloc (Nat.le_refl _) _).alloc (by simp) _).alloc (by simp; omega) _, ((Gd.new w W H a n c).old _).old _, ?_, ?_⟩
  · have := (Gd.new (w.alloc (.cells (gdA W H a n c) 24)) 0 0 none 0 0).old (.cells #[.int .i64 0, .int .i64 0] 37)
    rwa [World.size_alloc] at this
  · have := Tw.new ((w.alloc (.cells (gdA W H a n c) 24)).alloc (.cells (gdA 0 0 none 0 0) 24)) 0 0
    rwa [World.size_alloc, World.size_alloc] at this

set_option maxRecDepth 100000 in
set_option maxHeartbeats 4000000 in
theorem Play_state (W H : Int) (a : Option Addr) (n c : Nat) (zs : List Int) (la : Option Addr) (ln lc : Nat) (w : World) (h : Rd w a n c zs) (hm : ¬ mayP W H zs) :
    Calls Try.prog 18 #[.agg (gdA W H a n c), .slice la ln lc] w fun e w' => e = .returned (.tuple #[.agg (gdA 0 0 none 0 0), .agg #[.int .i64 0, .int .i64 0], .int .i64 0, .int .i64 12]) ∧ Below w.heap.size w w' := by
  obtain ⟨w1, hw1, B1, G0, G1, T2⟩ := play_pre w W H a n c
  have HM := hide (May_any W H a n c zs w1 (h.mono B1))
  rw [mayG_no hm] at HM
  have HB1 := hide B1
  have HG1 := hide G1
  have HT2 := hide T2
  clear B1 h hm G1 T2
  go_enter Try.func18, Try.ntmps18
  go_upto_region 1 with fail
  clear hw1
  go_wp2_with (first | (refine wpList_load_gd rfl (.tmp 2) rfl w.heap.size rfl G0 ?_) | fail)
  refine HM.out.mono ?_
  rintro e w2 ⟨rfl, hb2⟩
  have G1 := HG1.out.below hb2 HG1.out.lt
  have T2 := HT2.out.below hb2 HT2.out.lt
  have HB2 : Hid (Below w.heap.size w w2) := hide (HB1.out.trans (hb2.mono HB1.out.size))
  clear HM hb2 G0
  go_wp2_with (first
    | (refine wpList_store_gd rfl (.tmp 4) (.tmp 15) rfl (w.heap.size + 1) rfl rfl G1 ?_; intro w3 G3 kk3; have T3 := T2.keeps kk3 (by omega))
    | (refine wpList_storeT rfl (.tmp 5) (.tmp 16) rfl (w.heap.size + 2) rfl rfl T3 ?_; intro w4 T4 kk4))
  refine bodyPost_ret (results_play rfl _ _ (w.heap.size + 1) (w.heap.size + 2) rfl rfl (G3.keeps kk4 (by omega)) T4 rfl rfl) rfl ⟨rfl, ?_⟩
  have B3 := HB2.out.trans (kk3.below HB2.out.size (fun k hk e => by omega))
  exact B3.trans (kk4.below B3.size (fun k hk e => by omega))

set_option maxRecDepth 100000 in
set_option maxHeartbeats 4000000 in
theorem Play_count (W H : Int) (a : Option Addr) (n c : Nat) (zs : List Int) (la : Option Addr) (ln lc : Nat) (w : World) (h : Rd w a n c zs) (hm : mayP W H zs) (hl : 200 < ln) :
    Calls Try.prog 18 #[.agg (gdA W H a n c), .slice la ln lc] w fun e w' => e = .returned (.tuple #[.agg (gdA 0 0 none 0 0), .agg #[.int .i64 0, .int .i64 0], .int .i64 0, .int .i64 11]) ∧ Below w.heap.size w w' := by
  obtain ⟨w1, hw1, B1, G0, G1, T2⟩ := play_pre w W H a n c
  have HM := hide (May_any W H a n c zs w1 (h.mono B1))
  rw [mayG_yes hm] at HM
  have HB1 := hide B1
  have HG1 := hide G1
  have HT2 := hide T2
  have hl' : (200 : Int) < (ln : Int) := by omega
  clear B1 h hm G1 T2
  go_enter Try.func18, Try.ntmps18
  go_upto_region 1 with fail
  clear hw1
  go_wp2_with (first | (refine wpList_load_gd rfl (.tmp 2) rfl w.heap.size rfl G0 ?_) | fail)
  refine HM.out.mono ?_
  rintro e w2 ⟨rfl, hb2⟩
  have G1 := HG1.out.below hb2 HG1.out.lt
  have T2 := HT2.out.below hb2 HT2.out.lt
  have HB2 : Hid (Below w.heap.size w w2) := hide (HB1.out.trans (hb2.mono HB1.out.size))
  clear HM hb2 G0
  go_wp2_with (first
    | (refine wpList_store_gd rfl (.tmp 4) (.tmp 20) rfl (w.heap.size + 1) rfl rfl G1 ?_; intro w3 G3 kk3; have T3 := T2.keeps kk3 (by omega))
    | (refine wpList_storeT rfl (.tmp 5) (.tmp 21) rfl (w.heap.size + 2) rfl rfl T3 ?_; intro w4 T4 kk4))
  refine bodyPost_ret (results_play rfl _ _ (w.heap.size + 1) (w.heap.size + 2) rfl rfl (G3.keeps kk4 (by omega)) T4 rfl rfl) rfl ⟨rfl, ?_⟩
  have B3 := HB2.out.trans (kk3.below HB2.out.size (fun k hk e => by omega))
  exact B3.trans (kk4.below B3.size (fun k hk e => by omega))

set_option maxRecDepth 100000 in
set_option maxHeartbeats 16000000 in
theorem Play_yes (W H cb co N c : Nat) (zs : List Int) (la : Option Addr) (ln lc : Nat) (L : List Int) (w : World) (h : Rd w (some ⟨cb, co, none⟩) N c zs) (hm : mayP W H zs) (hL : Rd w la ln lc L) (hl : ln ≤ 200) :
    Calls Try.prog 18 #[.agg (gdA W H (some ⟨cb, co, none⟩) N c), .slice la ln lc] w fun e w' => ∃ cq bq, e = .returned (.tuple #[.agg (gdA W H (some ⟨cq, 0, none⟩) N bq), .agg #[.int .i64 (runP W H (ps0 zs) L).1.t, .int .i64 (runP W H (ps0 zs) L).1.u], .int .i64 (runP W H (ps0 zs) L).1.m, .int .i64 ((runP W H (ps0 zs) L).2 : Nat)]) ∧ Bw w' cq N bq (runP W H (ps0 zs) L).1.Z ∧ Below w.heap.size w w' := by
  obtain ⟨A, B', e1, e2, hW, hH, hN, -⟩ := may_nat hm h.len
  obtain rfl : W = A := by omega
  obtain rfl : H = B' := by omega
  obtain ⟨w1, hw1, B1, G0, G1, T2⟩ := play_pre w W H (some ⟨cb, co, none⟩) N c
  have HM := hide (May_any W H (some ⟨cb, co, none⟩) N c zs w1 (h.mono B1))
  rw [mayG_yes hm] at HM
  have HPF : Hid (∀ W4, Below w1.heap.size w1 W4 → _) := hide (fun W4 hb => playFrom_any W H N c cb co zs W4 hW hH hN hm ((h.mono B1).mono hb))
  have HMV : Hid (∀ g b s x W4, s.m ≤ 1000 → PlayAt W4 g b W H N s → _) := hide (fun g b s x W4 hs hp => move_any g b W H N s x W4 hW hH hN hs hp)
  have HB1 := hide B1
  have HG0 := hide G0
  have HG1 := hide G1
  have HT2 := hide T2
  have HLR : Hid (∀ W4, Below w.heap.size w W4 → Rd W4 la ln lc L) := hide (fun W4 hb => hL.mono hb)
  have hll := hL.len
  have hlc := hL.cap
  have hlm : lc ≤ 9223372036854775807 := by have := hL.max; unfold maxLen at this; omega
  have hl' : ¬ (200 : Int) < (ln : Int) := by omega
  obtain ⟨S0, hS0⟩ : ∃ S0, ps0 zs = S0 := ⟨_, rfl⟩
  have hm0 : S0.m = 0 := by rw [← hS0]; unfold ps0; rfl
  rw [hS0] at HPF ⊢
  have HRC := hide (fun (s : PS) (j : Nat) (hj : j < L.length) => runP_cons (W := W) (H := H) (s := s) hj)
  have HMM := hide (fun (s : PS) (x : Int) => mvd_m (W := W) (H := H) (s := s) (x := x))
  obtain ⟨RR, hRR⟩ : ∃ RR, runP W H S0 L = RR := ⟨_, rfl⟩
  rw [hRR]
  have HRR := hide hRR
  clear B1 h hm G0 G1 T2 hL hS0 hRR e1 e2
  go_enter Try.func18, Try.ntmps18
  go_upto_region 1 with fail
  clear hw1
  have G0 := HG0.out
  go_wp2_with (first | (refine wpList_load_gd rfl (.tmp 2) rfl w.heap.size rfl G0 ?_) | fail)
  refine HM.out.mono ?_
  rintro e w2 ⟨rfl, hb2⟩
  have G2 := HG0.out.below hb2 HG0.out.lt
  have HPF2 := hide (HPF.out w2 hb2)
  have HG2 := hide (HG1.out.below hb2 HG1.out.lt)
  have HT3 := hide (HT2.out.below hb2 HT2.out.lt)
  have HB2 : Hid (Below w.heap.size w w2) := hide (HB1.out.trans (hb2.mono HB1.out.size))
  have hsz : w.heap.size + 2 < w2.heap.size := HT3.out.lt
  clear HM hb2 G0 HPF HG0 HG1 HT2 HB1
  go_wp2_with (first | (refine wpList_load_gd rfl (.tmp 2) rfl w.heap.size rfl G2 ?_) | fail)
  refine HPF2.out.mono ?_
  rintro e w3 ⟨gq, mb, rfl, hP3, hb3, hgq, hmb⟩
  have HP3 := hide hP3
  have HG3 := hide (HG2.out.below hb3 HG2.out.lt)
  have HT4 := hide (HT3.out.below hb3 HT3.out.lt)
  have HB3 : Hid (Below w.heap.size w w3) := hide (HB2.out.trans (hb3.mono HB2.out.size))
  have HPC : Hid (∀ cq bq, Py w3 gq W H (some ⟨cq, 0, none⟩) N bq S0.t S0.u S0.m S0.q mb → True) := hide (fun _ _ _ => trivial)
  clear hP3 hb3 G2 HPF2 HG2 HT3 HB2 HPC
  go_wp2_with fail
  go_loopw [26] (fun v wr => ∃ (j : Nat) (s : PS), v = .int .i64 j ∧ j ≤ ln ∧ s.m = j ∧ Hid (PlayAt wr gq mb W H N s) ∧ Hid (runP W H s (L.drop j) = RR) ∧ Hid (Below w.heap.size w wr) ∧ Hid (Gd wr (w.heap.size + 1) 0 0 none 0 0) ∧ Hid (Tw wr (w.heap.size + 2) 0 0)) (fun v _ => ln - (intOf v).toNat)
  case atStart => exact ⟨0, S0, rfl, by omega, hm0, HP3, hide (by rw [List.drop_zero]; exact HRR.out), HB3, HG3, HT4⟩
  case round =>
    obtain ⟨j, s, rfl, hj, hsm, hP, hRn, hB, hG, hT⟩ := hrel
    clear HP3 HB3 HG3 HT4
    by_cases hjl : j < ln
    · have hjl' : (j : Int) < (ln : Int) := by omega
      obtain ⟨lb, lo, rfl, hcell⟩ := (HLR.out wr hB.out).cells (by omega)
      have cj := hcell j hjl
      have HC := hide (HMV.out gq mb s (L.getD j 0) wr (by omega) hP.out)
      have HRJ := hide (HRC.out s j (by omega))
      have HMJ := hide (HMM.out s (L.getD j 0))
      obtain ⟨x, hx⟩ : ∃ x, L.getD j 0 = x := ⟨_, rfl⟩
      rw [hx] at cj HC HRJ HMJ
      obtain ⟨R, hR⟩ : ∃ R, mvd W H s x = R := ⟨_, rfl⟩
      rw [hR] at HC HRJ HMJ
      clear hcell hx hR
      go_wp2_with fail
      refine HC.out.mono ?_
      rintro e w4 ⟨rfl, hP4, hk4⟩
      have HB4 : Hid (Below w.heap.size w w4) := hide (hB.out.trans (hk4.below hB.out.size (fun k hk e => by omega)))
      have G4 := hG.out.keeps hk4 (by omega)
      have T4 := hT.out.keeps hk4 (by omega)
      have HP4 := hide hP4
      clear hP4 hk4 cj HC hB hG hT hP
      by_cases he : R.2 = 0
      · have hRJ := HRJ.out
        rw [if_pos he] at hRJ
        have HR2 : Hid (runP W H R.1 (L.drop (j + 1)) = RR) := hide (by rw [← hRJ]; exact hRn.out)
        have hm1 := HMJ.out.1 he
        rw [he]
        have HG4 := hide G4
        have HT4 := hide T4
        clear hRJ he G4 T4 HRJ HMJ hRn
        go_wp2_with fail
        exact ⟨⟨j + 1, R.1, rfl, by omega, by omega, HP4, HR2, HB4, HG4, HT4⟩, by simp only [intOf]; omega⟩
      · have hRJ := HRJ.out
        rw [if_neg he] at hRJ
        have HRE : Hid (R = RR) := hide (by rw [← hRJ]; exact hRn.out)
        obtain ⟨ee, hee⟩ : ∃ ee, R.2 = ee := ⟨_, rfl⟩
        obtain ⟨SS, hSS⟩ : ∃ SS, R.1 = SS := ⟨_, rfl⟩
        have hR2 : R = (SS, ee) := by rw [← hee, ← hSS]
        subst hR2
        have hne : ((ee : Int) != 0) = true := by simpa using he
        clear hRJ hee hSS HRJ HMJ hRn he
        go_upto_region 11 with fail
        obtain ⟨⟨cq, bq, P4, X4, hcq, hcq2⟩, -, -, -, -, -, -⟩ := HP4.out
        have HX4 := hide X4
        have HN1 := hide (X4.notCells G4 (by decide))
        have HN2 := hide (X4.notCells T4 (by decide))
        have hgs : gq ≠ w.heap.size + 1 := by omega
        have hgs2 : gq ≠ w.heap.size + 2 := by omega
        clear X4
        refine wp_region_held (S := fun W4 => Keeps (fun k => k = w.heap.size + 1 ∨ k = w.heap.size + 2) w4 W4) (by kernel_rfl) ?_
        change wpAnyH _ _ _ _ _ _ _ _ (World.drew _)
        have SW : Keeps (fun k => k = w.heap.size + 1 ∨ k = w.heap.size + 2) w4 w4.drew := (Keeps.refl _ w4).drew
        have Sw4 : Keeps (fun k => k = w.heap.size + 1) w4 w4.drew := (Keeps.refl _ w4).drew
        have hng : ¬ (gq = w.heap.size + 1 ∨ gq = w.heap.size + 2) := by omega
        refine wpAnyH_take (i := 0) (v := .pointer (some ⟨gq, 0, none⟩)) rfl (by kernel_rfl) (by kernel_rfl) (by kernel_rfl) (fun _ _ _ h => h) (Or.inl ⟨by rfl, ?_⟩) SW ?_
        · intro W4 hW4
          go_simp <;> first | done | rfl | (rw [IntKind.wrap_i64]; omega) | omega
        go_simp
        refine wpAnyH_take (i := 1) (v := .pointer (some ⟨gq, 0, none⟩)) rfl (by kernel_rfl) (by kernel_rfl) (by kernel_rfl) (fun _ _ _ h => h) (Or.inl ⟨by rfl, ?_⟩) SW ?_
        · intro W4 hW4
          go_simp <;> first | done | rfl | (rw [IntKind.wrap_i64]; omega) | omega
        go_simp
        refine wpAnyH_take (i := 2) (v := .pointer (some ⟨gq, 0, none⟩)) rfl (by kernel_rfl) (by kernel_rfl) (by kernel_rfl) (fun _ _ _ h => h) (Or.inl ⟨by rfl, ?_⟩) SW ?_
        · intro W4 hW4
          go_simp <;> first | done | rfl | (rw [IntKind.wrap_i64]; omega) | omega
        go_simp
        refine wpAnyH_take (i := 3) (v := .pointer (some ⟨gq, 0, none⟩)) rfl (by kernel_rfl) (by kernel_rfl) (by kernel_rfl) (fun _ _ _ h => h) (Or.inl ⟨by rfl, ?_⟩) SW ?_
        · intro W4 hW4
          go_simp <;> first | done | rfl | (rw [IntKind.wrap_i64]; omega) | omega
        go_simp
        refine wpAnyH_take (i := 4) (v := .agg (gdA W H (some ⟨cq, 0, none⟩) N bq)) rfl (by kernel_rfl) (by kernel_rfl) (by kernel_rfl) (fun _ _ _ h => h) (yieldsIf_load_mid (by rfl) 24 _ rfl gq 0 (by rfl) (gdA W H (some ⟨cq, 0, none⟩) N bq).toList _ (fun W4 hW4 => (P4.keeps hW4 hng).range0) Try.underlying24 rfl (by exact size24)) SW ?_
        go_simp
        refine wpAnyH_take (i := 5) (v := .pointer (some ⟨gq, 0, none⟩)) rfl (by kernel_rfl) (by kernel_rfl) (by kernel_rfl) (fun _ _ _ h => h) (Or.inl ⟨by rfl, ?_⟩) SW ?_
        · intro W4 hW4
          go_simp <;> first | done | rfl | (rw [IntKind.wrap_i64]; omega) | omega
        go_simp
        refine wpAnyH_take (i := 6) (v := .pointer (some ⟨gq, 0, none⟩)) rfl (by kernel_rfl) (by kernel_rfl) (by kernel_rfl) (fun _ _ _ h => h) (Or.inl ⟨by rfl, ?_⟩) SW ?_
        · intro W4 hW4
          go_simp <;> first | done | rfl | (rw [IntKind.wrap_i64]; omega) | omega
        go_simp
        refine wpAnyH_take (i := 7) (v := .pointer (some ⟨gq, 3, none⟩)) rfl (by kernel_rfl) (by kernel_rfl) (by kernel_rfl) (fun _ _ _ h => h) (Or.inl ⟨by rfl, ?_⟩) SW ?_
        · intro W4 hW4
          go_simp <;> first | done | rfl | (rw [IntKind.wrap_i64]; omega) | omega
        go_simp
        refine wpAnyH_take (i := 8) (v := .agg #[.int .i64 SS.t, .int .i64 SS.u]) rfl (by kernel_rfl) (by kernel_rfl) (by kernel_rfl) (fun _ _ _ h => h) (yieldsIf_load_mid (by rfl) 37 _ rfl gq 3 (by rfl) [.int .i64 SS.t, .int .i64 SS.u] _ (fun W4 hW4 => (P4.keeps hW4 hng).range3) Try.underlying37 rfl (by exact size37)) SW ?_
        go_simp
        refine wpAnyH_take (i := 9) (v := .pointer (some ⟨gq, 0, none⟩)) rfl (by kernel_rfl) (by kernel_rfl) (by kernel_rfl) (fun _ _ _ h => h) (Or.inl ⟨by rfl, ?_⟩) SW ?_
        · intro W4 hW4
          go_simp <;> first | done | rfl | (rw [IntKind.wrap_i64]; omega) | omega
        go_simp
        refine wpAnyH_take (i := 10) (v := .pointer (some ⟨gq, 0, none⟩)) rfl (by kernel_rfl) (by kernel_rfl) (by kernel_rfl) (fun _ _ _ h => h) (Or.inl ⟨by rfl, ?_⟩) SW ?_
        · intro W4 hW4
          go_simp <;> first | done | rfl | (rw [IntKind.wrap_i64]; omega) | omega
        go_simp
        refine wpAnyH_take (i := 11) (v := .pointer (some ⟨gq, 5, none⟩)) rfl (by kernel_rfl) (by kernel_rfl) (by kernel_rfl) (fun _ _ _ h => h) (Or.inl ⟨by rfl, ?_⟩) SW ?_
        · intro W4 hW4
          go_simp <;> first | done | rfl | (rw [IntKind.wrap_i64]; omega) | omega
        go_simp
        refine wpAnyH_take (i := 12) (v := .int .i64 SS.m) rfl (by kernel_rfl) (by kernel_rfl) (by kernel_rfl) (fun _ _ _ h => h) (Or.inl ⟨by rfl, ?_⟩) SW ?_
        · intro W4 hW4
          have hcell := (P4.keeps hW4 hng).cells.2.2.1
          go_simp <;> first | done | rfl | (rw [IntKind.wrap_i64]; omega) | omega
        go_simp
        refine wpAnyH_take (i := 13) (v := .int .i64 ee) rfl (by kernel_rfl) (by kernel_rfl) (by kernel_rfl) (fun _ _ _ h => h) (Or.inl ⟨by rfl, ?_⟩) SW ?_
        · intro W4 hW4
          go_simp <;> first | done | rfl | (rw [IntKind.wrap_i64]; omega) | omega
        go_simp
        refine wpAnyH_ready (rs := [14]) (by kernel_rfl) (by simp) ?_
        refine AllReadyH.cons rfl (fun K1 hK1 => ?_) AllReadyH.nil
        refine wp_storeG (.tmp 4) (.tmp 39) rfl (w.heap.size + 1) rfl rfl G4 ?_
        intro w7 G7 kk7
        refine hK1.out _ _ (SW.after kk7 (fun i _ e => .inl e)) (fun SW => ?_)
        clear hK1 K1
        go_simp
        have T7 := T4.keeps (Sw4.after kk7 (fun i _ e => e)) (by omega)
        refine wpAnyH_ready (rs := [15]) (by kernel_rfl) (by simp) ?_
        refine AllReadyH.cons rfl (fun K1 hK1 => ?_) AllReadyH.nil
        refine wp_storeT (.tmp 5) (.tmp 43) rfl (w.heap.size + 2) rfl rfl T7 ?_
        intro w8 T8 kk8
        refine hK1.out _ _ (SW.after kk8 (fun i _ e => .inr e)) (fun SW => ?_)
        clear hK1 K1
        go_simp
        refine wpAnyH_ready (rs := [16]) (by kernel_rfl) (by simp) ?_
        refine AllReadyH.cons rfl (fun K1 hK1 => ?_) AllReadyH.nil
        go_simp
        refine hK1.out _ _ SW (fun SW => ?_)
        clear hK1 K1
        go_simp
        refine wpAnyH_ready (rs := [17]) (by kernel_rfl) (by simp) ?_
        refine AllReadyH.cons rfl (fun K1 hK1 => ?_) AllReadyH.nil
        go_simp
        refine hK1.out _ _ SW (fun SW => ?_)
        clear hK1 K1
        go_simp
        refine wpAnyH_done (by kernel_rfl) ?_ _
        have HG8 := hide (G7.keeps kk8 (by omega))
        have HT8 := hide T8
        have HX8 := hide (HX4.out.keeps SW (by rintro (e | e) <;> first | exact HN1.out e | exact HN2.out e))
        have HB8 : Hid (Below w.heap.size w w8) := hide (HB4.out.trans (SW.below HB4.out.size (fun k hk e => by omega)))
        clear P4 T8 G7 T7 G4 T4 kk7 kk8 SW
        go_wp2_with fail
        refine bodyPost_ret (results_play rfl _ _ (w.heap.size + 1) (w.heap.size + 2) rfl rfl HG8.out HT8.out rfl rfl) rfl ?_
        rw [← HRE.out]
        exact ⟨cq, bq, rfl, HX8.out, HB8.out⟩
    · obtain rfl : j = ln := by omega
      have hjl' : ¬ (j : Int) < (j : Int) := by omega
      have hRJ := hRn.out
      rw [List.drop_of_length_le (by omega)] at hRJ
      have HRE : Hid ((s, 0) = RR) := hide (by rw [← hRJ]; unfold runP; rfl)
      have G4 := hG.out
      have T4 := hT.out
      have HP4 := hP
      have HB4 := hB
      clear hRJ hRn hG hT hP hB hsm
      go_upto_region 13 with fail
      obtain ⟨⟨cq, bq, P4, X4, hcq, hcq2⟩, -, -, -, -, -, -⟩ := HP4.out
      have HX4 := hide X4
      have HN1 := hide (X4.notCells G4 (by decide))
      have HN2 := hide (X4.notCells T4 (by decide))
      have hgs : gq ≠ w.heap.size + 1 := by omega
      have hgs2 : gq ≠ w.heap.size + 2 := by omega
      clear X4
      refine wp_region_held (S := fun W4 => Keeps (fun k => k = w.heap.size + 1 ∨ k = w.heap.size + 2) wr W4) (by kernel_rfl) ?_
      change wpAnyH _ _ _ _ _ _ _ _ (World.drew _)
      have SW : Keeps (fun k => k = w.heap.size + 1 ∨ k = w.heap.size + 2) wr wr.drew := (Keeps.refl _ wr).drew
      have Swr : Keeps (fun k => k = w.heap.size + 1) wr wr.drew := (Keeps.refl _ wr).drew
      have hng : ¬ (gq = w.heap.size + 1 ∨ gq = w.heap.size + 2) := by omega
      refine wpAnyH_take (i := 0) (v := .pointer (some ⟨gq, 0, none⟩)) rfl (by kernel_rfl) (by kernel_rfl) (by kernel_rfl) (fun _ _ _ h => h) (Or.inl ⟨by rfl, ?_⟩) SW ?_
      · intro W4 hW4
        go_simp <;> first | done | rfl | (rw [IntKind.wrap_i64]; omega) | omega
      go_simp
      refine wpAnyH_take (i := 1) (v := .pointer (some ⟨gq, 0, none⟩)) rfl (by kernel_rfl) (by kernel_rfl) (by kernel_rfl) (fun _ _ _ h => h) (Or.inl ⟨by rfl, ?_⟩) SW ?_
      · intro W4 hW4
        go_simp <;> first | done | rfl | (rw [IntKind.wrap_i64]; omega) | omega
      go_simp
      refine wpAnyH_take (i := 2) (v := .pointer (some ⟨gq, 0, none⟩)) rfl (by kernel_rfl) (by kernel_rfl) (by kernel_rfl) (fun _ _ _ h => h) (Or.inl ⟨by rfl, ?_⟩) SW ?_
      · intro W4 hW4
        go_simp <;> first | done | rfl | (rw [IntKind.wrap_i64]; omega) | omega
      go_simp
      refine wpAnyH_take (i := 3) (v := .pointer (some ⟨gq, 0, none⟩)) rfl (by kernel_rfl) (by kernel_rfl) (by kernel_rfl) (fun _ _ _ h => h) (Or.inl ⟨by rfl, ?_⟩) SW ?_
      · intro W4 hW4
        go_simp <;> first | done | rfl | (rw [IntKind.wrap_i64]; omega) | omega
      go_simp
      refine wpAnyH_take (i := 4) (v := .agg (gdA W H (some ⟨cq, 0, none⟩) N bq)) rfl (by kernel_rfl) (by kernel_rfl) (by kernel_rfl) (fun _ _ _ h => h) (yieldsIf_load_mid (by rfl) 24 _ rfl gq 0 (by rfl) (gdA W H (some ⟨cq, 0, none⟩) N bq).toList _ (fun W4 hW4 => (P4.keeps hW4 hng).range0) Try.underlying24 rfl (by exact size24)) SW ?_
      go_simp
      refine wpAnyH_take (i := 5) (v := .pointer (some ⟨gq, 0, none⟩)) rfl (by kernel_rfl) (by kernel_rfl) (by kernel_rfl) (fun _ _ _ h => h) (Or.inl ⟨by rfl, ?_⟩) SW ?_
      · intro W4 hW4
        go_simp <;> first | done | rfl | (rw [IntKind.wrap_i64]; omega) | omega
      go_simp
      refine wpAnyH_take (i := 6) (v := .pointer (some ⟨gq, 0, none⟩)) rfl (by kernel_rfl) (by kernel_rfl) (by kernel_rfl) (fun _ _ _ h => h) (Or.inl ⟨by rfl, ?_⟩) SW ?_
      · intro W4 hW4
        go_simp <;> first | done | rfl | (rw [IntKind.wrap_i64]; omega) | omega
      go_simp
      refine wpAnyH_take (i := 7) (v := .pointer (some ⟨gq, 3, none⟩)) rfl (by kernel_rfl) (by kernel_rfl) (by kernel_rfl) (fun _ _ _ h => h) (Or.inl ⟨by rfl, ?_⟩) SW ?_
      · intro W4 hW4
        go_simp <;> first | done | rfl | (rw [IntKind.wrap_i64]; omega) | omega
      go_simp
      refine wpAnyH_take (i := 8) (v := .agg #[.int .i64 s.t, .int .i64 s.u]) rfl (by kernel_rfl) (by kernel_rfl) (by kernel_rfl) (fun _ _ _ h => h) (yieldsIf_load_mid (by rfl) 37 _ rfl gq 3 (by rfl) [.int .i64 s.t, .int .i64 s.u] _ (fun W4 hW4 => (P4.keeps hW4 hng).range3) Try.underlying37 rfl (by exact size37)) SW ?_
      go_simp
      refine wpAnyH_take (i := 9) (v := .pointer (some ⟨gq, 0, none⟩)) rfl (by kernel_rfl) (by kernel_rfl) (by kernel_rfl) (fun _ _ _ h => h) (Or.inl ⟨by rfl, ?_⟩) SW ?_
      · intro W4 hW4
        go_simp <;> first | done | rfl | (rw [IntKind.wrap_i64]; omega) | omega
      go_simp
      refine wpAnyH_take (i := 10) (v := .pointer (some ⟨gq, 0, none⟩)) rfl (by kernel_rfl) (by kernel_rfl) (by kernel_rfl) (fun _ _ _ h => h) (Or.inl ⟨by rfl, ?_⟩) SW ?_
      · intro W4 hW4
        go_simp <;> first | done | rfl | (rw [IntKind.wrap_i64]; omega) | omega
      go_simp
      refine wpAnyH_take (i := 11) (v := .pointer (some ⟨gq, 5, none⟩)) rfl (by kernel_rfl) (by kernel_rfl) (by kernel_rfl) (fun _ _ _ h => h) (Or.inl ⟨by rfl, ?_⟩) SW ?_
      · intro W4 hW4
        go_simp <;> first | done | rfl | (rw [IntKind.wrap_i64]; omega) | omega
      go_simp
      refine wpAnyH_take (i := 12) (v := .int .i64 s.m) rfl (by kernel_rfl) (by kernel_rfl) (by kernel_rfl) (fun _ _ _ h => h) (Or.inl ⟨by rfl, ?_⟩) SW ?_
      · intro W4 hW4
        have hcell := (P4.keeps hW4 hng).cells.2.2.1
        go_simp <;> first | done | rfl | (rw [IntKind.wrap_i64]; omega) | omega
      go_simp
      refine wpAnyH_ready (rs := [13]) (by kernel_rfl) (by simp) ?_
      refine AllReadyH.cons rfl (fun K1 hK1 => ?_) AllReadyH.nil
      refine wp_storeG (.tmp 4) (.tmp 54) rfl (w.heap.size + 1) rfl rfl G4 ?_
      intro w7 G7 kk7
      refine hK1.out _ _ (SW.after kk7 (fun i _ e => .inl e)) (fun SW => ?_)
      clear hK1 K1
      go_simp
      have T7 := T4.keeps (Swr.after kk7 (fun i _ e => e)) (by omega)
      refine wpAnyH_ready (rs := [14]) (by kernel_rfl) (by simp) ?_
      refine AllReadyH.cons rfl (fun K1 hK1 => ?_) AllReadyH.nil
      refine wp_storeT (.tmp 5) (.tmp 58) rfl (w.heap.size + 2) rfl rfl T7 ?_
      intro w8 T8 kk8
      refine hK1.out _ _ (SW.after kk8 (fun i _ e => .inr e)) (fun SW => ?_)
      clear hK1 K1
      go_simp
      refine wpAnyH_ready (rs := [15]) (by kernel_rfl) (by simp) ?_
      refine AllReadyH.cons rfl (fun K1 hK1 => ?_) AllReadyH.nil
      go_simp
      refine hK1.out _ _ SW (fun SW => ?_)
      clear hK1 K1
      go_simp
      refine wpAnyH_ready (rs := [16]) (by kernel_rfl) (by simp) ?_
      refine AllReadyH.cons rfl (fun K1 hK1 => ?_) AllReadyH.nil
      go_simp
      refine hK1.out _ _ SW (fun SW => ?_)
      clear hK1 K1
      go_simp
      refine wpAnyH_done (by kernel_rfl) ?_ _
      have HG8 := hide (G7.keeps kk8 (by omega))
      have HT8 := hide T8
      have HX8 := hide (HX4.out.keeps SW (by rintro (e | e) <;> first | exact HN1.out e | exact HN2.out e))
      have HB8 : Hid (Below w.heap.size w w8) := hide (HB4.out.trans (SW.below HB4.out.size (fun k hk e => by omega)))
      clear P4 T8 G7 T7 G4 T4 kk7 kk8 SW
      go_wp2_with fail
      refine bodyPost_ret (results_play rfl _ _ (w.heap.size + 1) (w.heap.size + 2) rfl rfl HG8.out HT8.out rfl rfl) rfl ?_
      rw [← HRE.out]
      exact ⟨cq, bq, rfl, HX8.out, HB8.out⟩
end Go.Proofs.Ytafiaimlmdflnaa
