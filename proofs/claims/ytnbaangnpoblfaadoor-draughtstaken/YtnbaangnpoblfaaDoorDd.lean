/-
  Do, walked. No conditions beyond those that each theorem bears.
-/
import Derived.Test.YtnbaangnpoblfaaDoorAm
namespace Go.Proofs.YtnbaangnpoblfaaDoor
open Go.RowKit Go.Shelf

theorem wpListIn_load_bd {l n : Nat} {ops : Array Oper} {rest : List Oper} {o : Oper} {a : Act} {w : World} {Q : Exit → Act → World → Prop} (hgd : o.guard = none) (x : Operand) (ho : o.op = .load 60 x)
    (g : Nat) (hx : a.eval x = .pointer (some ⟨g, 0, none⟩)) {L : List Value} (hl : L.length = 4) (hc : Vb w g 60 L)
    (h : wpListIn (Fence.wide.inRound l) n Tryd.prog ops Q rest (a.put o.dst (.agg L.toArray)) w) : wpListIn (Fence.wide.inRound l) n Tryd.prog ops Q (o :: rest) a w :=
  wpListIn_plain hgd fun _ hK => oper_round (fun c e => by rw [ho] at e; cases e) (wp_load_row 60 x ho g hx 60 _ (0, 0) _ hc Tryd.underlying60 rfl (by rw [List.size_toArray, hl]; exact size60) (hK _ _ h))
theorem wpListIn_load_wl {l n : Nat} {ops : Array Oper} {rest : List Oper} {o : Oper} {a : Act} {w : World} {Q : Exit → Act → World → Prop} (hgd : o.guard = none) (x : Operand) (ho : o.op = .load 65 x)
    (g : Nat) (hx : a.eval x = .pointer (some ⟨g, 0, none⟩)) {L : List Value} (hl : L.length = 15) (hc : Vb w g 65 L)
    (h : wpListIn (Fence.wide.inRound l) n Tryd.prog ops Q rest (a.put o.dst (.agg L.toArray)) w) : wpListIn (Fence.wide.inRound l) n Tryd.prog ops Q (o :: rest) a w :=
  wpListIn_plain hgd fun _ hK => oper_round (fun c e => by rw [ho] at e; cases e) (wp_load_row 65 x ho g hx 65 _ (0, 0) _ hc Tryd.underlying65 rfl (by rw [List.size_toArray, hl]; exact size65) (hK _ _ h))
theorem wpListIn_store_dg {l n0 : Nat} {ops : Array Oper} {rest : List Oper} {o : Oper} {a : Act} {w : World} {Q : Exit → Act → World → Prop} (hgd : o.guard = none) (x y : Operand) (ho : o.op = .store 24 x y)
    (b : Nat) {ad : Option Addr} {n c : Nat} {t : Int} {ad' : Option Addr} {n' c' : Nat} {t' : Int} (hx : a.eval x = .pointer (some ⟨b, 0, none⟩)) (hy : a.eval y = .agg (dgA ad n c t)) (hb : Dg w b ad' n' c' t')
    (h : ∀ w', Dg w' b ad n c t → Keeps (fun k => k = b) w w' → wpListIn (Fence.wide.inRound l) n0 Tryd.prog ops Q rest (a.put o.dst undef) w') : wpListIn (Fence.wide.inRound l) n0 Tryd.prog ops Q (o :: rest) a w := by
  refine wpListIn_plain hgd fun _ hK => ?_
  have hb' : w.heap[b]? = _ := hb
  refine oper_round (fun c e => by rw [ho] at e; cases e) (wp_store_row 24 x y ho b (dgA ad n c t) hx hy 24 _ hb' size24 rfl (by simp [Value.oneCell']) ?_)
  refine hK _ _ (h _ ?_ ?_)
  · simp [Dg, World.setRow, Array.getElem?_modify, hb']
  · exact ⟨rfl, rfl, rfl, by simp [World.setRow], fun k _ hk => by simp [World.setRow, Array.getElem?_modify, show ¬ b = k from fun e => hk e.symm]⟩

theorem results_dge {fn : Func} {t u : Tmp} (h : fn.results = #[.cell t 24, .cell u 28]) (tmps : Array Value) (w : World) (b g : Nat) (hb : tmps.getD t undef = .pointer (some ⟨b, 0, none⟩)) (hg : tmps.getD u undef = .pointer (some ⟨g, 0, none⟩)) {ad : Option Addr} {n c : Nat} {tt : Int} (hr : Dg w b ad n c tt) {v : Int} (he : w.cell? ⟨g, 0, none⟩ = some (.int .i64 v)) :
    (results fn tmps).run Tryd.prog w = .ok (.tuple #[.agg (dgA ad n c tt), .int .i64 v]) w := by
  have hb' : tmps[t]?.getD undef = .pointer (some ⟨b, 0, none⟩) := by simpa using hb
  have hg' : tmps[u]?.getD undef = .pointer (some ⟨g, 0, none⟩) := by simpa using hg
  obtain ⟨g0, g1⟩ := hr.cells
  simp [results, h, hb', hg', asAddr, go_sem, he, g0, g1]

/-- What Do answers. -/
def DoR (Z : List Int) (t : Nat) (X : List Int) (e : Ending) (w : World) : Prop :=
  (∃ y, y ∈ wyN Z t ∧ toI y.1 = X ∧ ∃ a c, e = .returned (.tuple #[.agg (dgA a 33 c ((afN Z t y).mov : Nat)), .int .i64 0]) ∧ Rd w a 33 c (tol (afN Z t y))) ∨
  ((∀ y, y ∈ wyN Z t → toI y.1 ≠ X) ∧ e = .returned (.tuple #[.agg (dgA none 0 0 0), .int .i64 8]))

theorem build24z (w : World) : (Instr.build 24 #[]).run Tryd.prog w = .ok (.agg (dgA none 0 0 0)) w := by
  simp [Instr.build, go_sem, run_underlying Tryd.underlying24]

attribute [local go_sem] build24z Oper.semAt_some wide_fn wide_fn0 wide_depth
attribute [local irreducible] wyN mvN sn toI wyL bdL afN tol mkO

set_option maxRecDepth 100000 in
set_option maxHeartbeats 8000000 in
theorem Do_may (t : Nat) (a : Option Addr) (c : Nat) (Z : List Int) (xa : Option Addr) (xn xc : Nat) (X : List Int) (w : World) (h : Rd w a 33 c Z) (hX : Rd w xa xn xc X) (hM : Mb Z t) (hD : DTab w) (hT : TzT w) :
    Calls Tryd.prog 17 #[.agg (dgA a 33 c (t : Nat)), .slice xa xn xc] w fun e w' => DoR Z t X e w' ∧ Below w.heap.size w w' := by
  have ht : t = 1 ∨ t = 2 := by have := hM.tt; omega
  obtain ⟨w1, hw1⟩ : ∃ w1, (((w.alloc (.cells (dgA a 33 c (t : Nat)) 24)).alloc (.cells #[.slice xa xn xc] 22)).alloc (.cells #[.slice none 0 0, .int .i64 0] 24)).alloc (.cells #[.int .i64 0] 28) = w1 := ⟨_, rfl⟩
  have HB1 : Hid (Below w.heap.size w w1) := hide (by rw [← hw1]; exact ((((Below.refl _ _).alloc (Nat.le_refl _) _).alloc (by simp) _).alloc (by simp; omega) _).alloc (by simp; omega) _)
  have G1 : Dg w1 w.heap.size a 33 c (t : Nat) := by rw [← hw1]; exact (((Dg.new _ _ _ _ _).old _).old _).old _
  have VX1 : Vb w1 (w.heap.size + 1) 22 [.slice xa xn xc] := by
    rw [← hw1]
    have := Vb.new (w.alloc (.cells (dgA a 33 c (t : Nat)) 24)) 22 [.slice xa xn xc]
    rw [World.size_alloc] at this
    exact (this.old _).old _
  have Z1 : Dg w1 (w.heap.size + 2) none 0 0 0 := by
    rw [← hw1]
    have := Dg.new ((w.alloc (.cells (dgA a 33 c (t : Nat)) 24)).alloc (.cells #[.slice xa xn xc] 22)) none 0 0 0
    rw [World.size_alloc, World.size_alloc] at this
    exact this.old _
  have E1 : Vb w1 (w.heap.size + 3) 28 [.int .i64 0] := by
    rw [← hw1]
    have := Vb.new (((w.alloc (.cells (dgA a 33 c (t : Nat)) 24)).alloc (.cells #[.slice xa xn xc] 22)).alloc (.cells #[.slice none 0 0, .int .i64 0] 24)) 28 [.int .i64 0]
    rw [World.size_alloc, World.size_alloc, World.size_alloc] at this
    exact this
  have hm1 := May_any (t : Nat) a 33 c Z w1 (h.mono HB1.out)
  rw [(mayD_iff Z t).2 hM] at hm1
  have HM := hide hm1
  have HSE := hide (fun W (hR : Rd W a 33 c Z) => seen_any t a c Z W hR ht)
  have HSQ := hide (fun bb => waysN_o hM bb)
  have HOK := hide (fun y (hy : y ∈ wyN Z t) => wyN_ok hM hy)
  have HMM := hide hM
  have HBL : Hid ((bdL (sn Z t)).length = 4 ∧ ∀ u ∈ bdL (sn Z t), u.oneCell' = true) := hide (by unfold bdL; exact ⟨rfl, fun u hu => by simp at hu; rcases hu with rfl | rfl | rfl | rfl <;> rfl⟩)
  have HR1 := hide (h.mono HB1.out)
  have HX1 := hide (hX.mono HB1.out)
  have HD1 := hide (hD.mono HB1.out)
  have HT1 := hide (hT.mono HB1.out)
  have HXB : Hid (∀ b off, xa = some ⟨b, off, none⟩ → b < w1.heap.size ∨ xn = 0) := hide (fun b off e => by
    by_cases h0 : xn = 0
    · exact Or.inr h0
    · obtain ⟨b', o', e', hc⟩ := (hX.mono HB1.out).cells (by omega)
      rw [e'] at e
      simp only [Option.some.injEq, Addr.mk.injEq] at e
      exact Or.inl (e.1 ▸ World.block_lt_of_cell? w1 _ (hc 0 (by omega))))
  have HG1 := hide G1
  have HVX1 := hide VX1
  have HZ1 := hide Z1
  have HE1 := hide E1
  clear h hX hM hD hT hm1 ht VX1 Z1 E1
  refine (callsIn_wide (n := 3)).1 ?_
  refine callsIn_of_wp_marks Tryd.func17 rfl trivial ?_ rfl
  simp only [Tryd.ntmps17, List.size_toArray, List.length_cons, List.length_nil, Nat.reduceAdd, Nat.reduceSub, Array.replicate_succ, Array.replicate_zero, List.push_toArray, List.append_toArray, List.nil_append, List.cons_append]
  refine wpIn_wide.2 ?_
  go_upto_region 1 with fail
  clear hw1
  go_wp2_with (refine wpList_load_dg rfl (.tmp 2) rfl w.heap.size rfl G1 ?_)
  refine HM.out.mono ?_
  rintro e w2 ⟨rfl, hb2⟩
  have HB2 := hide (HB1.out.trans (hb2.mono HB1.out.size))
  have G2 := HG1.out.below hb2 HG1.out.lt
  have HVX2 := hide (HVX1.out.mono hb2)
  have HZ2 := hide (HZ1.out.below hb2 HZ1.out.lt)
  have HE2 := hide (HE1.out.mono hb2)
  have HR2 := hide (HR1.out.mono hb2)
  have HX2 := hide (HX1.out.mono hb2)
  have HD2 := hide (HD1.out.mono hb2)
  have HT2 := hide (HT1.out.mono hb2)
  clear hb2 G1 HM HB1 HG1 HVX1 HZ1 HE1 HR1 HX1 HD1 HT1 HXB
  go_wp2_with (refine wpList_load_dg rfl (.tmp 2) rfl w.heap.size rfl G2 ?_)
  refine (HSE.out _ HR2.out).mono ?_
  rintro e w3 ⟨rfl, hb3⟩
  have HB3 := hide (HB2.out.trans (hb3.mono HB2.out.size))
  have HVX3 := hide (HVX2.out.mono hb3)
  have HZ3 := hide (HZ2.out.below hb3 HZ2.out.lt)
  have HE3 := hide (HE2.out.mono hb3)
  have HX3 := hide (HX2.out.mono hb3)
  have HD3 := hide (HD2.out.mono hb3)
  have HT3 := hide (HT2.out.mono hb3)
  clear hb3 G2 HB2 HVX2 HZ2 HE2 HR2 HX2 HD2 HT2 HSE
  obtain ⟨w3a, hw3a⟩ : ∃ w3a, w3.alloc (.cells #[.int .u64 0, .int .u64 0, .int .u64 0, .int .i64 0] 60) = w3a := ⟨_, rfl⟩
  have V3a : Vb w3a w3.heap.size 60 [.int .u64 0, .int .u64 0, .int .u64 0, .int .i64 0] := by rw [← hw3a]; exact Vb.new _ _ _
  have B3a : Below w3.heap.size w3 w3a := by rw [← hw3a]; exact (Below.refl _ _).alloc (Nat.le_refl _) _
  have HB3a := hide B3a
  clear B3a
  go_upto_region 4 with (refine wpList_store_vb rfl 60 (.tmp 6) (.tmp 13) rfl w3.heap.size (bdL (sn Z t)) _ rfl rfl V3a (by rw [HBL.out.1]; rfl) (by rw [HBL.out.1]; exact size60) HBL.out.2 ?_; intro w4 V4 kk4)
  clear hw3a V3a
  have B34 : Below w3.heap.size w3 w4 := HB3a.out.trans (kk4.below HB3a.out.size (fun k hk e => by omega))
  have HB4 := hide (HB3.out.trans (B34.mono HB3.out.size))
  have HVX4 := hide (HVX3.out.mono B34)
  have HZ4 := hide (HZ3.out.below B34 HZ3.out.lt)
  have HE4 := hide (HE3.out.mono B34)
  have HX4 := hide (HX3.out.mono B34)
  have HD4 := hide (HD3.out.mono B34)
  have HT4 := hide (HT3.out.mono B34)
  have HV4 := hide V4
  have HLE : Hid (w.heap.size + 3 < w3.heap.size ∧ w3.heap.size < w4.heap.size ∧ 1 < w3.heap.size) := hide ⟨HE3.out.lt, V4.lt, HT3.out.lt⟩
  clear B34 kk4 HB3a HB3 HVX3 HZ3 HE3 HX3 HD3 HT3
  go_wp2_with (refine wpList_load_bd rfl (.tmp 6) rfl w3.heap.size rfl V4 ?_)
  refine (ways_any (sn Z t) _).mono ?_
  rintro e w5 ⟨rfl, hw5⟩
  have B5 : Below w4.heap.size w4 w5 := by rw [hw5]; exact (Below.refl _ _).alloc (Nat.le_refl _) _
  have HVB : Hid (Vb w5 w4.heap.size 60 (bdL (sn Z t))) := hide (by rw [hw5]; exact Vb.new _ _ _)
  have HS5 : Hid (w5.heap.size = w4.heap.size + 1) := hide (by rw [hw5]; simp)
  have HB5 := hide (HB4.out.trans (B5.mono HB4.out.size))
  have HVX5 := hide (HVX4.out.mono B5)
  have HZ5 := hide (HZ4.out.below B5 HZ4.out.lt)
  have HE5 := hide (HE4.out.mono B5)
  have HX5 := hide (HX4.out.mono B5)
  have HD5 := hide (HD4.out.mono B5)
  have HT5 := hide (HT4.out.mono B5)
  have HV5 := hide (HV4.out.mono B5)
  clear hw5 B5 V4 HB4 HVX4 HZ4 HE4 HX4 HD4 HT4 HV4
  go_wp2_with fail
  refine (wpIn_wide (n := 1)).1 (wp_range_o (gf := 60) (lb := #[.pointer (some ⟨w4.heap.size, 0, none⟩)]) (G := WyN) (xs := wyN Z t) (R := WaR w4.heap.size (sn Z t)) (T := WaT w4.heap.size) (by simp [Act.eval]) (enters_of Tryd.func60 (by kernel_rfl) rfl)
    (HSQ.out w4.heap.size) (fun k hk => ?hT) (fun A hA => ⟨HD5.out.mono hA, HVB.out.mono hA⟩) (fun y args W' hG => by rw [hG]; rfl)
    (fun O s W' => (∀ k, O k → k = w.heap.size + 2 ∨ k = w.heap.size + 3) ∧ O (w.heap.size + 2) ∧ O (w.heap.size + 3) ∧ Keeps (fun k => w5.heap.size ≤ k) w5 W' ∧ ∀ y, y ∈ s → toI y.1 ≠ X)
    (fun d O W' => d = .ret ∧ (∀ k, O k → k < W'.heap.size ∧ ¬ WaT w4.heap.size k) ∧ ∃ y, y ∈ wyN Z t ∧ toI y.1 = X ∧ ∃ a c, Dg W' (w.heap.size + 2) a 33 c ((afN Z t y).mov : Nat) ∧ W'.cell? ⟨w.heap.size + 3, 0, none⟩ = some (.int .i64 0) ∧ Ir O W' a 33 c (tol (afN Z t y)) ∧ Keeps (fun k => k = w.heap.size + 2 ∨ k = w.heap.size + 3 ∨ w5.heap.size ≤ k) w5 W')
    (fun k => k = w.heap.size + 2 ∨ k = w.heap.size + 3) ?hC ?h0 ?round ?done ?stop)
  case hT =>
    have := HS5.out
    have := HD5.out.lt
    rcases hk with rfl | rfl <;> omega
  case h0 => exact ⟨fun k hk => hk, Or.inl rfl, Or.inr rfl, Keeps.refl _ _, fun y hy => by cases hy⟩
  case hC =>
    intro d
    have z1 := HLE.out
    have z2 := HS5.out
    refine ⟨?_, ?_, ?_, ?_⟩
    · rintro O s A ⟨h1, _, _, h4, _⟩ k hk
      have := h4.size
      have hk' := h1 k hk
      exact ⟨by omega, fun e => by rcases e with e | e <;> omega⟩
    · rintro O A ⟨_, h2, _⟩; exact h2
    · rintro O s A B ⟨h1, h2, h3, h4, h5⟩ hk
      exact ⟨h1, h2, h3, h4.trans (hk.mono (fun k _ e => e.1)), h5⟩
    · rintro O A B ⟨h1, h2, y, h3, h4, a', c', h5, h6, h7, h8⟩ hk
      exact ⟨h1, fun k ho => ⟨Nat.lt_of_lt_of_le (h2 k ho).1 hk.size, (h2 k ho).2⟩, y, h3, h4, a', c', h5.keeps hk (fun e => by omega), hk.cell h6 (fun e => by have := e.1; dsimp only at this; omega), h7.keeps hk (fun k ho hx => hx.2 ho), h8.trans (hk.mono (fun k _ e => Or.inr (Or.inr e.1)))⟩
  case round =>
    rintro l2 O s y args W1 hl2 hrec ⟨h1, h2, h3, h4, h5⟩ hOl _ hOm hpre hG hsz
    have hy := hpre.subset (show y ∈ s ++ [y] by simp)
    have hyo := HOK.out y hy
    obtain rfl : args = #[.agg (wyL (y.1.map e2) (mkO y.2)).toArray] := hG
    have HN := hide (fun W (hT : TzT W) => numbersN hyo W hT)
    have HAF := hide (fun W => afterN HMM.out hyo W)
    have HTD := hide (fun W (hT : TzT W) => toldN HMM.out hyo W hT)
    have hW13 : (y.1.map e2).length ≤ 13 := by rw [List.length_map]; exact hyo.le
    obtain ⟨WL, hWL⟩ : ∃ WL, wyL (y.1.map e2) (mkO y.2) = WL := ⟨_, rfl⟩
    have HWl : Hid (WL.length = 15) := hide (by rw [← hWL]; exact wyL_len hW13)
    have HW1 : Hid (∀ u ∈ WL, u.oneCell' = true) := hide (by rw [← hWL]; exact wyL_one _ _)
    rw [hWL] at HN HAF ⊢
    have HY := hide hy
    have HH := hide (And.intro h1 (And.intro h2 (And.intro h3 (And.intro h4 h5))))
    have HL2 : Hid (l2 = w5.heap.size + 1 ∧ w5.heap.size + 2 ≤ W1.heap.size) := hide ⟨hl2, hsz⟩
    clear h1 h2 h3 h4 h5 hOl hl2 hsz hrec hpre hy hyo hW13 hWL hOm
    have HVN := hide (Vb.new W1 65 [.int .u64 0, .int .u64 0, .int .u64 0, .int .u64 0, .int .u64 0, .int .u64 0, .int .u64 0, .int .u64 0, .int .u64 0, .int .u64 0, .int .u64 0, .int .u64 0, .int .u64 0, .int .i64 0, .int .u64 0])
    gi_wp2_with (refine wpListIn_store_vb rfl 65 (.tmp 7) (.tmp 16) rfl W1.heap.size WL _ rfl rfl HVN.out (by rw [HWl.out]; rfl) (by rw [HWl.out]; exact size65) HW1.out ?_; intro W2 hV2 hK2)
    have B12 : Below W1.heap.size W1 W2 := (((Keeps.refl (fun k => k = W1.heap.size) W1).alloc _).trans hK2).below (Nat.le_refl _) (fun k hk e => by omega)
    refine ⟨B12, ?_⟩
    intro W3 hk3
    obtain ⟨h1, h2, h3, h4, h5⟩ := HH.out
    have z := HL2.out
    have z1 := HLE.out
    have z2 := HS5.out
    have zb := B12.size
    have K13 : Keeps (fun k => k = l2) W1 W3 := (Keeps.of_all B12).trans hk3
    have K53 : Keeps (fun k => w5.heap.size ≤ k) w5 W3 := h4.trans (K13.mono (fun k _ e => by omega))
    have HV3 : Hid (Vb W3 W1.heap.size 65 WL) := hide (hV2.keeps hk3 (by omega))
    have HK53 := hide K53
    have HT3 := hide (HT5.out.keeps K53 (by have := HT5.out.lt; omega))
    have HVX3 : Hid (Vb W3 (w.heap.size + 1) 22 [.slice xa xn xc]) := hide (HVX5.out.keeps K53 (by omega))
    have B53 : Below w5.heap.size w5 W3 := K53.below (Nat.le_refl _) (fun k hk e => by omega)
    have HX3 : Hid (Rd W3 xa xn xc X) := hide (HX5.out.mono B53)
    have HV3b := hide (HV5.out.mono B53)
    have HZ3 := hide (HZ5.out.below B53 HZ5.out.lt)
    have HE3 := hide (HE5.out.mono B53)
    have HO1 := hide h1
    have HO2 := hide h2
    have HO3 := hide h3
    have HNO := hide h5
    have HZZ : Hid (w5.heap.size + 2 ≤ W3.heap.size ∧ W1.heap.size < W3.heap.size ∧ w5.heap.size ≤ W1.heap.size) := hide ⟨by have := hk3.size; omega, HV3.out.lt, by omega⟩
    clear h1 h2 h3 h4 h5 HH z z1 z2 zb K13 K53 B53 hk3 B12 hV2 hK2 HVN
    gi_wp2
    refine wp_region_round (S := fun W4 => Below W3.heap.size W3 W4) (by kernel_rfl) (by kernel_rfl) (by rintro ⟨_, _, h⟩; exact h) ?_
    have SW : Below W3.heap.size W3 W3.drew := drewN_below _ _ 1
    refine wpAnyH_take (i := 0) (v := .agg WL.toArray) rfl (by kernel_rfl) (by kernel_rfl) (by kernel_rfl) (fun _ _ _ h => h) (yieldsIf_load_mid (by rfl) 65 _ rfl W1.heap.size 0 (by rfl) WL _ (fun W hW => (HV3.out.mono hW).range) Tryd.underlying65 rfl (by rw [HWl.out]; exact size65)) SW ?_
    go_simp
    refine wpAnyH_take (i := 2) (v := .slice xa xn xc) rfl (by kernel_rfl) (by kernel_rfl) (by kernel_rfl) (fun _ _ _ h => h) (Or.inl ⟨by rfl, ?_⟩) SW ?_
    · intro W4 hW4
      have x0 := (HVX3.out.mono hW4).cell (i := 0) rfl
      go_simp <;> first | done | rfl | (rw [IntKind.wrap_i64]; omega) | omega
    go_simp
    refine wpAnyH_ready (rs := [1]) (by kernel_rfl) (by simp) ?_
    refine AllReadyH.cons rfl (fun K1 hK1 => ?_) AllReadyH.nil
    go_simp
    refine (HN.out _ (HT3.out.mono SW)).mono ?_
    rintro r W5 ⟨ra, rc, rfl, hO5, hb5⟩
    have B5 := SW.trans (hb5.mono SW.size)
    have HEQ := hide (fun q => equal_any ra xa y.1.length rc xn xc (toI y.1) X (W5.drewN q) ((Rd.of_own hO5).mono (drewN_below _ _ _)) ((HX3.out.mono B5).mono (drewN_below _ _ _)))
    generalize y.1.length = ym at *
    refine hK1.out _ _ B5 (fun SW => ?_)
    clear hK1 K1 hb5 hO5
    go_simp
    refine wpAnyH_ready (rs := [3]) (by kernel_rfl) (by simp) ?_
    refine AllReadyH.cons rfl (fun K1 hK1 => ?_) AllReadyH.nil
    go_simp
    refine (HEQ.out 0).mono ?_
    rintro r W6 ⟨rfl, q, hW6⟩
    have B6 : Below W3.heap.size W3 W6 := by rw [hW6]; exact B5.trans (drewN_below _ _ _)
    refine hK1.out _ _ B6 (fun SW => ?_)
    clear hK1 K1 hW6 B5 HEQ
    go_simp
    refine wpAnyH_done (by kernel_rfl) ?_ _
    have HB6 := hide B6
    clear SW B6
    by_cases hyx : toI y.1 = X
    · rw [show decide (toI y.1 = X) = true by simpa using hyx]
      have V6b := HV3b.out.mono HB6.out
      have V6w := HV3.out.mono HB6.out
      gi_wp2_with (first
        | refine wpListIn_load_bd rfl (.tmp 6) rfl w3.heap.size rfl HBL.out.1 V6b ?_
        | refine wpListIn_load_wl rfl (.tmp 7) rfl W1.heap.size rfl HWl.out V6w ?_)
      refine CallsIn.mono (CallsIn.inRound l2 (callsIn_wide.2 (HAF.out _))) ?_
      rintro e W7 ⟨rfl, hb7⟩
      have HB7 := hide (HB6.out.trans (hb7.mono HB6.out.size))
      clear hb7 V6b V6w
      gi_wp2
      refine CallsIn.mono (CallsIn.inRound l2 (callsIn_wide.2 (HTD.out _ (HT3.out.mono HB7.out)))) ?_
      rintro e W8 ⟨a8, c8, rfl, hO8, hb8⟩
      have B8 := HB7.out.trans (hb8.mono HB7.out.size)
      have Z8 := HZ3.out.below B8 HZ3.out.lt
      have E8 := HE3.out.mono B8
      have ce8 := E8.cell (i := 0) rfl
      have fe8 := E8.frozen 0
      have HO8 := hide hO8
      have HB8 := hide B8
      clear hO8 hb8 B8 E8
      gi_wp2_with (refine wpListIn_store_dg rfl (.tmp 4) (.tmp 24) rfl (w.heap.size + 2) rfl rfl Z8 ?_; intro W9 k9 kk9; have c9 := kk9.cell ce8 (fun e => by dsimp only at e; omega); have f9 := (kk9.frozen (p := ⟨w.heap.size + 3, 0, none⟩) (World.block_lt_of_cell? W8 _ ce8) (fun e => by dsimp only at e; omega)).trans fe8)
      have zz := HZZ.out
      have zl := HLE.out
      have zs := HS5.out
      have z7 := HB7.out.size
      have z8 := HB8.out.size
      have z9 := kk9.size
      have K10 : Keeps (fun k => k = w.heap.size + 3) W9 (W9.setCell ⟨w.heap.size + 1 + 1 + 1, 0, none⟩ (.int .i64 0)) := Keeps.set1 W9 (w.heap.size + 3) 0 _
      have c10 : (W9.setCell ⟨w.heap.size + 1 + 1 + 1, 0, none⟩ (.int .i64 0)).cell? ⟨w.heap.size + 3, 0, none⟩ = some (.int .i64 0) := World.cell?_setCell_same _ _ _ c9
      generalize W9.setCell ⟨w.heap.size + 1 + 1 + 1, 0, none⟩ (.int .i64 0) = W10 at *
      have z10 := K10.size
      have K8 : Keeps (fun k => k = w.heap.size + 2 ∨ k = w.heap.size + 3) W8 W10 := (kk9.mono (fun k _ e => Or.inl e)).trans (K10.mono (fun k _ e => Or.inr e))
      have hIr : Ir (fun k => W3.heap.size ≤ k ∧ k < W8.heap.size) W10 a8 33 c8 (tol (afN Z t y)) := (Ir.of_own (O := fun k => W3.heap.size ≤ k ∧ k < W8.heap.size) HO8.out (fun k hk hk2 => ⟨by omega, hk2⟩)).keeps K8 (fun k ho e => by omega)
      refine ⟨(Keeps.of_all HB8.out).trans (K8.mono (fun k _ e => by rcases e with e | e <;> rw [e] <;> first | exact HO2.out | exact HO3.out)), fun k => O k ∨ (W3.heap.size ≤ k ∧ k < W8.heap.size), fun k hk h => ?_, rfl, fun k h => ?_, y, HY.out, hyx, a8, c8, k9.keeps K10 (by show ¬ w.heap.size + 2 = w.heap.size + 3; omega), c10, hIr.wide (fun k _ h => Or.inr h), (HK53.out.mono (fun k _ e => Or.inr (Or.inr e))).trans (((Keeps.of_below HB8.out).mono (fun k _ e => Or.inr (Or.inr (by omega)))).trans (K8.mono (fun k _ e => by omega)))⟩
      · rcases h with h | h
        · exact h
        · omega
      · rcases h with h | h
        · have := HO1.out k h
          exact ⟨by omega, fun e => by rcases e with e | e <;> omega⟩
        · exact ⟨by omega, fun e => by rcases e with e | e <;> omega⟩
    · rw [show decide (toI y.1 = X) = false by simpa using hyx]
      have HYX := hide hyx
      clear hyx
      gi_wp2
      refine ⟨Keeps.of_all HB6.out, O, fun k _ h => h, HO1.out, HO2.out, HO3.out, HK53.out.trans ((Keeps.of_below HB6.out).mono (fun k _ e => by have := HZZ.out; omega)), ?_⟩
      intro y' hy'
      rcases List.mem_append.1 hy' with h | h
      · exact HNO.out y' h
      · simp at h; rw [h]; exact HYX.out
  case done =>
    rintro D O W6 hD ⟨h1, h2, h3, h4, h5⟩ hk6 hm6 hK
    subst hD
    have zl := HLE.out
    have B56 : Below w5.heap.size w5 W6 := h4.below (Nat.le_refl _) (fun k hk e => by omega)
    have Z6 := HZ5.out.below B56 HZ5.out.lt
    have E6 := HE5.out.mono B56
    have c6 := E6.cell (i := 0) rfl
    have f6 := E6.frozen 0
    have HNO := hide h5
    have HB6 := hide (HB5.out.trans (B56.mono HB5.out.size))
    clear h1 h2 h3 h4 h5 hk6 hm6 B56
    go_wp2_with (refine wpList_store_dg rfl (.tmp 4) (.tmp 25) rfl (w.heap.size + 2) rfl rfl Z6 ?_; intro w7 k7 kk7; have c7 := kk7.cell c6 (fun e => by dsimp only at e; omega); have f7 := (kk7.frozen (p := ⟨w.heap.size + 3, 0, none⟩) (World.block_lt_of_cell? W6 _ c6) (fun e => by dsimp only at e; omega)).trans f6)
    have zs := HS5.out
    have K8 : Keeps (fun k => k = w.heap.size + 3) w7 (w7.setCell ⟨w.heap.size + 1 + 1 + 1, 0, none⟩ (.int .i64 8)) := Keeps.set1 w7 (w.heap.size + 3) 0 _
    have c8 : (w7.setCell ⟨w.heap.size + 1 + 1 + 1, 0, none⟩ (.int .i64 8)).cell? ⟨w.heap.size + 3, 0, none⟩ = some (.int .i64 8) := World.cell?_setCell_same _ _ _ c7
    generalize w7.setCell ⟨w.heap.size + 1 + 1 + 1, 0, none⟩ (.int .i64 8) = w8 at *
    have KK : Keeps (fun k => k = w.heap.size + 2 ∨ k = w.heap.size + 3) W6 w8 := (kk7.mono (fun k _ e => Or.inl e)).trans (K8.mono (fun k _ e => Or.inr e))
    have hDl : w5.heap.size < W6.heap.size := (Array.getElem?_eq_some_iff.1 hK).1
    have hK8 : w8.heap[w5.heap.size]? = some (.deferred (some [])) := (KK.block _ hDl (by show ¬ (w5.heap.size = w.heap.size + 2 ∨ w5.heap.size = w.heap.size + 3); omega)).trans hK
    have KP := Keeps.put (X := fun k => k = w5.heap.size) (Keeps.refl _ w8) (l := w5.heap.size) rfl (.deferred none)
    have k9 := (k7.keeps K8 (by show ¬ w.heap.size + 2 = w.heap.size + 3; omega)).keeps KP (by show ¬ w.heap.size + 2 = w5.heap.size; omega)
    have c9 := KP.cell c8 (by show ¬ w.heap.size + 3 = w5.heap.size; omega)
    have HBF : Hid (Below w.heap.size w (w8.putObj w5.heap.size (.deferred none))) := hide (HB6.out.trans (((KK.mono (Y := fun k => w.heap.size ≤ k) (fun k _ e => by omega)).trans (KP.mono (fun k _ e => by omega))).below HB6.out.size (fun k hk e => by omega)))
    refine ⟨by simp, .inl ⟨_, _, rfl, run_takeDeferred hK8, ?_⟩⟩
    exact ⟨_, results_dge rfl _ _ (w.heap.size + 2) (w.heap.size + 3) rfl rfl k9 c9, Or.inr ⟨HNO.out, rfl⟩, HBF.out⟩
  case stop =>
    rintro d D O W6 hD ⟨rfl, h2, y, h3, h4, a', c', h5, h6, h7, h8⟩ hk6 hm6 hK
    subst hD
    have zl := HLE.out
    have zs := HS5.out
    have KP := Keeps.put (X := fun k => k = w5.heap.size) (Keeps.refl _ W6) (l := w5.heap.size) rfl (.deferred none)
    have k9 := h5.keeps KP (by show ¬ w.heap.size + 2 = w5.heap.size; omega)
    have c9 := KP.cell h6 (by show ¬ w.heap.size + 3 = w5.heap.size; omega)
    have HRD : Hid (Rd (W6.putObj w5.heap.size (.deferred none)) a' 33 c' (tol (afN Z t y))) := hide (h7.keeps KP (fun k ho e => by
      have := hm6 k (by omega) ho
      omega)).rd
    have HBF : Hid (Below w.heap.size w (W6.putObj w5.heap.size (.deferred none))) := hide (HB5.out.trans (((h8.mono (Y := fun k => w.heap.size ≤ k) (fun k _ e => by have := HB5.out.size; omega)).trans (KP.mono (fun k _ e => by have := HB5.out.size; omega))).below HB5.out.size (fun k hk e => by omega)))
    clear h2 h5 h6 h7 h8 hk6 hm6
    refine wpIn_wide.2 ?_
    go_wp2_with fail
    refine ⟨by simp, .inl ⟨_, _, rfl, run_takeDeferred hK, ?_⟩⟩
    exact ⟨_, results_dge rfl _ _ (w.heap.size + 2) (w.heap.size + 3) rfl rfl k9 c9, Or.inl ⟨y, h3, h4, a', c', rfl, HRD.out⟩, HBF.out⟩

end Go.Proofs.YtnbaangnpoblfaaDoor
