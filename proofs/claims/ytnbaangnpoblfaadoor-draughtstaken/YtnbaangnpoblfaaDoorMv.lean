/-
  draughts.Moves, walked: all ways, in order. No conditions beyond those that each theorem bears.
-/
import Derived.Test.YtnbaangnpoblfaaDoorMo
namespace Go.Proofs.YtnbaangnpoblfaaDoor
open Go.RowKit Go.Shelf

theorem flatMap_len {α β : Type} (g : α → List β) (B : Nat) : ∀ (l : List α), (∀ a ∈ l, (g a).length ≤ B) → (l.flatMap g).length ≤ l.length * B
  | [], _ => by simp
  | a :: l, h => by
    rw [List.flatMap_cons, List.length_append, List.length_cons]
    have h1 := h a (by simp)
    have h2 := flatMap_len g B l (fun b hb => h b (by simp [hb]))
    rw [Nat.add_mul, Nat.one_mul]; omega

theorem filterMap4_len {β : Type} (f : Nat → Option β) : ([0, 1, 2, 3].filterMap f).length ≤ 4 := List.length_filterMap_le _ _

theorem jmN_len {Z : List Int} {t p0 : Nat} : ∀ (f c : Nat) (W ov : List Nat), (jmN Z t p0 (f + 1) c W ov).length ≤ 4 ^ f
  | 0, c, W, ov => by
    rw [jmN]
    have : (hopsN Z t p0 c ov).flatMap (fun h => jmN Z t p0 0 h.1 (W ++ [h.1]) (ov ++ [h.2])) = [] := by
      rw [List.flatMap_eq_nil_iff]; intro x _; rfl
    rw [this, List.nil_append]
    split <;> simp
  | f + 1, c, W, ov => by
    rw [jmN]
    by_cases hn : hopsN Z t p0 c ov = []
    · rw [hn, List.flatMap_nil, List.nil_append]
      have := Nat.one_le_two_pow (n := f)
      split
      · show 1 ≤ 4 ^ (f + 1); exact Nat.one_le_pow _ _ (by omega)
      · exact Nat.zero_le _
    · rw [if_neg (fun k => hn k.1), List.append_nil]
      have h1 := flatMap_len (fun h : Nat × Nat => jmN Z t p0 (f + 1) h.1 (W ++ [h.1]) (ov ++ [h.2])) (4 ^ f) (hopsN Z t p0 c ov) (fun a _ => jmN_len f _ _ _)
      have h2 : (hopsN Z t p0 c ov).length ≤ 4 := filterMap4_len _
      rw [Nat.pow_succ, Nat.mul_comm]
      exact Nat.le_trans h1 (Nat.mul_le_mul_right _ h2)

theorem wyN_len (Z : List Int) (t : Nat) : (wyN Z t).length ≤ 553648128 := by
  have h1 := flatMap_len (way1N Z t) 16777216 (plc Z t) (fun p _ => by
    unfold way1N
    split
    · exact jmN_len 12 p [p] []
    · exact Nat.le_trans (filterMap4_len _) (by omega))
  have h2 : (plc Z t).length ≤ 33 := by
    unfold plc
    exact Nat.le_trans (List.length_filter_le _ _) (by simp)
  have : (plc Z t).length * 16777216 ≤ 33 * 16777216 := Nat.mul_le_mul_right _ h2
  unfold wyN
  omega

set_option maxRecDepth 100000 in
set_option maxHeartbeats 2000000 in
theorem Moves_no (t : Int) (a : Option Addr) (n c : Nat) (Z : List Int) (w : World) (h : Rd w a n c Z) (hno : mayD Z t = false) :
    Calls Tryd.prog 10 #[.agg (dgA a n c t)] w fun e w' => e = .returned (.tuple #[.slice none 0 0, .int .i64 12]) ∧ Below w.heap.size w w' := by
  obtain ⟨w1, hw1⟩ : ∃ w1, w.alloc (.cells (dgA a n c t) 24) = w1 := ⟨_, rfl⟩
  have HB1 : Hid (Below w.heap.size w w1) := hide (by rw [← hw1]; exact (Below.refl _ _).alloc (Nat.le_refl _) _)
  have G1 : Dg w1 w.heap.size a n c t := by rw [← hw1]; exact Dg.new _ _ _ _ _
  have HM := hide (May_any t a n c Z w1 (h.mono HB1.out))
  rw [hno] at HM
  clear h hno
  go_enter Tryd.func10, Tryd.ntmps10
  go_upto_region 1 with fail
  clear hw1
  go_wp2_with (refine wpList_load_dg rfl (.tmp 1) rfl w.heap.size rfl G1 ?_)
  refine HM.out.mono ?_
  rintro e w2 ⟨rfl, hb2⟩
  have HB2 := hide (HB1.out.trans (hb2.mono HB1.out.size))
  clear hb2 G1
  go_wp2_with fail
  go_ret2
  exact ⟨rfl, HB2.out⟩

theorem results_two {fn : Func} {t u : Tmp} (h : fn.results = #[.tmp t, .tmp u]) (tmps : Array Value) (w : World) {a b : Value} (ha : tmps.getD t undef = a) (hb : tmps.getD u undef = b) :
    (results fn tmps).run Tryd.prog w = .ok (.tuple #[a, b]) w := by
  have ha' : tmps[t]?.getD undef = a := by simpa using ha
  have hb' : tmps[u]?.getD undef = b := by simpa using hb
  simp [results, h, ha', hb']

theorem cell_of_vb1 {w : World} {b t : Nat} {v : Value} (h : Vb w b t [v]) : w.cell? ⟨b, 0, none⟩ = some v := h.cell rfl

attribute [local irreducible] wyL bdL sn wyN mvN toI e2 mkO
attribute [local go_sem] Oper.semAt_some wide_fn wide_fn0 wide_depth

set_option maxRecDepth 100000 in
set_option maxHeartbeats 8000000 in
theorem Moves_yes (t : Nat) (a : Option Addr) (c : Nat) (Z : List Int) (w : World) (h : Rd w a 33 c Z) (hM : Mb Z t) (hD : DTab w) (hT : TzT w) :
    Calls Tryd.prog 10 #[.agg (dgA a 33 c (t : Nat))] w fun e w' => ∃ v, e = .returned (.tuple #[v, .int .i64 0]) ∧ Fl (fun k => w.heap.size ≤ k) w.heap.size w' v ((mvN Z t).map toI) ∧ Below w.heap.size w w' := by
  have ht : t = 1 ∨ t = 2 := by have := hM.tt; omega
  obtain ⟨w1, hw1⟩ : ∃ w1, w.alloc (.cells (dgA a 33 c (t : Nat)) 24) = w1 := ⟨_, rfl⟩
  have HB1 : Hid (Below w.heap.size w w1) := hide (by rw [← hw1]; exact (Below.refl _ _).alloc (Nat.le_refl _) _)
  have G1 : Dg w1 w.heap.size a 33 c (t : Nat) := by rw [← hw1]; exact Dg.new _ _ _ _ _
  have hm1 := May_any (t : Nat) a 33 c Z w1 (h.mono HB1.out)
  rw [(mayD_iff Z t).2 hM] at hm1
  have HM := hide hm1
  have HSE := hide (fun W (hR : Rd W a 33 c Z) => seen_any t a c Z W hR ht)
  have HSQ := hide (fun bb => waysN_o hM bb)
  have HOK := hide (fun y (hy : y ∈ wyN Z t) => wyN_ok hM hy)
  have HLEN := hide (wyN_len Z t)
  have HMV : Hid ((mvN Z t).map toI = (wyN Z t).map fun y => toI y.1) := hide (by unfold mvN; rw [List.map_map]; rfl)
  obtain ⟨RS, hRS⟩ : ∃ RS, (mvN Z t).map toI = RS := ⟨_, rfl⟩
  rw [hRS] at HMV ⊢
  have HG1 := hide G1
  have HR1 := hide (h.mono HB1.out)
  have HD1 := hide (hD.mono HB1.out)
  have HT1 := hide (hT.mono HB1.out)
  clear h hM hD hT hm1 ht hRS
  refine (callsIn_wide (n := 3)).1 ?_
  refine callsIn_of_wp_marks Tryd.func10 rfl trivial ?_ rfl
  simp only [Tryd.ntmps10, List.size_toArray, List.length_cons, List.length_nil, Nat.reduceAdd, Nat.reduceSub, Array.replicate_succ, Array.replicate_zero, List.push_toArray, List.append_toArray, List.nil_append, List.cons_append]
  refine wpIn_wide.2 ?_
  go_upto_region 1 with fail
  clear hw1
  go_wp2_with (refine wpList_load_dg rfl (.tmp 1) rfl w.heap.size rfl G1 ?_)
  refine HM.out.mono ?_
  rintro e w2 ⟨rfl, hb2⟩
  have HB2 := hide (HB1.out.trans (hb2.mono HB1.out.size))
  have HG2 := hide (HG1.out.below hb2 HG1.out.lt)
  have HR2 := hide (HR1.out.mono hb2)
  have HD2 := hide (HD1.out.mono hb2)
  have HT2 := hide (HT1.out.mono hb2)
  clear hb2 G1 HM HB1 HG1 HR1 HD1 HT1
  go_upto_region 4 with fail
  obtain ⟨w3, hw3⟩ : ∃ w3, w2.alloc (.cells #[.slice none 0 0] 27) = w3 := ⟨_, rfl⟩
  have B23 : Below w2.heap.size w2 w3 := by rw [← hw3]; exact (Below.refl _ _).alloc (Nat.le_refl _) _
  have HV3 : Hid (Vb w3 w2.heap.size 27 [.slice none 0 0]) := hide (by rw [← hw3]; exact Vb.new _ _ _)
  rw [hw3]
  have G3 := HG2.out.below B23 HG2.out.lt
  have HB3 := hide (HB2.out.trans (B23.mono HB2.out.size))
  have HR3 := hide (HR2.out.mono B23)
  have HD3 := hide (HD2.out.mono B23)
  have HT3 := hide (HT2.out.mono B23)
  have HWW : Hid (w.heap.size < w2.heap.size ∧ 1 < w2.heap.size) := hide ⟨HG2.out.lt, HT2.out.lt⟩
  clear hw3 B23 HG2 HR2 HD2 HT2 HB2
  go_wp2_with (refine wpList_load_dg rfl (.tmp 1) rfl w.heap.size rfl G3 ?_)
  refine (HSE.out _ HR3.out).mono ?_
  rintro e w4 ⟨rfl, hb4⟩
  have HB4 := hide (HB3.out.trans (hb4.mono HB3.out.size))
  have HV4 := hide (HV3.out.mono hb4)
  have HD4 := hide (HD3.out.mono hb4)
  have HT4 := hide (HT3.out.mono hb4)
  clear hb4 G3 HB3 HV3 HR3 HD3 HT3
  go_wp2_with fail
  refine (ways_any (sn Z t) _).mono ?_
  rintro e w5 ⟨rfl, hw5⟩
  have B5 : Below w4.heap.size w4 w5 := by rw [hw5]; exact (Below.refl _ _).alloc (Nat.le_refl _) _
  have HVB : Hid (Vb w5 w4.heap.size 60 (bdL (sn Z t))) := hide (by rw [hw5]; exact Vb.new _ _ _)
  have hs5 : w5.heap.size = w4.heap.size + 1 := by rw [hw5]; simp
  have HS5 := hide hs5
  have HB5 := hide (HB4.out.trans (B5.mono HB4.out.size))
  have V5 := HV4.out.mono B5
  have HD5 := hide (HD4.out.mono B5)
  have HT5 := hide (HT4.out.mono B5)
  have HLB : Hid (w2.heap.size < w4.heap.size ∧ 1 < w2.heap.size) := hide ⟨HV4.out.lt, HWW.out.2⟩
  have c5 := V5.cell (i := 0) rfl
  have f5 := V5.frozen 0
  clear hw5 B5 hs5 HV4 HD4 HT4 HB4 V5
  go_wp2_with fail
  refine (wpIn_wide (n := 1)).1 (wp_range_o (gf := 60) (lb := #[.pointer (some ⟨w4.heap.size, 0, none⟩)]) (G := WyN) (xs := wyN Z t) (R := WaR w4.heap.size (sn Z t)) (T := WaT w4.heap.size) (by simp [Act.eval]) (enters_of Tryd.func60 (by kernel_rfl) rfl)
    (HSQ.out w4.heap.size) (fun k hk => ?hT) (fun A hA => ⟨HD5.out.mono hA, HVB.out.mono hA⟩) (fun y args W' hG => by rw [hG]; rfl)
    (fun O s W' => O w2.heap.size ∧ (∀ k, O k → k < W'.heap.size ∧ ¬ WaT w4.heap.size k) ∧ (∀ k, k < w5.heap.size → O k → k = w2.heap.size) ∧ TzT W' ∧ ∃ v, W'.cell? ⟨w2.heap.size, 0, none⟩ = some v ∧ W'.frozen? ⟨w2.heap.size, 0, none⟩ = false ∧ Fl (fun k => O k ∧ w5.heap.size ≤ k) w5.heap.size W' v (s.map fun y => toI y.1)) (fun _ _ _ => False) (fun k => k = w2.heap.size) ?hC ?h0 ?round ?done (fun _ _ _ _ _ h => h.elim))
  case hT =>
    have := HS5.out
    have := HD5.out.lt
    rcases hk with rfl | rfl <;> omega
  case h0 =>
    refine ⟨rfl, fun k hk => ?_, fun k _ h => h, HT5.out, _, c5, f5, Fl.nil _ _ _⟩
    have := HLB.out
    have := HS5.out
    rw [hk]
    exact ⟨by omega, fun e => by rcases e with e | e <;> omega⟩
  case hC =>
    intro d
    refine ⟨?_, ?_, ?_, ?_⟩
    · rintro O s A ⟨_, h2, _⟩; exact h2
    · rintro O A h; exact h.elim
    · rintro O s A B ⟨h1, h2, h3, h4, v, h5, h6, h7⟩ hk
      have z1 := HLB.out
      have z2 := HS5.out
      have hlt := World.block_lt_of_cell? A _ h5
      exact ⟨h1, fun k ho => ⟨Nat.lt_of_lt_of_le (h2 k ho).1 hk.size, (h2 k ho).2⟩, h3, h4.keeps hk (fun e => by omega), v, hk.cell h5 (fun e => e.2 h1), (hk.frozen (p := ⟨w2.heap.size, 0, none⟩) hlt (fun e => e.2 h1)).trans h6, h7.keeps hk (fun k ho hx => hx.2 ho.1)⟩
    · rintro O A B h; exact h.elim
  case round =>
    rintro l2 O s y args W1 hl2 ⟨rec, hrec⟩ ⟨h1, h2, h3, h4, v, h5, h6, h7⟩ hOl _ hOm hpre hG hsz
    have hy := hpre.subset (show y ∈ s ++ [y] by simp)
    have hyo := HOK.out y hy
    obtain rfl : args = #[.agg (wyL (y.1.map e2) (mkO y.2)).toArray] := hG
    have hsl : s.length ≤ 553648128 := by
      have k1 := hpre.length_le
      rw [List.length_append, List.length_singleton] at k1
      have k2 := HLEN.out
      omega
    have HN := hide (fun W (hT : TzT W) => numbersN hyo W hT)
    have hW13 : (y.1.map e2).length ≤ 13 := by rw [List.length_map]; exact hyo.le
    have HSN : Hid ((s ++ [y]).map (fun y => toI y.1) = s.map (fun y => toI y.1) ++ [toI y.1]) := hide (by simp)
    have HSL : Hid ((s.map fun y => toI y.1).length = s.length) := hide (by simp)
    have HYL : Hid ((toI y.1).length = y.1.length) := hide (toI_len _)
    obtain ⟨WL, hWL⟩ : ∃ WL, wyL (y.1.map e2) (mkO y.2) = WL := ⟨_, rfl⟩
    have HWl : Hid (WL.length = 15) := hide (by rw [← hWL]; exact wyL_len hW13)
    have HW1 : Hid (∀ u ∈ WL, u.oneCell' = true) := hide (by rw [← hWL]; exact wyL_one _ _)
    rw [hWL] at HN ⊢
    obtain ⟨L, hL⟩ : ∃ L, s.map (fun y => toI y.1) = L := ⟨_, rfl⟩
    rw [hL] at h7 HSN HSL
    obtain ⟨q, hq⟩ : ∃ q, toI y.1 = q := ⟨_, rfl⟩
    rw [hq] at HN HSN HYL
    obtain ⟨m, hm⟩ : ∃ m, y.1.length = m := ⟨_, rfl⟩
    rw [hm] at HN HYL
    have HH := hide (And.intro h1 (And.intro h2 (And.intro h3 (And.intro h4 (And.intro h5 (And.intro h6 h7))))))
    have HOL := hide hOl
    have HL2 := hide hl2
    have HSZ := hide hsz
    clear h1 h2 h3 h4 h5 h6 h7 hOl hl2 hsz hrec hpre hy hyo hW13 hWL hL hq hm hOm c5 f5
    have HVN := hide (Vb.new W1 65 [.int .u64 0, .int .u64 0, .int .u64 0, .int .u64 0, .int .u64 0, .int .u64 0, .int .u64 0, .int .u64 0, .int .u64 0, .int .u64 0, .int .u64 0, .int .u64 0, .int .u64 0, .int .i64 0, .int .u64 0])
    gi_wp2_with (refine wpListIn_store_vb rfl 65 (.tmp 5) (.tmp 12) rfl W1.heap.size WL _ rfl rfl HVN.out (by rw [HWl.out]; rfl) (by rw [HWl.out]; exact size65) HW1.out ?_; intro W2 hV2 hK2)
    have B12 : Below W1.heap.size W1 W2 := (((Keeps.refl (fun k => k = W1.heap.size) W1).alloc _).trans hK2).below (Nat.le_refl _) (fun k hk e => by omega)
    refine ⟨B12, ?_⟩
    intro W3 hk3
    have z1 := HLB.out
    have z2 := HS5.out
    have z3 := HSZ.out
    have z4 := HL2.out
    have z5 := B12.size
    have z6 : w5.heap.size + 2 ≤ W3.heap.size := by have := hk3.size; omega
    obtain ⟨h1, h2, h3, h4, h5, h6, h7⟩ := HH.out
    have K13 : Keeps (fun k => k = l2) W1 W3 := (Keeps.of_all B12).trans hk3
    have HV3 : Hid (Vb W3 W1.heap.size 65 WL) := hide (hV2.keeps hk3 (by omega))
    have HT3 := hide (h4.keeps K13 (by omega))
    have c3 := K13.cell h5 (fun e => by dsimp only at e; omega)
    have f3 := (K13.frozen (p := ⟨w2.heap.size, 0, none⟩) (World.block_lt_of_cell? W1 _ h5) (fun e => by dsimp only at e; omega)).trans h6
    have F3 := h7.keeps K13 (fun k ho e => HOL.out (e ▸ ho.1))
    have HX := hide (And.intro c3 (And.intro f3 F3))
    have HO1 := hide h1
    have HO2 : Hid (∀ k, O k → k < W1.heap.size ∧ ¬ WaT w4.heap.size k) := hide h2
    have HO3 := hide h3
    have HZ6 := hide z6
    have HZW : Hid (W1.heap.size < W3.heap.size ∧ w5.heap.size ≤ W1.heap.size ∧ W1.heap.size ≤ W3.heap.size) := hide ⟨HV3.out.lt, by omega, Nat.le_of_lt HV3.out.lt⟩
    clear h1 h2 h3 h4 h5 h6 h7 HH z1 z2 z3 z4 z5 z6 K13 hk3 B12 hV2 hK2 c3 f3 F3 HVN
    gi_wp2
    refine wp_region_round (S := fun W4 => Vb W4 W1.heap.size 65 WL) (by kernel_rfl) (by kernel_rfl) (by rintro ⟨_, _, h⟩; exact h) ?_
    have SW : Vb W3.drew W1.heap.size 65 WL := HV3.out.mono (drewN_below _ _ 1)
    have B3d : Below W3.heap.size W3 W3.drew := drewN_below _ _ 1
    refine wpAnyH_take (i := 1) (v := .agg WL.toArray) rfl (by kernel_rfl) (by kernel_rfl) (by kernel_rfl) (fun _ _ _ h => h) (yieldsIf_load_mid (by rfl) 65 _ rfl W1.heap.size 0 (by rfl) WL _ (fun W hW => hW.range) Tryd.underlying65 rfl (by rw [HWl.out]; exact size65)) SW ?_
    go_simp
    refine wpAnyH_ready (rs := [0, 2]) (by kernel_rfl) (by simp) ?_
    refine AllReadyH.cons rfl (fun K1 hK1 => ?_) (AllReadyH.cons rfl (fun K1 hK1 => ?_) AllReadyH.nil)
    · have c00 := (B3d.cell (p := ⟨w2.heap.size, 0, none⟩) (World.block_lt_of_cell? W3 _ HX.out.1)).trans HX.out.1
      go_simp
      refine hK1.out _ _ SW (fun SW => ?_)
      clear hK1 K1 c00
      go_simp
      refine wpAnyH_ready (rs := [2]) (by kernel_rfl) (by simp) ?_
      refine AllReadyH.cons rfl (fun K1 hK1 => ?_) AllReadyH.nil
      go_simp
      refine (HN.out _ (HT3.out.mono B3d)).mono ?_
      rintro r W5 ⟨ra, rc, rfl, hO5, hb5⟩
      have B5 := B3d.trans (hb5.mono B3d.size)
      have HO5 := hide hO5
      refine hK1.out _ _ (HV3.out.mono B5) (fun SW => ?_)
      clear hK1 K1 hb5 hO5
      go_simp
      refine wpAnyH_ready (rs := [3]) (by kernel_rfl) (by simp) ?_
      refine AllReadyH.cons rfl (fun K1 hK1 => ?_) AllReadyH.nil
      go_simp
      have hb6 : Below W5.heap.size W5 (W5.alloc (.cells #[.slice ra m rc] 22)) := (Below.refl _ _).alloc (Nat.le_refl _) _
      have B6 := B5.trans (hb6.mono B5.size)
      have c6 : (W5.alloc (.cells #[.slice ra m rc] 22)).cell? ⟨W5.heap.size, 0, none⟩ = some (.slice ra m rc) := new_cell W5 _ 22
      refine hK1.out _ _ (HV3.out.mono B6) (fun SW => ?_)
      clear hK1 K1
      generalize hW6 : W5.alloc (.cells #[.slice ra m rc] 22) = W6 at *
      go_simp
      refine wpAnyH_ready (rs := [4]) (by kernel_rfl) (by simp) ?_
      refine AllReadyH.cons rfl (fun K1 hK1 => ?_) AllReadyH.nil
      have hI6 : Ir (fun k => O k ∧ w5.heap.size ≤ k ∨ W3.heap.size ≤ k) W6 ra q.length rc q := by
        have h0 := Ir.of_own (O := fun k => O k ∧ w5.heap.size ≤ k ∨ W3.heap.size ≤ k) HO5.out (fun k hk _ => Or.inr (by have : W3.drew.heap.size = W3.heap.size := rfl; omega))
        rw [HYL.out]
        exact h0.keeps (X := fun _ => False) (Keeps.of_all hb6) (fun _ _ e => e)
      have hR6 : Fr (fun k => O k ∧ w5.heap.size ≤ k ∨ W3.heap.size ≤ k) W6 (some ⟨W5.heap.size, 0, none⟩) 1 1 [q] := Fr.one (a := ra) (c := rc) (by rw [HYL.out]; exact c6) hI6
      have hF6 : Fl (fun k => O k ∧ w5.heap.size ≤ k ∨ W3.heap.size ≤ k) w5.heap.size W6 v L := (HX.out.2.2.mono B6).wide (fun k _ h => Or.inl h)
      have hs6 := B6.size
      rw [if_pos (by rfl)]
      refine wp_append_fr W6 _ _ rfl w5.heap.size v L rfl hF6 (some ⟨W5.heap.size, 0, none⟩) 1 1 [q] rfl hR6 (by rw [HSL.out]; omega) (by have := HZ6.out; omega) ?_
      intro v7 W7 hF7 hv7 hg7
      have hlt7 : w2.heap.size < W6.heap.size := by have := HLB.out; have := HS5.out; have := HZ6.out; omega
      have hnb : ∀ k, k < w5.heap.size → ¬ v.ownBlock = some k := fun k hk e => by
        obtain ⟨vs, ho, _⟩ := hF6
        have := (ho.lt k e).1; omega
      have K67 : Keeps (fun k => v.ownBlock = some k) W6 W7 := keeps_grown hg7
      have K37 : Keeps (fun k => v.ownBlock = some k) W3 W7 := (Keeps.of_all B6).trans K67
      have hlb5 : w2.heap.size < w5.heap.size := by have := HLB.out; have := HS5.out; omega
      have c7 := K37.cell HX.out.1 (hnb _ hlb5)
      have f7 := (K37.frozen (p := ⟨w2.heap.size, 0, none⟩) (World.block_lt_of_cell? W3 _ HX.out.1) (hnb _ hlb5)).trans HX.out.2.1
      have V7 : Vb W7 W1.heap.size 65 WL := HV3.out.keeps K37 (fun e => by
        obtain ⟨vs, ho, _, ho3⟩ := HX.out.2.2
        have := (HO2.out _ (ho3 _ e).1).1; omega)
      have s7 := K37.size
      have HF7 : Hid (Fl (fun k => (O k ∨ (W3.heap.size ≤ k ∧ k < W7.heap.size)) ∧ w5.heap.size ≤ k) w5.heap.size W7 v7 (L ++ [q])) := hide (hF7 _ (fun k hk h => by
        rcases h with h | h
        · exact ⟨Or.inl h.1, h.2⟩
        · exact ⟨Or.inr ⟨by have := HZW.out; omega, Nat.lt_of_lt_of_le hk K67.size⟩, by have := HZ6.out; omega⟩) (fun k hk hk2 => ⟨Or.inr ⟨by have := HZW.out; omega, hk2⟩, by have := HZ6.out; omega⟩))
      have HKO : Hid (Keeps O W3 W7) := hide (K37.mono (fun k hk e => by
        obtain ⟨vs, ho, _, ho3⟩ := HX.out.2.2
        exact (ho3 _ e).1))
      refine hK1.out _ _ V7 (fun SW => ?_)
      have HT7 := hide (HT3.out.keeps K37 (hnb 1 (by have := HLB.out; have := HS5.out; omega)))
      clear hK1 K1 hF7 hg7 K67 K37 hF6 hR6 hI6 hs6 hlt7 hnb hb6 hW6 c6 B6 B5 V7
      go_simp
      refine wpAnyH_ready (rs := [5]) (by kernel_rfl) (by simp) ?_
      refine AllReadyH.cons rfl (fun K1 hK1 => ?_) AllReadyH.nil
      obtain ⟨a7, c7', rfl⟩ := hv7
      go_simp
      have hO5b := HLB.out
      have hO5c := HS5.out
      have K8 : Keeps (fun k => k = w2.heap.size) W7 (W7.setCell ⟨w2.heap.size, 0, none⟩ (.slice a7 (L.length + 1) c7')) := Keeps.set1 W7 w2.heap.size 0 _
      refine hK1.out _ _ (SW.keeps K8 (by have := HZW.out; omega)) (fun SW => ?_)
      have HC8 : Hid ((W7.setCell ⟨w2.heap.size, 0, none⟩ (.slice a7 (L.length + 1) c7')).cell? ⟨w2.heap.size, 0, none⟩ = some (.slice a7 (L.length + 1) c7')) := hide (World.cell?_setCell_same _ _ _ c7)
      have HF8 : Hid ((W7.setCell ⟨w2.heap.size, 0, none⟩ (.slice a7 (L.length + 1) c7')).frozen? ⟨w2.heap.size, 0, none⟩ = false) := hide (by rw [World.frozen?_setCell]; exact f7)
      have HFF := hide (HF7.out.keeps K8 (fun k ho e => by omega))
      have HKF : Hid (Keeps O W3 (W7.setCell ⟨w2.heap.size, 0, none⟩ (.slice a7 (L.length + 1) c7'))) := hide (HKO.out.trans (K8.mono (fun k _ e => e ▸ HO1.out)))
      have HTF := hide (HT7.out.keeps K8 (by omega))
      have s8 := K8.size
      generalize W7.setCell ⟨w2.heap.size, 0, none⟩ (.slice a7 (L.length + 1) c7') = W8 at *
      clear hK1 K1 c7 f7 K8 hO5b hO5c
      go_simp
      refine wpAnyH_done (by kernel_rfl) ?_ _
      clear SW
      gi_wp2
      refine ⟨HKF.out, fun k => O k ∨ (W3.heap.size ≤ k ∧ k < W7.heap.size), ?_, Or.inl HO1.out, ?_, ?_, HTF.out, _, HC8.out, HF8.out, ?_⟩
      · intro k hk h
        rcases h with h | h
        · exact h
        · omega
      · intro k h
        have hz := HZW.out
        have hz2 := HS5.out
        rcases h with h | h
        · exact ⟨by have := (HO2.out k h).1; omega, (HO2.out k h).2⟩
        · exact ⟨by omega, fun e => by rcases e with e | e <;> omega⟩
      · intro k hk h
        rcases h with h | h
        · exact HO3.out k hk h
        · have := HZW.out; omega
      · rw [HSN.out]; exact HFF.out
    · go_simp
      refine (HN.out _ (HT3.out.mono B3d)).mono ?_
      rintro r W5 ⟨ra, rc, rfl, hO5, hb5⟩
      have B5 := B3d.trans (hb5.mono B3d.size)
      have HO5 := hide hO5
      refine hK1.out _ _ (HV3.out.mono B5) (fun SW => ?_)
      clear hK1 K1 hb5 hO5
      go_simp
      refine wpAnyH_ready (rs := [0, 3]) (by kernel_rfl) (by simp) ?_
      refine AllReadyH.cons rfl (fun K1 hK1 => ?_) (AllReadyH.cons rfl (fun K1 hK1 => ?_) AllReadyH.nil)
      · have c00 := (B5.cell (p := ⟨w2.heap.size, 0, none⟩) (World.block_lt_of_cell? W3 _ HX.out.1)).trans HX.out.1
        go_simp
        refine hK1.out _ _ SW (fun SW => ?_)
        clear hK1 K1 c00
        go_simp
        refine wpAnyH_ready (rs := [3]) (by kernel_rfl) (by simp) ?_
        refine AllReadyH.cons rfl (fun K1 hK1 => ?_) AllReadyH.nil
        go_simp
        have hb6 : Below W5.heap.size W5 (W5.alloc (.cells #[.slice ra m rc] 22)) := (Below.refl _ _).alloc (Nat.le_refl _) _
        have B6 := B5.trans (hb6.mono B5.size)
        have c6 : (W5.alloc (.cells #[.slice ra m rc] 22)).cell? ⟨W5.heap.size, 0, none⟩ = some (.slice ra m rc) := new_cell W5 _ 22
        refine hK1.out _ _ (HV3.out.mono B6) (fun SW => ?_)
        clear hK1 K1
        generalize hW6 : W5.alloc (.cells #[.slice ra m rc] 22) = W6 at *
        go_simp
        refine wpAnyH_ready (rs := [4]) (by kernel_rfl) (by simp) ?_
        refine AllReadyH.cons rfl (fun K1 hK1 => ?_) AllReadyH.nil
        have hI6 : Ir (fun k => O k ∧ w5.heap.size ≤ k ∨ W3.heap.size ≤ k) W6 ra q.length rc q := by
          have h0 := Ir.of_own (O := fun k => O k ∧ w5.heap.size ≤ k ∨ W3.heap.size ≤ k) HO5.out (fun k hk _ => Or.inr (by have : W3.drew.heap.size = W3.heap.size := rfl; omega))
          rw [HYL.out]
          exact h0.keeps (X := fun _ => False) (Keeps.of_all hb6) (fun _ _ e => e)
        have hR6 : Fr (fun k => O k ∧ w5.heap.size ≤ k ∨ W3.heap.size ≤ k) W6 (some ⟨W5.heap.size, 0, none⟩) 1 1 [q] := Fr.one (a := ra) (c := rc) (by rw [HYL.out]; exact c6) hI6
        have hF6 : Fl (fun k => O k ∧ w5.heap.size ≤ k ∨ W3.heap.size ≤ k) w5.heap.size W6 v L := (HX.out.2.2.mono B6).wide (fun k _ h => Or.inl h)
        have hs6 := B6.size
        rw [if_pos (by rfl)]
        refine wp_append_fr W6 _ _ rfl w5.heap.size v L rfl hF6 (some ⟨W5.heap.size, 0, none⟩) 1 1 [q] rfl hR6 (by rw [HSL.out]; omega) (by have := HZ6.out; omega) ?_
        intro v7 W7 hF7 hv7 hg7
        have hlt7 : w2.heap.size < W6.heap.size := by have := HLB.out; have := HS5.out; have := HZ6.out; omega
        have hnb : ∀ k, k < w5.heap.size → ¬ v.ownBlock = some k := fun k hk e => by
          obtain ⟨vs, ho, _⟩ := hF6
          have := (ho.lt k e).1; omega
        have K67 : Keeps (fun k => v.ownBlock = some k) W6 W7 := keeps_grown hg7
        have K37 : Keeps (fun k => v.ownBlock = some k) W3 W7 := (Keeps.of_all B6).trans K67
        have hlb5 : w2.heap.size < w5.heap.size := by have := HLB.out; have := HS5.out; omega
        have c7 := K37.cell HX.out.1 (hnb _ hlb5)
        have f7 := (K37.frozen (p := ⟨w2.heap.size, 0, none⟩) (World.block_lt_of_cell? W3 _ HX.out.1) (hnb _ hlb5)).trans HX.out.2.1
        have V7 : Vb W7 W1.heap.size 65 WL := HV3.out.keeps K37 (fun e => by
          obtain ⟨vs, ho, _, ho3⟩ := HX.out.2.2
          have := (HO2.out _ (ho3 _ e).1).1; omega)
        have s7 := K37.size
        have HF7 : Hid (Fl (fun k => (O k ∨ (W3.heap.size ≤ k ∧ k < W7.heap.size)) ∧ w5.heap.size ≤ k) w5.heap.size W7 v7 (L ++ [q])) := hide (hF7 _ (fun k hk h => by
          rcases h with h | h
          · exact ⟨Or.inl h.1, h.2⟩
          · exact ⟨Or.inr ⟨by have := HZW.out; omega, Nat.lt_of_lt_of_le hk K67.size⟩, by have := HZ6.out; omega⟩) (fun k hk hk2 => ⟨Or.inr ⟨by have := HZW.out; omega, hk2⟩, by have := HZ6.out; omega⟩))
        have HKO : Hid (Keeps O W3 W7) := hide (K37.mono (fun k hk e => by
          obtain ⟨vs, ho, _, ho3⟩ := HX.out.2.2
          exact (ho3 _ e).1))
        refine hK1.out _ _ V7 (fun SW => ?_)
        have HT7 := hide (HT3.out.keeps K37 (hnb 1 (by have := HLB.out; have := HS5.out; omega)))
        clear hK1 K1 hF7 hg7 K67 K37 hF6 hR6 hI6 hs6 hlt7 hnb hb6 hW6 c6 B6 B5 V7
        go_simp
        refine wpAnyH_ready (rs := [5]) (by kernel_rfl) (by simp) ?_
        refine AllReadyH.cons rfl (fun K1 hK1 => ?_) AllReadyH.nil
        obtain ⟨a7, c7', rfl⟩ := hv7
        go_simp
        have hO5b := HLB.out
        have hO5c := HS5.out
        have K8 : Keeps (fun k => k = w2.heap.size) W7 (W7.setCell ⟨w2.heap.size, 0, none⟩ (.slice a7 (L.length + 1) c7')) := Keeps.set1 W7 w2.heap.size 0 _
        refine hK1.out _ _ (SW.keeps K8 (by have := HZW.out; omega)) (fun SW => ?_)
        have HC8 : Hid ((W7.setCell ⟨w2.heap.size, 0, none⟩ (.slice a7 (L.length + 1) c7')).cell? ⟨w2.heap.size, 0, none⟩ = some (.slice a7 (L.length + 1) c7')) := hide (World.cell?_setCell_same _ _ _ c7)
        have HF8 : Hid ((W7.setCell ⟨w2.heap.size, 0, none⟩ (.slice a7 (L.length + 1) c7')).frozen? ⟨w2.heap.size, 0, none⟩ = false) := hide (by rw [World.frozen?_setCell]; exact f7)
        have HFF := hide (HF7.out.keeps K8 (fun k ho e => by omega))
        have HKF : Hid (Keeps O W3 (W7.setCell ⟨w2.heap.size, 0, none⟩ (.slice a7 (L.length + 1) c7'))) := hide (HKO.out.trans (K8.mono (fun k _ e => e ▸ HO1.out)))
        have HTF := hide (HT7.out.keeps K8 (by omega))
        have s8 := K8.size
        generalize W7.setCell ⟨w2.heap.size, 0, none⟩ (.slice a7 (L.length + 1) c7') = W8 at *
        clear hK1 K1 c7 f7 K8 hO5b hO5c
        go_simp
        refine wpAnyH_done (by kernel_rfl) ?_ _
        clear SW
        gi_wp2
        refine ⟨HKF.out, fun k => O k ∨ (W3.heap.size ≤ k ∧ k < W7.heap.size), ?_, Or.inl HO1.out, ?_, ?_, HTF.out, _, HC8.out, HF8.out, ?_⟩
        · intro k hk h
          rcases h with h | h
          · exact h
          · omega
        · intro k h
          have hz := HZW.out
          have hz2 := HS5.out
          rcases h with h | h
          · exact ⟨by have := (HO2.out k h).1; omega, (HO2.out k h).2⟩
          · exact ⟨by omega, fun e => by rcases e with e | e <;> omega⟩
        · intro k hk h
          rcases h with h | h
          · exact HO3.out k hk h
          · have := HZW.out; omega
        · rw [HSN.out]; exact HFF.out
      · go_simp
        have hb6 : Below W5.heap.size W5 (W5.alloc (.cells #[.slice ra m rc] 22)) := (Below.refl _ _).alloc (Nat.le_refl _) _
        have B6 := B5.trans (hb6.mono B5.size)
        have c6 : (W5.alloc (.cells #[.slice ra m rc] 22)).cell? ⟨W5.heap.size, 0, none⟩ = some (.slice ra m rc) := new_cell W5 _ 22
        refine hK1.out _ _ (HV3.out.mono B6) (fun SW => ?_)
        clear hK1 K1
        generalize hW6 : W5.alloc (.cells #[.slice ra m rc] 22) = W6 at *
        go_simp
        refine wpAnyH_ready (rs := [0]) (by kernel_rfl) (by simp) ?_
        refine AllReadyH.cons rfl (fun K1 hK1 => ?_) AllReadyH.nil
        have c00 := (B6.cell (p := ⟨w2.heap.size, 0, none⟩) (World.block_lt_of_cell? W3 _ HX.out.1)).trans HX.out.1
        go_simp
        refine hK1.out _ _ SW (fun SW => ?_)
        clear hK1 K1 c00
        go_simp
        refine wpAnyH_ready (rs := [4]) (by kernel_rfl) (by simp) ?_
        refine AllReadyH.cons rfl (fun K1 hK1 => ?_) AllReadyH.nil
        have hI6 : Ir (fun k => O k ∧ w5.heap.size ≤ k ∨ W3.heap.size ≤ k) W6 ra q.length rc q := by
          have h0 := Ir.of_own (O := fun k => O k ∧ w5.heap.size ≤ k ∨ W3.heap.size ≤ k) HO5.out (fun k hk _ => Or.inr (by have : W3.drew.heap.size = W3.heap.size := rfl; omega))
          rw [HYL.out]
          exact h0.keeps (X := fun _ => False) (Keeps.of_all hb6) (fun _ _ e => e)
        have hR6 : Fr (fun k => O k ∧ w5.heap.size ≤ k ∨ W3.heap.size ≤ k) W6 (some ⟨W5.heap.size, 0, none⟩) 1 1 [q] := Fr.one (a := ra) (c := rc) (by rw [HYL.out]; exact c6) hI6
        have hF6 : Fl (fun k => O k ∧ w5.heap.size ≤ k ∨ W3.heap.size ≤ k) w5.heap.size W6 v L := (HX.out.2.2.mono B6).wide (fun k _ h => Or.inl h)
        have hs6 := B6.size
        rw [if_pos (by rfl)]
        refine wp_append_fr W6 _ _ rfl w5.heap.size v L rfl hF6 (some ⟨W5.heap.size, 0, none⟩) 1 1 [q] rfl hR6 (by rw [HSL.out]; omega) (by have := HZ6.out; omega) ?_
        intro v7 W7 hF7 hv7 hg7
        have hlt7 : w2.heap.size < W6.heap.size := by have := HLB.out; have := HS5.out; have := HZ6.out; omega
        have hnb : ∀ k, k < w5.heap.size → ¬ v.ownBlock = some k := fun k hk e => by
          obtain ⟨vs, ho, _⟩ := hF6
          have := (ho.lt k e).1; omega
        have K67 : Keeps (fun k => v.ownBlock = some k) W6 W7 := keeps_grown hg7
        have K37 : Keeps (fun k => v.ownBlock = some k) W3 W7 := (Keeps.of_all B6).trans K67
        have hlb5 : w2.heap.size < w5.heap.size := by have := HLB.out; have := HS5.out; omega
        have c7 := K37.cell HX.out.1 (hnb _ hlb5)
        have f7 := (K37.frozen (p := ⟨w2.heap.size, 0, none⟩) (World.block_lt_of_cell? W3 _ HX.out.1) (hnb _ hlb5)).trans HX.out.2.1
        have V7 : Vb W7 W1.heap.size 65 WL := HV3.out.keeps K37 (fun e => by
          obtain ⟨vs, ho, _, ho3⟩ := HX.out.2.2
          have := (HO2.out _ (ho3 _ e).1).1; omega)
        have s7 := K37.size
        have HF7 : Hid (Fl (fun k => (O k ∨ (W3.heap.size ≤ k ∧ k < W7.heap.size)) ∧ w5.heap.size ≤ k) w5.heap.size W7 v7 (L ++ [q])) := hide (hF7 _ (fun k hk h => by
          rcases h with h | h
          · exact ⟨Or.inl h.1, h.2⟩
          · exact ⟨Or.inr ⟨by have := HZW.out; omega, Nat.lt_of_lt_of_le hk K67.size⟩, by have := HZ6.out; omega⟩) (fun k hk hk2 => ⟨Or.inr ⟨by have := HZW.out; omega, hk2⟩, by have := HZ6.out; omega⟩))
        have HKO : Hid (Keeps O W3 W7) := hide (K37.mono (fun k hk e => by
          obtain ⟨vs, ho, _, ho3⟩ := HX.out.2.2
          exact (ho3 _ e).1))
        refine hK1.out _ _ V7 (fun SW => ?_)
        have HT7 := hide (HT3.out.keeps K37 (hnb 1 (by have := HLB.out; have := HS5.out; omega)))
        clear hK1 K1 hF7 hg7 K67 K37 hF6 hR6 hI6 hs6 hlt7 hnb hb6 hW6 c6 B6 B5 V7
        go_simp
        refine wpAnyH_ready (rs := [5]) (by kernel_rfl) (by simp) ?_
        refine AllReadyH.cons rfl (fun K1 hK1 => ?_) AllReadyH.nil
        obtain ⟨a7, c7', rfl⟩ := hv7
        go_simp
        have hO5b := HLB.out
        have hO5c := HS5.out
        have K8 : Keeps (fun k => k = w2.heap.size) W7 (W7.setCell ⟨w2.heap.size, 0, none⟩ (.slice a7 (L.length + 1) c7')) := Keeps.set1 W7 w2.heap.size 0 _
        refine hK1.out _ _ (SW.keeps K8 (by have := HZW.out; omega)) (fun SW => ?_)
        have HC8 : Hid ((W7.setCell ⟨w2.heap.size, 0, none⟩ (.slice a7 (L.length + 1) c7')).cell? ⟨w2.heap.size, 0, none⟩ = some (.slice a7 (L.length + 1) c7')) := hide (World.cell?_setCell_same _ _ _ c7)
        have HF8 : Hid ((W7.setCell ⟨w2.heap.size, 0, none⟩ (.slice a7 (L.length + 1) c7')).frozen? ⟨w2.heap.size, 0, none⟩ = false) := hide (by rw [World.frozen?_setCell]; exact f7)
        have HFF := hide (HF7.out.keeps K8 (fun k ho e => by omega))
        have HKF : Hid (Keeps O W3 (W7.setCell ⟨w2.heap.size, 0, none⟩ (.slice a7 (L.length + 1) c7'))) := hide (HKO.out.trans (K8.mono (fun k _ e => e ▸ HO1.out)))
        have HTF := hide (HT7.out.keeps K8 (by omega))
        have s8 := K8.size
        generalize W7.setCell ⟨w2.heap.size, 0, none⟩ (.slice a7 (L.length + 1) c7') = W8 at *
        clear hK1 K1 c7 f7 K8 hO5b hO5c
        go_simp
        refine wpAnyH_done (by kernel_rfl) ?_ _
        clear SW
        gi_wp2
        refine ⟨HKF.out, fun k => O k ∨ (W3.heap.size ≤ k ∧ k < W7.heap.size), ?_, Or.inl HO1.out, ?_, ?_, HTF.out, _, HC8.out, HF8.out, ?_⟩
        · intro k hk h
          rcases h with h | h
          · exact h
          · omega
        · intro k h
          have hz := HZW.out
          have hz2 := HS5.out
          rcases h with h | h
          · exact ⟨by have := (HO2.out k h).1; omega, (HO2.out k h).2⟩
          · exact ⟨by omega, fun e => by rcases e with e | e <;> omega⟩
        · intro k hk h
          rcases h with h | h
          · exact HO3.out k hk h
          · have := HZW.out; omega
        · rw [HSN.out]; exact HFF.out
  case done =>
    rintro D O W6 hD ⟨h1, h2, h3, h4, v, h5, h6, h7⟩ hk6 hm6 hK
    have z1 := HLB.out
    have z2 := HS5.out
    have z3 := HWW.out
    have hDO : ¬ O D := fun h => by have := hm6 D (by omega) h; omega
    have HF : Hid (Fl (fun k => w.heap.size ≤ k) w.heap.size (W6.putObj D (.deferred none)) v RS) := hide (by
      have k1 := h7.keeps (X := fun k => k = D) (w' := W6.putObj D (.deferred none)) (Keeps.put (X := fun k => k = D) (Keeps.refl _ W6) rfl _) (fun k ho e => hDO (e ▸ ho.1))
      rw [HMV.out]
      exact (k1.wide (fun k _ h => by have := HB5.out.size; omega)).base HB5.out.size)
    have HBF : Hid (Below w.heap.size w (W6.putObj D (.deferred none))) := hide (HB5.out.trans (((hk6.mono (Y := fun k => w.heap.size ≤ k) (fun k _ e => by omega)).put (l := D) (by have := HB5.out.size; omega) _).below HB5.out.size (fun k hk e => by omega)))
    obtain ⟨a7, c7, rfl⟩ := h7.form
    rw [show (List.map (fun y => toI y.1) (wyN Z t)).length = (wyN Z t).length by simp] at h5 HF
    clear h1 h2 h3 h4 h6 h7 hk6 hm6
    go_wp2
    refine ⟨by simp, .inl ⟨_, _, rfl, run_takeDeferred hK, ?_⟩⟩
    refine ⟨_, results_two rfl _ _ rfl rfl, _, rfl, HF.out, HBF.out⟩

end Go.Proofs.YtnbaangnpoblfaaDoor
