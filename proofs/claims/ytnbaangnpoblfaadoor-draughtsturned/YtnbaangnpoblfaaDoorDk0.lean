/-
  How many games of so many moves there are; the program's count, walked down to the last move. No conditions beyond those that each theorem bears.
-/
import Derived.Test.YtnbaangnpoblfaaDoorMg
namespace Go.Proofs.YtnbaangnpoblfaaDoor
open Go.RowKit Go.Shelf

/-- The count; sums wrap around. -/
def cntR : Nat → List Int → Nat → Int
  | 0, _, _ => 1
  | f + 1, Z, t => (wyN Z t).foldl (fun s y => IntKind.i64.wrap (s + cntR f (doR Z y.1) (3 - t))) 0
def cntK (f : Nat) (Z : List Int) (t k : Nat) : Int := ((wyN Z t).take k).foldl (fun s y => IntKind.i64.wrap (s + cntR f (doR Z y.1) (3 - t))) 0
theorem cntK_succ (f : Nat) (Z : List Int) (t k : Nat) {y : List Nat × List Nat} (hk : (wyN Z t)[k]? = some y) : cntK f Z t (k + 1) = IntKind.i64.wrap (cntK f Z t k + cntR f (doR Z y.1) (3 - t)) := by
  obtain ⟨hl, he⟩ := List.getElem?_eq_some_iff.1 hk
  unfold cntK
  rw [List.take_succ_eq_append_getElem hl, List.foldl_append, he]
  rfl

end Go.Proofs.YtnbaangnpoblfaaDoor

namespace Go.Proofs.YtnbaangnpoblfaaDoor
open Go.RowKit Go.Shelf

attribute [local go_sem] Oper.semAt_some wide_fn wide_fn0 wide_depth
attribute [local irreducible] wyN sn toI wyL bdL afN doR cntR mkO

set_option maxRecDepth 100000 in
set_option maxHeartbeats 8000000 in
theorem count_succ (f : Nat) (h1 : 1 ≤ f) (h5 : f ≤ 5) (ih : ∀ Z t, Mb Z (t : Nat) → ∀ w, DTab w → TzT w → Calls Tryd.prog 49 #[.agg (bdL (sn Z t)).toArray, .int .i64 (f : Nat)] w fun e w' => e = .returned (.int .i64 (cntR f Z t)) ∧ Below w.heap.size w w')
    (Z : List Int) (t : Nat) (hM : Mb Z (t : Nat)) (w : World) (hD : DTab w) (hT : TzT w) :
    Calls Tryd.prog 49 #[.agg (bdL (sn Z t)).toArray, .int .i64 ((f + 1 : Nat))] w fun e w' => e = .returned (.int .i64 (cntR (f + 1) Z t)) ∧ Below w.heap.size w w' := by
  obtain ⟨w1, hw1⟩ : ∃ w1, (w.alloc (.cells (bdL (sn Z t)).toArray 60)).alloc (.cells #[.int .i64 ((f + 1 : Nat))] 3) = w1 := ⟨_, rfl⟩
  have HB1 : Hid (Below w.heap.size w w1) := hide (by rw [← hw1]; exact ((Below.refl _ _).alloc (Nat.le_refl _) _).alloc (by simp) _)
  have V1 : Vb w1 w.heap.size 60 (bdL (sn Z t)) := by rw [← hw1]; exact (Vb.new _ _ _).old _
  have L1 : Vb w1 (w.heap.size + 1) 3 [.int .i64 ((f + 1 : Nat))] := by
    rw [← hw1]
    have := Vb.new (w.alloc (.cells (bdL (sn Z t)).toArray 60)) 3 [.int .i64 ((f + 1 : Nat))]
    rw [World.size_alloc] at this
    exact this
  have HSQ := hide (fun bb => waysN_o hM bb)
  have HOK := hide (fun y (hy : y ∈ wyN Z t) => wyN_ok hM hy)
  have HAF := hide (fun y (hy : y ∈ wyN Z t) W => afterN hM (wyN_ok hM hy) W)
  have HIH := hide (fun y (hy : y ∈ wyN Z t) W hD hT => by
    have := ih (doR Z y.1) (3 - t) (Mb_doR hM hy) W hD hT
    rw [sn_doR hM hy] at this
    exact this)
  have HE : Hid ((wyN Z t).foldl (fun s y => IntKind.i64.wrap (s + cntR f (doR Z y.1) (3 - t))) 0 = cntR (f + 1) Z t) := hide (by rw [cntR])
  have HBL : Hid ((bdL (sn Z t)).length = 4) := hide (by unfold bdL; rfl)
  have l0 := L1.cell (i := 0) rfl
  have HD1 := hide (hD.mono HB1.out)
  have HT1 := hide (hT.mono HB1.out)
  have HL1 := hide L1
  have e0 : (((f + 1 : Nat) : Int) == 0) = false := by rw [beq_eq_false_iff_ne]; omega
  have e1 : (((f + 1 : Nat) : Int) == 1) = false := by rw [beq_eq_false_iff_ne]; omega
  have em : ((f + 1 : Nat) : Int) - 1 = ((f : Nat) : Int) := by omega
  have hF6 : f + 1 ≤ 6 := by omega
  clear ih hM hD hT L1
  generalize f + 1 = F at *
  obtain ⟨w2, hw2⟩ : ∃ w2, w1.alloc (.cells #[.int .i64 0] 3) = w2 := ⟨_, rfl⟩
  have B12 : Below w1.heap.size w1 w2 := by rw [← hw2]; exact (Below.refl _ _).alloc (Nat.le_refl _) _
  have N2 : Vb w2 w1.heap.size 3 [.int .i64 0] := by rw [← hw2]; exact Vb.new _ _ _
  have n0 := N2.cell (i := 0) rfl
  have fn0 := N2.frozen 0
  obtain ⟨w3, hw3⟩ : ∃ w3, w2.setCell ⟨w1.heap.size, 0, none⟩ (.int .i64 0) = w3 := ⟨_, rfl⟩
  have N3 : Vb w3 w1.heap.size 3 [.int .i64 0] := by rw [← hw3]; exact N2.set 0 _
  have B13 : Below w1.heap.size w1 w3 := by rw [← hw3]; exact B12.setCell (p := ⟨w1.heap.size, 0, none⟩) (Nat.le_refl _) _
  have V3 : Vb w3 w.heap.size 60 (bdL (sn Z t)) := V1.mono B13
  have HB3 : Hid (Below w.heap.size w w3) := hide (HB1.out.trans (B13.mono HB1.out.size))
  have HN3 := hide N3
  have HL3 := hide (HL1.out.mono B13)
  have HD3 := hide (HD1.out.mono B13)
  have HT3 := hide (HT1.out.mono B13)
  have HV3 := hide V3
  have HLT : Hid (w.heap.size + 1 < w1.heap.size ∧ w1.heap.size < w3.heap.size ∧ 1 < w1.heap.size) := hide ⟨HL1.out.lt, N3.lt, HT1.out.lt⟩
  clear B12 B13 N2 N3 HB1 HL1 HD1 HT1 V1
  refine (callsIn_wide (n := 3)).1 ?_
  refine callsIn_of_wp_marks Tryd.func49 rfl trivial ?_ rfl
  simp only [Tryd.ntmps49, List.size_toArray, List.length_cons, List.length_nil, Nat.reduceAdd, Nat.reduceSub, Array.replicate_succ, Array.replicate_zero, List.push_toArray, List.append_toArray, List.nil_append, List.cons_append]
  refine wpIn_wide.2 ?_
  go_upto_region 1 with fail
  clear hw1
  go_upto_region 7 with fail
  clear hw2 hw3 n0 fn0 l0
  go_wp2_with (refine wpList_load_bd rfl (.tmp 2) rfl w.heap.size rfl V3 ?_)
  refine (ways_any (sn Z t) _).mono ?_
  rintro e w5 ⟨rfl, hw5⟩
  have B5 : Below w3.heap.size w3 w5 := by rw [hw5]; exact (Below.refl _ _).alloc (Nat.le_refl _) _
  have HVB : Hid (Vb w5 w3.heap.size 60 (bdL (sn Z t))) := hide (by rw [hw5]; exact Vb.new _ _ _)
  have HS5 : Hid (w5.heap.size = w3.heap.size + 1) := hide (by rw [hw5]; simp)
  have HB5 := hide (HB3.out.trans (B5.mono HB3.out.size))
  have HN5 := hide (HN3.out.mono B5)
  have HL5 := hide (HL3.out.mono B5)
  have HD5 := hide (HD3.out.mono B5)
  have HT5 := hide (HT3.out.mono B5)
  have HV5 := hide (HV3.out.mono B5)
  clear hw5 B5 V3 HB3 HN3 HL3 HD3 HT3 HV3
  obtain ⟨nb0, hnb⟩ : ∃ nb0, w1.heap.size = nb0 := ⟨_, rfl⟩
  rw [hnb] at HN5 HLT ⊢
  clear hnb
  go_wp2_with fail
  refine (wpIn_wide (n := 1)).1 (wp_range_o (gf := 60) (lb := #[.pointer (some ⟨w3.heap.size, 0, none⟩)]) (G := WyN) (xs := wyN Z t) (R := WaR w3.heap.size (sn Z t)) (T := WaT w3.heap.size) (by simp [Act.eval]) (enters_of Tryd.func60 (by kernel_rfl) rfl)
    (HSQ.out w3.heap.size) (fun k hk => ?hT) (fun A hA => ⟨HD5.out.mono hA, HVB.out.mono hA⟩) (fun y args W' hG => by rw [hG]; rfl)
    (fun O s W' => (∀ k, O k → k = nb0) ∧ O nb0 ∧ Keeps (fun k => k = nb0 ∨ w5.heap.size ≤ k) w5 W' ∧ Vb W' nb0 3 [.int .i64 (s.foldl (fun s y => IntKind.i64.wrap (s + cntR f (doR Z y.1) (3 - t))) 0)])
    (fun _ _ _ => False) (fun k => k = nb0) ?hC ?h0 ?round ?done (fun _ _ _ _ _ h => h.elim))
  case hT =>
    have := HS5.out
    have := HD5.out.lt
    rcases hk with rfl | rfl <;> omega
  case h0 => exact ⟨fun k hk => hk, rfl, Keeps.refl _ _, HN5.out⟩
  case hC =>
    intro d
    have z1 := HLT.out
    have z2 := HS5.out
    refine ⟨?_, ?_, ?_, ?_⟩
    · rintro O s A ⟨h1, _, h3, h4⟩ k hk
      obtain rfl := h1 k hk
      exact ⟨h4.lt, fun e => by rcases e with e | e <;> omega⟩
    · rintro O A h; exact h.elim
    · rintro O s A B ⟨h1, h2, h3, h4⟩ hk
      exact ⟨h1, h2, h3.trans (hk.mono (fun k _ e => Or.inr e.1)), h4.keeps hk (fun e => e.2 h2)⟩
    · rintro O A B h; exact h.elim
  case round =>
    rintro l2 O s y args W1 hl2 hrec ⟨h1, h2, h3, h4⟩ hOl _ hOm hpre hG hsz
    have hy := hpre.subset (show y ∈ s ++ [y] by simp)
    have hyo := HOK.out y hy
    obtain rfl : args = #[.agg (wyL (y.1.map e2) (mkO y.2)).toArray] := hG
    have HA := hide (HAF.out y hy)
    have HI := hide (HIH.out y hy)
    have hW13 : (y.1.map e2).length ≤ 13 := by rw [List.length_map]; exact hyo.le
    obtain ⟨WL, hWL⟩ : ∃ WL, wyL (y.1.map e2) (mkO y.2) = WL := ⟨_, rfl⟩
    have HWl : Hid (WL.length = 15) := hide (by rw [← hWL]; exact wyL_len hW13)
    have HW1 : Hid (∀ u ∈ WL, u.oneCell' = true) := hide (by rw [← hWL]; exact wyL_one _ _)
    rw [hWL] at HA ⊢
    have HSN : Hid ((s ++ [y]).foldl (fun s y => IntKind.i64.wrap (s + cntR f (doR Z y.1) (3 - t))) 0 = IntKind.i64.wrap (s.foldl (fun s y => IntKind.i64.wrap (s + cntR f (doR Z y.1) (3 - t))) 0 + cntR f (doR Z y.1) (3 - t))) := hide (by rw [List.foldl_append]; rfl)
    have HH := hide (And.intro h1 (And.intro h2 (And.intro h3 h4)))
    have HL2 : Hid (l2 = w5.heap.size + 1 ∧ w5.heap.size + 2 ≤ W1.heap.size) := hide ⟨hl2, hsz⟩
    clear h1 h2 h3 h4 hOl hl2 hsz hrec hpre hy hyo hW13 hWL hOm
    generalize cntR f (doR Z y.1) (3 - t) = cr at *
    generalize s.foldl (fun s y => IntKind.i64.wrap (s + cntR f (doR Z y.1) (3 - t))) 0 = ck at *
    have HVN := hide (Vb.new W1 65 [.int .u64 0, .int .u64 0, .int .u64 0, .int .u64 0, .int .u64 0, .int .u64 0, .int .u64 0, .int .u64 0, .int .u64 0, .int .u64 0, .int .u64 0, .int .u64 0, .int .u64 0, .int .i64 0, .int .u64 0])
    gi_wp2_with (refine wpListIn_store_vb rfl 65 (.tmp 6) (.tmp 16) rfl W1.heap.size WL _ rfl rfl HVN.out (by rw [HWl.out]; rfl) (by rw [HWl.out]; exact size65) HW1.out ?_; intro W2 hV2 hK2)
    have B12 : Below W1.heap.size W1 W2 := (((Keeps.refl (fun k => k = W1.heap.size) W1).alloc _).trans hK2).below (Nat.le_refl _) (fun k hk e => by omega)
    refine ⟨B12, ?_⟩
    intro W3 hk3
    obtain ⟨h1, h2, h3, h4⟩ := HH.out
    have z := HL2.out
    have z1 := HLT.out
    have z2 := HS5.out
    have zb := B12.size
    have K13 : Keeps (fun k => k = l2) W1 W3 := (Keeps.of_all B12).trans hk3
    have K53 : Keeps (fun k => k = nb0 ∨ w5.heap.size ≤ k) w5 W3 := h3.trans (K13.mono (fun k _ e => by omega))
    have HV3 : Hid (Vb W3 W1.heap.size 65 WL) := hide (hV2.keeps hk3 (by omega))
    have HK53 := hide K53
    have HT3 := hide (HT5.out.keeps K53 (by omega))
    have HD3 := hide (HD5.out.keeps K53 (by omega))
    have HL3 := hide (HL5.out.keeps K53 (by omega))
    have HB3 := hide (HV5.out.keeps K53 (by omega))
    have HN3 : Hid (Vb W3 nb0 3 [.int .i64 ck]) := hide (h4.keeps K13 (by omega))
    have HO1 := hide h1
    have HO2 := hide h2
    have HZZ : Hid (w5.heap.size + 2 ≤ W3.heap.size ∧ W1.heap.size < W3.heap.size ∧ w5.heap.size ≤ W1.heap.size ∧ nb0 < w5.heap.size) := hide ⟨by have := hk3.size; omega, HV3.out.lt, by omega, by omega⟩
    clear h1 h2 h3 h4 HH z z1 z2 zb K13 K53 hk3 B12 hV2 hK2 HVN
    gi_wp2
    refine wp_region_round (S := fun W4 => Keeps (fun k => k = nb0) W3 W4) (by kernel_rfl) (by kernel_rfl) (by rintro ⟨_, _, h⟩; exact h) ?_
    have SW : Keeps (fun k => k = nb0) W3 W3.drew := (Keeps.refl _ W3).drew
    have HZB : Hid (¬ w.heap.size = nb0 ∧ ¬ w.heap.size + 1 = nb0 ∧ ¬ W1.heap.size = nb0 ∧ ¬ (0 : Nat) = nb0 ∧ ¬ (1 : Nat) = nb0) := hide (by have := HLT.out; have := HZZ.out; omega)
    have BD : Below W3.heap.size W3 W3.drew := drewN_below _ _ 1
    generalize W3.drew = wd at *
    have nd := (HN3.out.mono BD).cell (i := 0) rfl
    refine wpAnyH_take (i := 1) (v := .agg (bdL (sn Z t)).toArray) rfl (by kernel_rfl) (by kernel_rfl) (by kernel_rfl) (fun _ _ _ h => h) (yieldsIf_load_mid (by rfl) 60 _ rfl w.heap.size 0 (by rfl) (bdL (sn Z t)) _ (fun W hW => (HB3.out.keeps hW HZB.out.1).range) Tryd.underlying60 rfl (by rw [HBL.out]; exact size60)) SW ?_
    go_simp
    refine wpAnyH_take (i := 2) (v := .agg WL.toArray) rfl (by kernel_rfl) (by kernel_rfl) (by kernel_rfl) (fun _ _ _ h => h) (yieldsIf_load_mid (by rfl) 65 _ rfl W1.heap.size 0 (by rfl) WL _ (fun W hW => (HV3.out.keeps hW HZB.out.2.2.1).range) Tryd.underlying65 rfl (by rw [HWl.out]; exact size65)) SW ?_
    go_simp
    refine wpAnyH_take (i := 4) (v := .int .i64 (F : Nat)) rfl (by kernel_rfl) (by kernel_rfl) (by kernel_rfl) (fun _ _ _ h => h) (Or.inl ⟨by rfl, ?_⟩) SW ?_
    · intro W4 hW4
      have x0 := (HL3.out.keeps hW4 HZB.out.2.1).cell (i := 0) rfl
      go_simp <;> first | done | rfl | (rw [IntKind.wrap_i64]; omega) | omega
    go_simp
    refine wpAnyH_take (i := 5) (v := .int .i64 (f : Nat)) rfl (by kernel_rfl) (by kernel_rfl) (by kernel_rfl) (fun _ _ _ h => h) (Or.inl ⟨by rfl, ?_⟩) SW ?_
    · intro W4 hW4
      go_simp <;> first | done | rfl | (rw [IntKind.wrap_i64]; omega) | omega
    go_simp
    have BC : Below wd.heap.size wd wd := Below.refl _ _
    have fd := (HN3.out.mono BD).frozen 0
    refine wpAnyH_ready (rs := [0, 3]) (by kernel_rfl) (by simp) ?_
    refine AllReadyH.cons rfl (fun K1 hK1 => ?_) (AllReadyH.cons rfl (fun K1 hK1 => ?_) AllReadyH.nil)
    · have nc1 := (BC.cell (p := ⟨nb0, 0, none⟩) (World.block_lt_of_cell? wd _ nd)).trans nd
      go_simp
      refine hK1.out _ _ SW (fun SW => ?_)
      clear hK1 K1 nc1
      go_simp
      refine wpAnyH_ready (rs := [3]) (by kernel_rfl) (by simp) ?_
      refine AllReadyH.cons rfl (fun K1 hK1 => ?_) AllReadyH.nil
      · go_simp
        refine (HA.out _).mono ?_
        rintro r v2 ⟨rfl, hb2⟩
        have BC2 := BC.trans (hb2.mono BC.size)
        refine hK1.out _ _ (SW.trans (Keeps.of_all hb2)) (fun SW => ?_)
        clear hK1 K1 hb2
        go_simp
        refine wpAnyH_ready (rs := [6]) (by kernel_rfl) (by simp) ?_
        refine AllReadyH.cons rfl (fun K1 hK1 => ?_) AllReadyH.nil
        · go_simp
          refine (HI.out _ (HD3.out.keeps SW HZB.out.2.2.2.1) (HT3.out.keeps SW HZB.out.2.2.2.2)).mono ?_
          rintro r v3 ⟨rfl, hb3⟩
          have BC3 := BC2.trans (hb3.mono BC2.size)
          refine hK1.out _ _ (SW.trans (Keeps.of_all hb3)) (fun SW => ?_)
          clear hK1 K1 hb3
          go_simp
          refine wpAnyH_take (i := 7) (v := .int .i64 (IntKind.i64.wrap (ck + cr))) rfl (by kernel_rfl) (by kernel_rfl) (by kernel_rfl) (fun _ _ _ h => h) (Or.inl ⟨by rfl, ?_⟩) SW ?_
          · intro W4 hW4
            go_simp <;> first | done | rfl | (rw [IntKind.wrap_i64]; omega) | omega
          go_simp
          have ncF := (BC3.cell (p := ⟨nb0, 0, none⟩) (World.block_lt_of_cell? wd _ nd)).trans nd
          have NF : Vb v3 nb0 3 [.int .i64 ck] := (HN3.out.mono BD).mono BC3
          have ffF := NF.frozen 0
          have HNS : Hid (Vb (v3.setCell ⟨nb0, 0, none⟩ (.int .i64 (IntKind.i64.wrap (ck + cr)))) nb0 3 [.int .i64 (IntKind.i64.wrap (ck + cr))]) := hide (NF.set 0 _)
          have HKS : Hid (Keeps (fun k => k = nb0) v3 (v3.setCell ⟨nb0, 0, none⟩ (.int .i64 (IntKind.i64.wrap (ck + cr))))) := hide (Keeps.set1 v3 nb0 0 _)
          clear NF
          refine wpAnyH_ready (rs := [8]) (by kernel_rfl) (by simp) ?_
          refine AllReadyH.cons rfl (fun K1 hK1 => ?_) AllReadyH.nil
          go_simp
          refine hK1.out _ _ (SW.trans HKS.out) (fun SW => ?_)
          clear hK1 K1 ncF ffF
          generalize v3.setCell ⟨nb0, 0, none⟩ (.int .i64 (IntKind.i64.wrap (ck + cr))) = we at *
          go_simp
          refine wpAnyH_done (by kernel_rfl) ?_ _
          have HKE := hide SW
          clear SW
          gi_wp2
          refine ⟨HKE.out.mono (fun k _ e => e ▸ HO2.out), O, fun k _ h => h, HO1.out, HO2.out, HK53.out.trans (HKE.out.mono (fun k _ e => Or.inl e)), ?_⟩
          rw [HSN.out]
          exact HNS.out
    · go_simp
      refine (HA.out _).mono ?_
      rintro r v4 ⟨rfl, hb4⟩
      have BC4 := BC.trans (hb4.mono BC.size)
      refine hK1.out _ _ (SW.trans (Keeps.of_all hb4)) (fun SW => ?_)
      clear hK1 K1 hb4
      go_simp
      refine wpAnyH_ready (rs := [0, 6]) (by kernel_rfl) (by simp) ?_
      refine AllReadyH.cons rfl (fun K1 hK1 => ?_) (AllReadyH.cons rfl (fun K1 hK1 => ?_) AllReadyH.nil)
      · have nc5 := (BC4.cell (p := ⟨nb0, 0, none⟩) (World.block_lt_of_cell? wd _ nd)).trans nd
        go_simp
        refine hK1.out _ _ SW (fun SW => ?_)
        clear hK1 K1 nc5
        go_simp
        refine wpAnyH_ready (rs := [6]) (by kernel_rfl) (by simp) ?_
        refine AllReadyH.cons rfl (fun K1 hK1 => ?_) AllReadyH.nil
        · go_simp
          refine (HI.out _ (HD3.out.keeps SW HZB.out.2.2.2.1) (HT3.out.keeps SW HZB.out.2.2.2.2)).mono ?_
          rintro r v6 ⟨rfl, hb6⟩
          have BC6 := BC4.trans (hb6.mono BC4.size)
          refine hK1.out _ _ (SW.trans (Keeps.of_all hb6)) (fun SW => ?_)
          clear hK1 K1 hb6
          go_simp
          refine wpAnyH_take (i := 7) (v := .int .i64 (IntKind.i64.wrap (ck + cr))) rfl (by kernel_rfl) (by kernel_rfl) (by kernel_rfl) (fun _ _ _ h => h) (Or.inl ⟨by rfl, ?_⟩) SW ?_
          · intro W4 hW4
            go_simp <;> first | done | rfl | (rw [IntKind.wrap_i64]; omega) | omega
          go_simp
          have ncF := (BC6.cell (p := ⟨nb0, 0, none⟩) (World.block_lt_of_cell? wd _ nd)).trans nd
          have NF : Vb v6 nb0 3 [.int .i64 ck] := (HN3.out.mono BD).mono BC6
          have ffF := NF.frozen 0
          have HNS : Hid (Vb (v6.setCell ⟨nb0, 0, none⟩ (.int .i64 (IntKind.i64.wrap (ck + cr)))) nb0 3 [.int .i64 (IntKind.i64.wrap (ck + cr))]) := hide (NF.set 0 _)
          have HKS : Hid (Keeps (fun k => k = nb0) v6 (v6.setCell ⟨nb0, 0, none⟩ (.int .i64 (IntKind.i64.wrap (ck + cr))))) := hide (Keeps.set1 v6 nb0 0 _)
          clear NF
          refine wpAnyH_ready (rs := [8]) (by kernel_rfl) (by simp) ?_
          refine AllReadyH.cons rfl (fun K1 hK1 => ?_) AllReadyH.nil
          go_simp
          refine hK1.out _ _ (SW.trans HKS.out) (fun SW => ?_)
          clear hK1 K1 ncF ffF
          generalize v6.setCell ⟨nb0, 0, none⟩ (.int .i64 (IntKind.i64.wrap (ck + cr))) = we at *
          go_simp
          refine wpAnyH_done (by kernel_rfl) ?_ _
          have HKE := hide SW
          clear SW
          gi_wp2
          refine ⟨HKE.out.mono (fun k _ e => e ▸ HO2.out), O, fun k _ h => h, HO1.out, HO2.out, HK53.out.trans (HKE.out.mono (fun k _ e => Or.inl e)), ?_⟩
          rw [HSN.out]
          exact HNS.out
      · go_simp
        refine (HI.out _ (HD3.out.keeps SW HZB.out.2.2.2.1) (HT3.out.keeps SW HZB.out.2.2.2.2)).mono ?_
        rintro r v7 ⟨rfl, hb7⟩
        have BC7 := BC4.trans (hb7.mono BC4.size)
        refine hK1.out _ _ (SW.trans (Keeps.of_all hb7)) (fun SW => ?_)
        clear hK1 K1 hb7
        go_simp
        refine wpAnyH_ready (rs := [0]) (by kernel_rfl) (by simp) ?_
        refine AllReadyH.cons rfl (fun K1 hK1 => ?_) AllReadyH.nil
        · have nc8 := (BC7.cell (p := ⟨nb0, 0, none⟩) (World.block_lt_of_cell? wd _ nd)).trans nd
          go_simp
          refine hK1.out _ _ SW (fun SW => ?_)
          clear hK1 K1 nc8
          go_simp
          refine wpAnyH_take (i := 7) (v := .int .i64 (IntKind.i64.wrap (ck + cr))) rfl (by kernel_rfl) (by kernel_rfl) (by kernel_rfl) (fun _ _ _ h => h) (Or.inl ⟨by rfl, ?_⟩) SW ?_
          · intro W4 hW4
            go_simp <;> first | done | rfl | (rw [IntKind.wrap_i64]; omega) | omega
          go_simp
          have ncF := (BC7.cell (p := ⟨nb0, 0, none⟩) (World.block_lt_of_cell? wd _ nd)).trans nd
          have NF : Vb v7 nb0 3 [.int .i64 ck] := (HN3.out.mono BD).mono BC7
          have ffF := NF.frozen 0
          have HNS : Hid (Vb (v7.setCell ⟨nb0, 0, none⟩ (.int .i64 (IntKind.i64.wrap (ck + cr)))) nb0 3 [.int .i64 (IntKind.i64.wrap (ck + cr))]) := hide (NF.set 0 _)
          have HKS : Hid (Keeps (fun k => k = nb0) v7 (v7.setCell ⟨nb0, 0, none⟩ (.int .i64 (IntKind.i64.wrap (ck + cr))))) := hide (Keeps.set1 v7 nb0 0 _)
          clear NF
          refine wpAnyH_ready (rs := [8]) (by kernel_rfl) (by simp) ?_
          refine AllReadyH.cons rfl (fun K1 hK1 => ?_) AllReadyH.nil
          go_simp
          refine hK1.out _ _ (SW.trans HKS.out) (fun SW => ?_)
          clear hK1 K1 ncF ffF
          generalize v7.setCell ⟨nb0, 0, none⟩ (.int .i64 (IntKind.i64.wrap (ck + cr))) = we at *
          go_simp
          refine wpAnyH_done (by kernel_rfl) ?_ _
          have HKE := hide SW
          clear SW
          gi_wp2
          refine ⟨HKE.out.mono (fun k _ e => e ▸ HO2.out), O, fun k _ h => h, HO1.out, HO2.out, HK53.out.trans (HKE.out.mono (fun k _ e => Or.inl e)), ?_⟩
          rw [HSN.out]
          exact HNS.out
  case done =>
    rintro D O W6 hD ⟨h1, h2, h3, h4⟩ hk6 hm6 hK
    subst hD
    rw [HE.out] at h4
    have zl := HLT.out
    have c6 := h4.cell (i := 0) rfl
    have HBF : Hid (Below w.heap.size w (W6.putObj w5.heap.size (.deferred none))) := hide (HB5.out.trans (((h3.mono (Y := fun k => w.heap.size ≤ k) (fun k _ e => by have := HB5.out.size; omega)).trans ((Keeps.put (X := fun k => k = w5.heap.size) (Keeps.refl _ W6) (l := w5.heap.size) rfl (.deferred none)).mono (fun k _ e => by have := HB5.out.size; omega))).below HB5.out.size (fun k hk e => by omega)))
    clear h1 h2 h3 h4 hk6 hm6
    go_wp2_with fail
    refine ⟨by simp, .inl ⟨_, _, rfl, run_takeDeferred hK, ?_⟩⟩
    exact ⟨_, by simp [results], rfl, HBF.out⟩

end Go.Proofs.YtnbaangnpoblfaaDoor
