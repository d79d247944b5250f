/-
  The walk of the law on what comes of a game. No conditions beyond those that each theorem bears.
-/
import Derived.Test.YthdnbbjehcicbaaDoorSolve
import Derived.Test.YthdnbbjehcicbaaDoorSGr
import Derived.Test.YthdnbbjehcicbaaDoorGMv
namespace Go.Proofs.YthdnbbjehcicbaaDoor
open Go.RowKit

theorem Solve_yes (W H : Nat) (a : Option Addr) (n c : Nat) (zs : List Int) (k : Nat) (hmay : mayP W H zs) (hm : W * H = n) (hk : 1 ≤ k ∧ k ≤ 10) (w : World) (hT : Tab w) (h : Rd w a n c zs) (hM : mvO zs = 1 ∨ mvO zs = 2) (h9 : (emp zs n).length ≤ 9) :
    Calls Tryd.prog 12 #[.agg (gdA W H a n c), .int .i64 k] w fun e w' => ∃ a' c', e = .returned (.tuple #[.int .i64 (res W H k (List.range n) (nE (List.range n) zs) zs (mvO zs)).1, .slice a' (res W H k (List.range n) (nE (List.range n) zs) zs (mvO zs)).2.length c', .int .i64 0])
      ∧ Rd w' a' (res W H k (List.range n) (nE (List.range n) zs) zs (mvO zs)).2.length c' (toI (res W H k (List.range n) (nE (List.range n) zs) zs (mvO zs)).2) ∧ Below w.heap.size w w' := by
  have hwz : wn (sg zs (prt W H zs k n)) = wnZ W H k zs := by unfold wnZ; rw [hm]
  by_cases hV : wnZ W H k zs = 0
  · have hr : res W H k (List.range n) (nE (List.range n) zs) zs (mvO zs) = bsj W H k (val W H k (emp zs n) ((emp zs n).length - 1)) (emp zs n) zs (mvO zs) (emp zs n).length := by
      rw [start_same hM]
      unfold res
      rw [hV, if_neg (by omega), if_neg (by omega)]
    rw [hr]
    exact Solve_game W H a n c zs k hmay hk w hT h (by omega) h9 (hwz.trans hV)
  · have hr : res W H k (List.range n) (nE (List.range n) zs) zs (mvO zs) = (ovr (wnZ W H k zs) (mvO zs), []) := by
      unfold res ovr
      by_cases e : wnZ W H k zs = mvO zs
      · rw [if_pos e, if_pos e]
      · rw [if_neg e, if_neg e, if_pos (by omega)]
    rw [hr]
    refine (Solve_over W H a n c zs k hmay hk w hT h (by omega) h9 (by rw [hwz]; exact hV)).mono ?_
    rintro e w' ⟨rfl, hb⟩
    rw [hwz]
    exact ⟨none, 0, rfl, Rd.of_nil _, hb⟩

theorem mvO_cases (zs : List Int) : mvO zs = 0 ∨ mvO zs = 1 ∨ mvO zs = 2 := by
  unfold mvO
  split
  · simp
  · split <;> simp

attribute [local irreducible] inR prt sg wn orV mkL mY wY mayG fltG val nE mvv bsj emp cnt mvO res wnZ

set_option maxRecDepth 100000 in
set_option maxHeartbeats 4000000 in
theorem solves_any (W H : Int) (a : Option Addr) (n c : Nat) (zs : List Int) (k : Int) (w : World) (hT : Tab w) (h : Rd w a n c zs) (hr : n * 8 ≤ 140737488351232) :
    Calls Tryd.prog 4 #[.agg (gdA W H a n c), .int .i64 k] w fun e w' => e = .returned (.bool true) ∧ Below w.heap.size w w' := by
  have B0 : Below w.heap.size w (w.alloc (.cells (gdA W H a n c) 24)) := (Below.refl _ _).alloc (Nat.le_refl _) _
  have G0 := Gd.new w W H a n c
  obtain ⟨w1, hw1⟩ : ∃ w1, w.alloc (.cells (gdA W H a n c) 24) = w1 := ⟨_, rfl⟩
  rw [hw1] at B0 G0
  have hs1 : w.heap.size < w1.heap.size := G0.lt
  have HOF := hide (GridOf_own W H a n c zs w1 (h.mono B0) hr)
  have HGM := hide (fun w2 (hb : Below w.heap.size w w2) => GridMay_any W H a n c zs w2 (h.mono hb))
  have HB0 := hide B0
  have HG0 := hide G0
  have HT := hide hT
  have HR := hide h
  have hlen := h.len
  by_cases hF : fltG W H zs k = 0
  · -- a board, and a number of signs, that may be
    have hmay : mayG W H zs = true := by
      unfold fltG at hF
      by_cases e : mayG W H zs = true
      · exact e
      · rw [if_neg e] at hF; omega
    have hk : 1 ≤ k ∧ k ≤ 10 := by
      unfold fltG at hF
      rw [if_pos hmay] at hF
      by_cases e : 1 ≤ k ∧ k ≤ 10
      · exact e
      · rw [if_neg e] at hF; omega
    rw [hmay] at HGM
    have hmp : mayP W H zs := of_decide_eq_true (by unfold mayG at hmay; exact hmay)
    obtain ⟨gW, gH, rfl, rfl, hgW, hgH, hm, hz⟩ := may_nat hmp
    obtain ⟨K, rfl⟩ := Int.eq_ofNat_of_zero_le (show 0 ≤ k by omega)
    rw [hlen] at hm hz
    have hK : 1 ≤ K ∧ K ≤ 10 := by omega
    have hn100 : n ≤ 100 := by
      have : gW * gH ≤ 10 * 10 := Nat.mul_le_mul hgW.2 hgH.2
      omega
    have HMO := hide (fun w2 (hb : Below w.heap.size w w2) => GridMover_any gW gH a n c zs hn100 hz w2 (h.mono hb))
    have HOP := hide (fun w2 (hb : Below w.heap.size w w2) => OpenPlaces_any gW gH a n c zs hn100 w2 (h.mono hb))
    have hkn : ¬ (K : Int) < 1 := by omega
    have hkn2 : ¬ (10 : Int) < (K : Int) := by omega
    clear hF hmay hk B0 G0
    by_cases h0 : mvO zs = 0
    · have HSO := hide (fun a2 c2 w2 (_ : Below w.heap.size w w2) h2 => Solve_turn gW gH a2 n c2 zs K hmp hK w2 h2 h0)
      rw [h0] at HMO
      clear hmp hm hz h hT h0 HOP
      go_enter Tryd.func4, Tryd.ntmps4
      have G1 := HG0.out
      go_wp2_with (refine wpList_load_gd rfl (.tmp 2) rfl w.heap.size rfl G1 ?_)
      clear G1 hw1
      refine HOF.out.mono ?_
      rintro e w2 ⟨a2, c2, rfl, hO2, hb2⟩
      have HB2 := hide (HB0.out.trans (hb2.mono HB0.out.size))
      have HG2 := hide (HG0.out.below hb2 hs1)
      have HR2 := hide (Rd.of_own hO2)
      clear hO2 hb2 HOF HB0 HG0
      go_wp2_with fail
      refine (HSO.out a2 c2 w2 HB2.out HR2.out).mono ?_
      rintro e w3 ⟨rfl, hb3⟩
      have HB3 := hide (HB2.out.trans (hb3.mono HB2.out.size))
      have HG3 := hide (HG2.out.below hb3 HG2.out.lt)
      clear hb3 HR2 HG2 HB2 HSO
      have G3 := HG3.out
      go_wp2_with (refine wpList_load_gd rfl (.tmp 2) rfl w.heap.size rfl G3 ?_)
      clear G3
      refine (HGM.out w3 HB3.out).mono ?_
      rintro e w4 ⟨rfl, hb4⟩
      have HB4 := hide (HB3.out.trans (hb4.mono HB3.out.size))
      have HG4 := hide (HG3.out.below hb4 HG3.out.lt)
      clear hb4 HG3 HB3 HGM
      have G4 := HG4.out
      go_wp2_with (refine wpList_load_gd rfl (.tmp 2) rfl w.heap.size rfl G4 ?_)
      clear G4
      refine (HMO.out w4 HB4.out).mono ?_
      rintro e w5 ⟨rfl, hb5⟩
      have HB5 := hide (HB4.out.trans (hb5.mono HB4.out.size))
      have HG5 := hide (HG4.out.below hb5 HG4.out.lt)
      clear hb5 HG4 HB4 HMO
      go_wp2_with fail
      go_ret
      exact ⟨rfl, HB5.out⟩
    · by_cases h9 : 9 < (emp zs n).length
      · have HSO := hide (fun a2 c2 w2 (_ : Below w.heap.size w w2) h2 => Solve_size gW gH a2 n c2 zs K hmp hK w2 h2 h0 h9)
        have hML : (((mvO zs : Nat) : Int) == 0) = false := by simp; omega
        generalize mvO zs = M at *
        have hE : (9 : Int) < ((emp zs n).length : Int) := by omega
        have hel := emp_len zs n
        generalize (emp zs n).length = E at *
        clear hmp hm hz h hT h0 h9
        go_enter Tryd.func4, Tryd.ntmps4
        have G1 := HG0.out
        go_wp2_with (refine wpList_load_gd rfl (.tmp 2) rfl w.heap.size rfl G1 ?_)
        clear G1 hw1
        refine HOF.out.mono ?_
        rintro e w2 ⟨a2, c2, rfl, hO2, hb2⟩
        have HB2 := hide (HB0.out.trans (hb2.mono HB0.out.size))
        have HG2 := hide (HG0.out.below hb2 hs1)
        have HR2 := hide (Rd.of_own hO2)
        clear hO2 hb2 HOF HB0 HG0
        go_wp2_with fail
        refine (HSO.out a2 c2 w2 HB2.out HR2.out).mono ?_
        rintro e w3 ⟨rfl, hb3⟩
        have HB3 := hide (HB2.out.trans (hb3.mono HB2.out.size))
        have HG3 := hide (HG2.out.below hb3 HG2.out.lt)
        clear hb3 HR2 HG2 HB2 HSO
        have G3 := HG3.out
        go_wp2_with (refine wpList_load_gd rfl (.tmp 2) rfl w.heap.size rfl G3 ?_)
        clear G3
        refine (HGM.out w3 HB3.out).mono ?_
        rintro e w4 ⟨rfl, hb4⟩
        have HB4 := hide (HB3.out.trans (hb4.mono HB3.out.size))
        have HG4 := hide (HG3.out.below hb4 HG3.out.lt)
        clear hb4 HG3 HB3 HGM
        have G4 := HG4.out
        go_wp2_with (refine wpList_load_gd rfl (.tmp 2) rfl w.heap.size rfl G4 ?_)
        clear G4
        refine (HMO.out w4 HB4.out).mono ?_
        rintro e w5 ⟨rfl, hb5⟩
        have HB5 := hide (HB4.out.trans (hb5.mono HB4.out.size))
        have HG5 := hide (HG4.out.below hb5 HG4.out.lt)
        clear hb5 HG4 HB4 HMO
        have G5 := HG5.out
        go_wp2_with (refine wpList_load_gd rfl (.tmp 2) rfl w.heap.size rfl G5 ?_)
        clear G5
        refine (HOP.out w5 HB5.out).mono ?_
        rintro e w6 ⟨rfl, hb6⟩
        have HB6 := hide (HB5.out.trans (hb6.mono HB5.out.size))
        have HG6 := hide (HG5.out.below hb6 HG5.out.lt)
        clear hb6 HG5 HB5 HOP
        go_wp2_with fail
        go_ret
        exact ⟨rfl, HB6.out⟩
      · have hM12 : mvO zs = 1 ∨ mvO zs = 2 := by have := mvO_cases zs; omega
        have HSO := hide (fun a2 c2 w2 (hb : Below w.heap.size w w2) h2 => Solve_yes gW gH a2 n c2 zs K hmp hm hK w2 (hT.mono hb) h2 hM12 (by omega))
        have HSG := hide (fun w2 (hb : Below w.heap.size w w2) => SolveGrid_any gW gH K n hgW hgH hm hK _ zs (mvO zs) a c w2 hz hM12 rfl (h.mono hb))
        have hML : (((mvO zs : Nat) : Int) == 0) = false := by simp; omega
        have hE : ¬ (9 : Int) < ((emp zs n).length : Int) := by omega
        have hel := emp_len zs n
        generalize res gW gH K (List.range n) (nE (List.range n) zs) zs (mvO zs) = X at *
        obtain ⟨xv, xl⟩ := X
        simp only at HSO HSG
        generalize mvO zs = M at *
        generalize (emp zs n).length = E at *
        clear hmp hm hz h hT h0 h9
        go_enter Tryd.func4, Tryd.ntmps4
        have G1 := HG0.out
        go_wp2_with (refine wpList_load_gd rfl (.tmp 2) rfl w.heap.size rfl G1 ?_)
        clear G1 hw1
        refine HOF.out.mono ?_
        rintro e w2 ⟨a2, c2, rfl, hO2, hb2⟩
        have HB2 := hide (HB0.out.trans (hb2.mono HB0.out.size))
        have HG2 := hide (HG0.out.below hb2 hs1)
        have HR2 := hide (Rd.of_own hO2)
        clear hO2 hb2 HOF HB0 HG0
        go_wp2_with fail
        refine (HSO.out a2 c2 w2 HB2.out HR2.out).mono ?_
        rintro e w3 ⟨a3, c3, rfl, hR3, hb3⟩
        have HB3 := hide (HB2.out.trans (hb3.mono HB2.out.size))
        have HG3 := hide (HG2.out.below hb3 HG2.out.lt)
        have HR3 := hide hR3
        clear hR3 hb3 HR2 HG2 HB2 HSO
        have G3 := HG3.out
        go_wp2_with (refine wpList_load_gd rfl (.tmp 2) rfl w.heap.size rfl G3 ?_)
        clear G3
        refine (HGM.out w3 HB3.out).mono ?_
        rintro e w4 ⟨rfl, hb4⟩
        have HB4 := hide (HB3.out.trans (hb4.mono HB3.out.size))
        have HG4 := hide (HG3.out.below hb4 HG3.out.lt)
        have HR4 := hide (HR3.out.mono hb4)
        clear hb4 HG3 HB3 HR3 HGM
        have G4 := HG4.out
        go_wp2_with (refine wpList_load_gd rfl (.tmp 2) rfl w.heap.size rfl G4 ?_)
        clear G4
        refine (HMO.out w4 HB4.out).mono ?_
        rintro e w5 ⟨rfl, hb5⟩
        have HB5 := hide (HB4.out.trans (hb5.mono HB4.out.size))
        have HG5 := hide (HG4.out.below hb5 HG4.out.lt)
        have HR5 := hide (HR4.out.mono hb5)
        clear hb5 HG4 HB4 HR4
        have G5 := HG5.out
        go_wp2_with (refine wpList_load_gd rfl (.tmp 2) rfl w.heap.size rfl G5 ?_)
        clear G5
        refine (HOP.out w5 HB5.out).mono ?_
        rintro e w6 ⟨rfl, hb6⟩
        have HB6 := hide (HB5.out.trans (hb6.mono HB5.out.size))
        have HG6 := hide (HG5.out.below hb6 HG5.out.lt)
        have HR6 := hide (HR5.out.mono hb6)
        clear hb6 HG5 HB5 HR5 HOP
        go_wp2_with fail
        refine wp_region_held (S := fun W => Below w6.heap.size w6 W) (by kernel_rfl) ?_
        change wpAnyH _ _ _ _ _ _ _ _ (World.drew _)
        have SW : Below w6.heap.size w6 w6.drew := (Below.refl _ w6).drew
        refine wpAnyH_take (i := 0) (v := .agg (gdA gW gH a n c)) rfl (by kernel_rfl) (by kernel_rfl) (by kernel_rfl) (fun _ _ _ h => h) (yieldsIf_load_mid (by rfl) 24 _ rfl w.heap.size 0 (by rfl) [.int .i64 gW, .int .i64 gH, .slice a n c] _ (fun W hW => (HG6.out.below hW HG6.out.lt).range) Tryd.underlying24 rfl size24) SW ?_
        go_simp
        refine wpAnyH_take (i := 1) (v := .int .i64 K) rfl (by kernel_rfl) (by kernel_rfl) (by kernel_rfl) (fun _ _ _ h => h) (Or.inl ⟨by rfl, ?_⟩) SW ?_
        · intro W _
          go_simp <;> first | done | rfl | (rw [IntKind.wrap_i64]; omega) | (intro hh; exfalso; omega)
        go_simp
        refine wpAnyH_take (i := 2) (v := .agg (gdA gW gH a n c)) rfl (by kernel_rfl) (by kernel_rfl) (by kernel_rfl) (fun _ _ _ h => h) (yieldsIf_load_mid (by rfl) 24 _ rfl w.heap.size 0 (by rfl) [.int .i64 gW, .int .i64 gH, .slice a n c] _ (fun W hW => (HG6.out.below hW HG6.out.lt).range) Tryd.underlying24 rfl size24) SW ?_
        go_simp
        refine wpAnyH_ready (rs := [3]) (by kernel_rfl) (by simp) ?_
        refine AllReadyH.cons rfl (fun K1 hK1 => ?_) AllReadyH.nil
        go_simp
        refine (HMO.out _ (HB6.out.trans (SW.mono HB6.out.size))).mono ?_
        rintro e w7 ⟨rfl, hb7⟩
        refine hK1.out _ _ (SW.trans (hb7.mono SW.size)) (fun SW => ?_)
        clear hK1 K1
        go_simp
        refine wpAnyH_ready (rs := [4]) (by kernel_rfl) (by simp) ?_
        refine AllReadyH.cons rfl (fun K1 hK1 => ?_) AllReadyH.nil
        go_simp
        refine (HSG.out w7 (HB6.out.trans (SW.mono HB6.out.size))).mono ?_
        rintro e w8 ⟨a8, c8, rfl, hR8, hb8⟩
        refine hK1.out _ _ (SW.trans (hb8.mono SW.size)) (fun SW => ?_)
        clear hK1 K1
        go_simp
        refine wpAnyH_take (i := 5) (v := .tuple #[.int .i64 xv, .slice a8 xl.length c8]) rfl (by kernel_rfl) (by kernel_rfl) (by kernel_rfl) (fun _ _ _ h => h) (Or.inl ⟨by rfl, ?_⟩) SW ?_
        · intro W _
          go_simp <;> first | done | rfl | (rw [IntKind.wrap_i64]; omega) | (intro hh; exfalso; omega)
        go_simp
        refine wpAnyH_take (i := 6) (v := .int .i64 xv) rfl (by kernel_rfl) (by kernel_rfl) (by kernel_rfl) (fun _ _ _ h => h) (Or.inl ⟨by rfl, ?_⟩) SW ?_
        · intro W _
          go_simp <;> first | done | rfl | (rw [IntKind.wrap_i64]; omega) | (intro hh; exfalso; omega)
        go_simp
        refine wpAnyH_take (i := 7) (v := .slice a8 xl.length c8) rfl (by kernel_rfl) (by kernel_rfl) (by kernel_rfl) (fun _ _ _ h => h) (Or.inl ⟨by rfl, ?_⟩) SW ?_
        · intro W _
          go_simp <;> first | done | rfl | (rw [IntKind.wrap_i64]; omega) | (intro hh; exfalso; omega)
        go_simp
        refine wpAnyH_take (i := 8) (v := .int .i64 xv) rfl (by kernel_rfl) (by kernel_rfl) (by kernel_rfl) (fun _ _ _ h => h) (Or.inl ⟨by rfl, ?_⟩) SW ?_
        · intro W _
          go_simp <;> first | done | rfl | (rw [IntKind.wrap_i64]; omega) | (intro hh; exfalso; omega)
        go_simp
        refine wpAnyH_take (i := 9) (v := .slice a8 xl.length c8) rfl (by kernel_rfl) (by kernel_rfl) (by kernel_rfl) (fun _ _ _ h => h) (Or.inl ⟨by rfl, ?_⟩) SW ?_
        · intro W _
          go_simp <;> first | done | rfl | (rw [IntKind.wrap_i64]; omega) | (intro hh; exfalso; omega)
        go_simp
        refine wpAnyH_done (by kernel_rfl) ?_ _
        have HB8 := hide (HB6.out.trans (SW.mono HB6.out.size))
        have HSM := hide (sameInts_any a3 a8 xl.length c3 xl.length c8 (toI xl) (toI xl) w8 (HR6.out.mono SW) hR8)
        clear hR8 hb8 hb7 SW HR6 HB6 HG6 HSG HMO
        have hVb : (xv == xv) = true := by simp
        go_wp2_with fail
        refine HSM.out.mono ?_
        rintro e w9 ⟨rfl, hq⟩
        have HB9 : Hid (Below w.heap.size w w9) := hide (by obtain ⟨q, rfl⟩ := hq; exact HB8.out.trans (drewN_below _ _ _))
        clear hq HSM HB8
        simp only [decide_true]
        go_wp2_with fail
        go_ret
        exact ⟨rfl, HB9.out⟩
  · have HSO := hide (fun a2 c2 w2 (_ : Below w.heap.size w w2) h2 => Solve_no W H a2 n c2 zs k w2 h2 hF)
    have HFE : Hid (fltG W H zs k = if mayG W H zs = true then (if 1 ≤ k ∧ k ≤ 10 then 0 else 3) else 12) := hide (by unfold fltG; rfl)
    have hF' := hF
    obtain ⟨R, hR⟩ : ∃ R, fltG W H zs k = R := ⟨_, rfl⟩
    rw [hR] at HSO hF' HFE
    obtain ⟨M, hM⟩ : ∃ M, mayG W H zs = M := ⟨_, rfl⟩
    rw [hM] at HGM HFE
    have hne : (R == R) = true := by simp
    have hcase : M = false ∧ R = 12 ∨ M = true ∧ R = 3 ∧ k < 1 ∨ M = true ∧ R = 3 ∧ ¬ k < 1 ∧ 10 < k := by
      have e := HFE.out
      cases M with
      | false => rw [if_neg (by simp)] at e; exact Or.inl ⟨rfl, e⟩
      | true =>
        rw [if_pos rfl] at e
        by_cases hk : 1 ≤ k ∧ k ≤ 10
        · rw [if_pos hk] at e; exact absurd e hF'
        · rw [if_neg hk] at e
          by_cases hk1 : k < 1
          · exact Or.inr (Or.inl ⟨rfl, e, hk1⟩)
          · exact Or.inr (Or.inr ⟨rfl, e, hk1, by omega⟩)
    clear hF hF' HFE hR hM h hT B0 G0
    go_enter Tryd.func4, Tryd.ntmps4
    have G1 := HG0.out
    go_wp2_with (refine wpList_load_gd rfl (.tmp 2) rfl w.heap.size rfl G1 ?_)
    clear G1 hw1
    refine HOF.out.mono ?_
    rintro e w2 ⟨a2, c2, rfl, hO2, hb2⟩
    have HB2 := hide (HB0.out.trans (hb2.mono HB0.out.size))
    have HG2 := hide (HG0.out.below hb2 hs1)
    have HR2 := hide (Rd.of_own hO2)
    clear hO2 hb2 HOF HB0 HG0
    go_wp2_with fail
    refine (HSO.out a2 c2 w2 HB2.out HR2.out).mono ?_
    rintro e w3 ⟨rfl, hb3⟩
    have HB3 := hide (HB2.out.trans (hb3.mono HB2.out.size))
    have HG3 := hide (HG2.out.below hb3 HG2.out.lt)
    clear hb3 HR2 HG2 HB2 HSO
    have G3 := HG3.out
    go_wp2_with (refine wpList_load_gd rfl (.tmp 2) rfl w.heap.size rfl G3 ?_)
    clear G3
    refine (HGM.out w3 HB3.out).mono ?_
    rintro e w4 ⟨rfl, hb4⟩
    have HB4 := hide (HB3.out.trans (hb4.mono HB3.out.size))
    have HG4 := hide (HG3.out.below hb4 HG3.out.lt)
    clear hb4 HG3 HB3 HGM
    rcases hcase with ⟨rfl, rfl⟩ | ⟨rfl, rfl, hk1⟩ | ⟨rfl, rfl, hk1, hk2⟩
    · go_wp2_with fail
      go_ret
      exact ⟨rfl, HB4.out⟩
    · go_wp2_with fail
      go_ret
      exact ⟨rfl, HB4.out⟩
    · go_wp2_with fail
      go_ret
      exact ⟨rfl, HB4.out⟩

end Go.Proofs.YthdnbbjehcicbaaDoor
