/-
  The document's boards of this game, and where it lets a player put a sign. No conditions beyond those that each theorem bears.
-/
import Derived.Test.YtkmghlmniahgbaaDoorPs
namespace Go.Proofs.YtkmghlmniahgbaaDoor
open Go.RowKit

def toI (l : List Nat) : List Int := l.map (fun x : Nat => (x : Int))
theorem toI_len (l : List Nat) : (toI l).length = l.length := by simp [toI]
theorem toI_snoc (l : List Nat) (x : Nat) : toI (l ++ [x]) = toI l ++ [(x : Int)] := by simp [toI]

theorem own_below {w w' : World} {base e s n : Nat} {v : Value} {xs : List Value} (h : w.ownsRow base e s v n xs) (hb : Below w.heap.size w w') : w'.ownsRow base e s v n xs :=
  own_blk h (fun g hg => hb.block g (h.lt g hg).2)

theorem slice_form {w : World} {base : Nat} {v : Value} {n : Nat} {xs : List Value} (h : w.ownsRow base 3 1 v n xs) : ∃ a c, v = .slice a n c := by
  rcases h.2 with ⟨hv, h0⟩ | ⟨g, cap, cur, hv, _⟩
  · exact ⟨none, 0, by rw [hv]; simp; omega⟩
  · exact ⟨_, _, hv⟩

set_option maxRecDepth 100000 in
set_option maxHeartbeats 2000000 in
theorem OthelloMay_any (W H : Int) (a : Option Addr) (n c : Nat) (zs : List Int) (w : World) (h : Rd w a n c zs) :
    Calls Tryd.prog 16 #[.agg (gdA W H a n c)] w fun e w' => e = .returned (.bool (oMay W H zs)) ∧ Below w.heap.size w w' := by
  obtain ⟨w1, hw1⟩ : ∃ w1, w.alloc (.cells (gdA W H a n c) 24) = w1 := ⟨_, rfl⟩
  have HB1 : Hid (Below w.heap.size w w1) := hide (by rw [← hw1]; exact (Below.refl _ _).alloc (Nat.le_refl _) _)
  have G1 : Gd w1 w.heap.size W H a n c := by rw [← hw1]; exact Gd.new _ _ _ _ _ _
  have HMY := hide (GridMay_any W H a n c zs w1 (h.mono HB1.out))
  have HV : Hid (oMay W H zs = (mayG W H zs && sd W && sd H)) := hide rfl
  have HMB : Hid (mayG W H zs = true → 1 ≤ W ∧ W ≤ 10 ∧ 1 ≤ H ∧ H ≤ 10) := hide (fun hm => by
    unfold mayG at hm
    rw [decide_eq_true_eq] at hm
    exact ⟨hm.1, hm.2.1, hm.2.2.1, hm.2.2.2.1⟩)
  obtain ⟨R, hR⟩ : ∃ R, oMay W H zs = R := ⟨_, rfl⟩
  rw [hR] at HV ⊢
  clear h hR
  obtain ⟨M, hM⟩ : ∃ M, mayG W H zs = M := ⟨_, rfl⟩
  rw [hM] at HMY HV HMB
  clear hM
  cases M with
  | false =>
    go_enter Tryd.func16, Tryd.ntmps16
    go_wp2_with (refine wpList_load_gd rfl (.tmp 1) rfl w.heap.size rfl G1 ?_)
    refine HMY.out.mono ?_
    rintro e w2 ⟨rfl, hb2⟩
    have HB2 := hide (HB1.out.trans (hb2.mono HB1.out.size))
    clear hb2 G1 HMY
    go_wp2_with fail
    go_ret
    exact ⟨ret_bool (by rw [HV.out]; rfl), HB2.out⟩
  | true =>
    obtain ⟨b1, b2, b3, b4⟩ := HMB.out rfl
    obtain ⟨gW, rfl⟩ := Int.eq_ofNat_of_zero_le (show 0 ≤ W by omega)
    obtain ⟨gH, rfl⟩ := Int.eq_ofNat_of_zero_le (show 0 ≤ H by omega)
    have hm1 : Int.tmod (gW : Int) 2 = ((gW % 2 : Nat) : Int) := by rw [Int.tmod_eq_emod_of_nonneg (by omega)]; omega
    have hm2 : (gW : Int) % 2 = ((gW % 2 : Nat) : Int) := by omega
    have hm3 : Int.tmod (gH : Int) 2 = ((gH % 2 : Nat) : Int) := by rw [Int.tmod_eq_emod_of_nonneg (by omega)]; omega
    have hm4 : (gH : Int) % 2 = ((gH % 2 : Nat) : Int) := by omega
    have HSW : Hid (sd (gW : Int) = (decide ((4 : Int) ≤ gW ∧ (gW : Int) ≤ 8) && (((gW % 2 : Nat) : Int) == 0))) := hide (by
      unfold sd; rw [Bool.eq_iff_iff]; simp only [decide_eq_true_eq, Bool.and_eq_true, beq_iff_eq]; omega)
    have HSH : Hid (sd (gH : Int) = (decide ((4 : Int) ≤ gH ∧ (gH : Int) ≤ 8) && (((gH % 2 : Nat) : Int) == 0))) := hide (by
      unfold sd; rw [Bool.eq_iff_iff]; simp only [decide_eq_true_eq, Bool.and_eq_true, beq_iff_eq]; omega)
    rw [HSW.out, HSH.out] at HV
    clear HSW HSH HMB b1 b2 b3 b4
    generalize gW % 2 = PW at *
    generalize gH % 2 = PH at *
    obtain ⟨D1, hD1⟩ : ∃ D, decide ((4 : Int) ≤ gW ∧ (gW : Int) ≤ 8) = D := ⟨_, rfl⟩
    obtain ⟨D2, hD2⟩ : ∃ D, decide ((4 : Int) ≤ gH ∧ (gH : Int) ≤ 8) = D := ⟨_, rfl⟩
    have HC1 := hide (fun W1 => within_any (gW : Int) 4 8 W1)
    have HC2 := hide (fun W1 => within_any (gH : Int) 4 8 W1)
    obtain ⟨E1, hE1⟩ : ∃ E, (((PW : Nat) : Int) == 0) = E := ⟨_, rfl⟩
    obtain ⟨E2, hE2⟩ : ∃ E, (((PH : Nat) : Int) == 0) = E := ⟨_, rfl⟩
    rw [hD1, hD2, hE1, hE2] at HV
    rw [hD1] at HC1
    rw [hD2] at HC2
    clear hD1 hD2
    go_enter Tryd.func16, Tryd.ntmps16
    go_wp2_with (refine wpList_load_gd rfl (.tmp 1) rfl w.heap.size rfl G1 ?_)
    refine HMY.out.mono ?_
    rintro e w2 ⟨rfl, hb2⟩
    have HB2 := hide (HB1.out.trans (hb2.mono HB1.out.size))
    obtain ⟨g0, g1, -⟩ := (G1.below hb2 G1.lt).cells
    clear hb2 G1 HMY
    go_wp2_with fail
    refine (HC1.out _).mono ?_
    rintro e wx ⟨rfl, hwx⟩
    subst wx
    cases D1 with
    | false =>
      go_wp2_with fail
      go_ret
      exact ⟨ret_bool (by rw [HV.out]; rfl), HB2.out⟩
    | true =>
      go_wp2_with fail
      refine (HC2.out _).mono ?_
      rintro e wx ⟨rfl, hwx⟩
      subst wx
      cases D2 with
      | false =>
        go_wp2_with fail
        go_ret
        exact ⟨ret_bool (by rw [HV.out]; simp), HB2.out⟩
      | true =>
        cases E1 with
        | false =>
          go_wp2_with fail
          go_ret
          exact ⟨ret_bool (by rw [HV.out]; simp), HB2.out⟩
        | true =>
          cases E2 with
          | false =>
            go_wp2_with fail
            go_ret
            exact ⟨ret_bool (by rw [HV.out]; simp), HB2.out⟩
          | true =>
            go_wp2_with fail
            go_ret
            exact ⟨ret_bool (by rw [HV.out]; simp), HB2.out⟩

/-- Of the first j places, those where a player may put a sign. -/
def spj (W H : Nat) (Z : List Int) (m j : Nat) : List Nat := (List.range j).filter fun p => lg (cl W H Z) (m : Int) ((p % W : Nat) : Int) ((p / W : Nat) : Int)

theorem spj_zero (W H : Nat) (Z : List Int) (m : Nat) : spj W H Z m 0 = [] := rfl
theorem spj_no {W H : Nat} {Z : List Int} {m j : Nat} (h : lg (cl W H Z) (m : Int) ((j % W : Nat) : Int) ((j / W : Nat) : Int) = false) : spj W H Z m (j + 1) = spj W H Z m j := by
  unfold spj; rw [List.range_succ, List.filter_append]; simp only [List.filter_cons, List.filter_nil, h]; simp
theorem spj_yes {W H : Nat} {Z : List Int} {m j : Nat} (h : lg (cl W H Z) (m : Int) ((j % W : Nat) : Int) ((j / W : Nat) : Int) = true) : spj W H Z m (j + 1) = spj W H Z m j ++ [j] := by
  unfold spj; rw [List.range_succ, List.filter_append]; simp only [List.filter_cons, List.filter_nil, h]; simp
theorem spj_len (W H : Nat) (Z : List Int) (m j : Nat) : (spj W H Z m j).length ≤ j := Nat.le_trans (List.length_filter_le _ _) (by simp)

attribute [local irreducible] spj psN psY lg

set_option maxRecDepth 100000 in
set_option maxHeartbeats 4000000 in
theorem SignPlaces_any (gW gH : Nat) (a : Option Addr) (n c : Nat) (zs : List Int) (m : Nat) (w : World) (h : Rd w a n c zs) (b : Og gW gH n zs) (hm : m = 1 ∨ m = 2) :
    Calls Tryd.prog 18 #[.agg (gdA gW gH a n c), .int .i64 (m : Nat)] w fun e w' => ∃ a' c', e = .returned (.slice a' (sps gW gH zs m).length c') ∧ Rd w' a' (sps gW gH zs m).length c' (toI (sps gW gH zs m)) ∧ Below w.heap.size w w' := by
  have hn64 := b.n64
  have hcm := h.max
  unfold maxLen at hcm
  have hcc := h.cap
  have HSP : Hid (sps gW gH zs m = spj gW gH zs m n) := hide (by unfold sps spj; rw [b.mul])
  rw [HSP.out]
  obtain ⟨w1, hw1⟩ : ∃ w1, w.alloc (.cells (gdA gW gH a n c) 24) = w1 := ⟨_, rfl⟩
  have HB1 : Hid (Below w.heap.size w w1) := hide (by rw [← hw1]; exact (Below.refl _ _).alloc (Nat.le_refl _) _)
  have HG1 : Hid (Gd w1 w.heap.size gW gH a n c) := hide (by rw [← hw1]; exact Gd.new _ _ _ _ _ _)
  have hs1 : w.heap.size + 1 ≤ w1.heap.size ∧ w1.heap.size ≤ w.heap.size + 1 := by rw [← hw1]; simp
  have HR1 := hide (h.mono HB1.out)
  have HPS := hide (fun j (hj : j < n) W1 (hR : Rd W1 a n c zs) => PutSign_any gW gH a n c zs m j W1 hR b hm hj)
  have HLG : Hid (∀ j, j < n → (0 < psN gW gH zs m j ↔ lg (cl gW gH zs) (m : Int) ((j % gW : Nat) : Int) ((j / gW : Nat) : Int) = true)) := hide (fun j hj => psN_lg (by have := b.wd; omega) (by rw [b.mul]; exact hj))
  have HNL : Hid (∀ j, j < n → psN gW gH zs m j ≤ 54) := hide (fun j hj => by
    unfold psN
    split
    · exact mnq_le (cl_onC b.wd.2 b.ht.2 zs) (by omega) (on8_of b.wd.2 b.ht.2 (cl_at (zs := zs) (show 0 < gW by have := b.wd; omega) (by rw [b.mul]; exact hj)).2) 9 (by omega)
    · omega)
  clear h b hm HSP
  go_enter Tryd.func18, Tryd.ntmps18
  go_upto_region 1 with fail
  clear hw1
  go_wp2_with fail
  go_loopw [5, 6] (fun v x wr => ∃ (j cp : Nat) (ad : Option Addr), x = .int .i64 j ∧ j ≤ n ∧ v = .slice ad (spj gW gH zs m j).length cp ∧ Hid (wr.ownsRow w1.heap.size 3 1 (.slice ad (spj gW gH zs m j).length cp) (spj gW gH zs m j).length ((toI (spj gW gH zs m j)).map (Value.int .i64))) ∧ Hid (Below w1.heap.size w1 wr)) (fun _ x _ => n - (intOf x).toNat)
  case atStart =>
    refine ⟨0, 0, none, rfl, by omega, ?_, ?_, hide (Below.refl _ _)⟩
    · rw [spj_zero]; rfl
    · rw [spj_zero]; exact World.ownsRow_nil _ _ _ _
  case round =>
    obtain ⟨j, cp, ad, rfl, hj, rfl, hO, hB⟩ := hrel
    have Gr := HG1.out.below hB.out (by omega)
    have Rr := hide (HR1.out.mono hB.out)
    have hsr := hB.out.size
    obtain ⟨-, -, g2⟩ := Gr.cells
    have hml := spj_len gW gH zs m j
    by_cases hlt : j < n
    · have hlt' : (j : Int) < (n : Int) := by omega
      have HN1 := hide (fun h => spj_no (W := gW) (H := gH) (Z := zs) (m := m) (j := j) h)
      have HN2 := hide (fun h => spj_yes (W := gW) (H := gH) (Z := zs) (m := m) (j := j) h)
      have HIF := hide (HLG.out j hlt)
      have hNb := HNL.out j hlt
      have HCP := hide (HPS.out j hlt wr Rr.out)
      obtain ⟨I, hI⟩ : ∃ I, lg (cl gW gH zs) (m : Int) ((j % gW : Nat) : Int) ((j / gW : Nat) : Int) = I := ⟨_, rfl⟩
      rw [hI] at HN1 HN2 HIF
      obtain ⟨NN, hNN⟩ : ∃ NN, psN gW gH zs m j = NN := ⟨_, rfl⟩
      rw [hNN] at HIF hNb HCP
      clear hI hNN
      go_wp2_with (refine wpList_load_gd rfl (.tmp 2) rfl w.heap.size rfl Gr ?_)
      refine HCP.out.mono ?_
      rintro e w3 ⟨cb, cc, rfl, -, hb3⟩
      have HO3 := hide (own_below hO.out hb3)
      have HB3 := hide (hB.out.trans (hb3.mono hsr))
      have hs3 := hb3.size
      have K22 := Gd.new w3 0 0 none 0 0
      clear HCP hb3 Gr g2 hO hB Rr
      go_wp2_with (refine wpList_store_gd rfl (.tmp 7) (.tmp 21) rfl w3.heap.size rfl rfl K22 ?_)
      intro w4 k5 kk5
      have KA : Keeps (fun k => k = w3.heap.size) w3 w4 := ((Keeps.refl _ w3).alloc _).trans kk5
      have B34 : Below w3.heap.size w3 w4 := KA.below (Nat.le_refl _) (fun k hk e => by omega)
      have HO5 := hide (own_below HO3.out B34)
      have HB5 := hide (HB3.out.trans (B34.mono HB3.out.size))
      clear k5 kk5 KA B34 K22 HO3 HB3
      cases I with
      | false =>
        have HE := hide (HN1.out rfl)
        have hN0 : ¬ 0 < NN := fun h => by have := HIF.out.1 h; cases this
        have hN0' : ¬ (NN : Int) > 0 := by omega
        clear hN0
        go_wp2_with fail
        refine ⟨⟨j + 1, cp, ad, by go_num, by omega, ?_, ?_, HB5⟩, by simp [intOf]; omega⟩
        · rw [HE.out]
        · rw [HE.out]; exact HO5
      | true =>
        have HE := hide (HN2.out rfl)
        have hN0 : 0 < NN := HIF.out.2 rfl
        have hN0' : (NN : Int) > 0 := by omega
        clear hN0
        have hR1 : Rd (World.alloc w4 (.cells #[.int .i64 (j : Nat)] 3)) (some ⟨w4.heap.size, 0, none⟩) 1 1 [((j : Nat) : Int)] := Rd.of_blk (Blk.new w4 3 [((j : Nat) : Int)] _ rfl) rfl (by decide)
        have hOa := HO5.out.alloc (.cells #[.int .i64 (j : Nat)] 3)
        have hBa := HB5.out.alloc HB5.out.size (.cells #[.int .i64 (j : Nat)] 3)
        have hsz := hBa.size
        have HPL : Hid ((spj gW gH zs m (j + 1)).length = (spj gW gH zs m j).length + 1) := hide (by rw [HE.out]; simp)
        have HPI : Hid (toI (spj gW gH zs m (j + 1)) = toI (spj gW gH zs m j) ++ [((j : Nat) : Int)]) := hide (by rw [HE.out, toI_snoc])
        generalize hpl : (spj gW gH zs m j).length = M at *
        clear hpl
        go_wp2_with (at_builtin; refine wpList_append_rd _ rfl _ _ rfl w1.heap.size _ M (toI (spj gW gH zs m j)) rfl hOa (some ⟨w4.heap.size, 0, none⟩) 1 1 [((j : Nat) : Int)] rfl hR1 (by omega) hsz ?_)
        intro v' w6 hO6 hg6
        obtain ⟨ad6, cp6, rfl⟩ := slice_form hO6
        have HB6 := hide (hBa.grown hg6 (by omega) (fun q hq => by rcases HO5.out.2 with ⟨e, _⟩ | ⟨g, cap, cur, e, hbg, _⟩ <;> rw [e] at hq <;> simp [Value.ownBlock] at hq; omega))
        have HO6 := hide hO6
        clear hO6 hg6 hR1 hOa hBa
        go_wp2_with fail
        refine ⟨⟨j + 1, cp6, ad6, by go_num, by omega, ?_, ?_, HB6⟩, by simp [intOf]; omega⟩
        · rw [HPL.out]
        · rw [HPL.out, HPI.out, List.map_append]; exact HO6
    · have hlt' : ¬ (j : Int) < (n : Int) := by omega
      have hje : j = n := by omega
      subst hje
      have HB3 := hide (HB1.out.trans (hB.out.mono HB1.out.size))
      go_wp2_with fail
      go_ret
      exact ⟨ad, cp, rfl, Rd.of_own hO.out, HB3.out⟩

end Go.Proofs.YtkmghlmniahgbaaDoor
