/-
  The walk of the law on rows that are won. No conditions beyond those that each theorem bears.
-/
import Derived.Test.YthdnbbjehcicbaaDoorWonOf
namespace Go.Proofs.YthdnbbjehcicbaaDoor
open Go.RowKit

set_option maxHeartbeats 400000 in
theorem sameInts_any (a b : Option Addr) (n c m d : Nat) (xs ys : List Int) (w : World) (hx : Rd w a n c xs) (hy : Rd w b m d ys) :
    Calls Tryd.prog 11 #[.slice a n c, .slice b m d] w fun e w' => e = .returned (.bool (decide (xs = ys))) ∧ ∃ k, w' = w.drewN k := by
  have hmx := hx.max
  have hcx := hx.cap
  have hmy := hy.max
  have hcy := hy.cap
  unfold maxLen at hmx hmy
  by_cases hnm : n = m
  · subst hnm
    have hne : ((n : Int) != (n : Int)) = false := by simp
    by_cases h0 : n = 0
    · subst h0
      have ex : xs = [] := List.eq_nil_of_length_eq_zero hx.len
      have ey : ys = [] := List.eq_nil_of_length_eq_zero hy.len
      subst ex ey
      go_enter Tryd.func11, Tryd.ntmps11
      go_wp2
      refine wp_loop_rounds 1 ?_
      rw [rounds_succ]
      go_wp2
      go_ret
      exact ⟨rfl, 0, rfl⟩
    · obtain ⟨b1, o1, rfl, hc1⟩ := hx.cells (by omega)
      obtain ⟨b2, o2, rfl, hc2⟩ := hy.cells (by omega)
      have lx : Hid (xs.length = n) := hx.len
      have ly : Hid (ys.length = n) := hy.len
      clear hx hy
      go_enter Tryd.func11, Tryd.ntmps11
      go_wp2
      go_loopw [5] (fun i wr => ∃ k q : Nat, k ≤ n ∧ i = .int .i64 k ∧ wr = w.drewN q ∧ Hid (xs.take k = ys.take k)) (fun i _ => n - (intOf i).toNat)
      case atStart => exact ⟨0, 0, by omega, rfl, rfl, by simp [Hid]⟩
      case round =>
        obtain ⟨k, q, hk, rfl, rfl, hq⟩ := hrel
        by_cases hlt : k < n
        · have e1 := hc1 k hlt
          have e2 := hc2 k hlt
          clear hc1 hc2
          have hlt' : (k : Int) < (n : Int) := by omega
          have hs := take_succ_eq xs ys k (by rw [lx.out]; exact hlt) (by rw [ly.out]; exact hlt)
          have HS := hide hs
          clear hs
          by_cases hv : xs.getD k 0 = ys.getD k 0
          · have hb : (xs[k]?.getD 0 != ys[k]?.getD 0) = false := by simpa using hv
            have HV := hide hv
            clear hv
            go_wp2
            go_quiet (fail)
            go_wp2
            go_roundw
            case rel => exact ⟨k + 1, _, by omega, by go_num, rfl, HS.out.2 ⟨hq.out, HV.out⟩⟩
            case measure => simp [intOf]; omega
          · have hb : (xs[k]?.getD 0 != ys[k]?.getD 0) = true := by simpa using hv
            go_wp2
            go_quiet (fail)
            go_wp2
            go_ret
            exact ⟨ret_bool (by symm; rw [decide_eq_false_iff_not]; rintro rfl; exact hv rfl), _, World.drewN_drewN _ _ _⟩
        · have hlt' : ¬ (k : Int) < (n : Int) := by omega
          obtain rfl : k = n := by omega
          go_wp2
          go_ret
          refine ⟨ret_bool ?_, _, rfl⟩
          symm
          rw [decide_eq_true_iff]
          have h1 := hq.out
          rw [List.take_of_length_le (by rw [lx.out]; exact Nat.le_refl _), List.take_of_length_le (by rw [ly.out]; exact Nat.le_refl _)] at h1
          exact h1
  · have hne : ((n : Int) != (m : Int)) = true := by rw [bne_iff_ne]; omega
    go_enter Tryd.func11, Tryd.ntmps11
    go_wp2
    go_ret
    exact ⟨ret_bool (by symm; rw [decide_eq_false_iff_not]; rintro rfl; exact hnm (hx.len.symm.trans hy.len)), 0, rfl⟩


/-- The sign where a row's i-th place lies. -/
theorem mark_val {W H : Nat} {zs : List Int} {k x y d i : Nat} (hi : i < k) (h : 0 < rf W H zs k x y d) : zs.getD (((y : Int) + rdy d * i) * W + x + rdx d * i).toNat 0 = rf W H zs k x y d := by
  have hr := rf_row h rfl i hi
  rw [Int.mul_comm _ (rdx d), Int.mul_comm _ (rdy d)] at hr
  have hb := cl_on (by omega) hr
  unfold cl at hr
  rw [if_pos hb] at hr
  rw [Int.add_assoc]
  exact hr

theorem marks_iff {W H : Nat} {zs : List Int} {k q : Nat} (hW : 0 < W) (hk : 1 ≤ k) (hq : q < W * H) (hz : 0 ≤ zs.getD q 0) : q ∈ marks W H zs k ↔ (zs.getD q 0 ≠ 0 ∧ inR W H zs q k = true) := by
  rw [mem_marks]
  constructor
  · rintro ⟨x, y, d, i, hx, hy, hd, hi, hr, rfl⟩
    have hv := mark_val hi hr
    refine ⟨by rw [hv]; omega, ?_⟩
    rw [inR_iff hW hq hk (by rw [hv]; exact hr)]
    exact ⟨x, y, d, i, hx, hy, hd, hi, hv.symm, rfl⟩
  · rintro ⟨h0, hr⟩
    have hpos : 0 < zs.getD q 0 := by omega
    rw [inR_iff hW hq hk hpos] at hr
    obtain ⟨x, y, d, i, hx, hy, hd, hi, hv, he⟩ := hr
    exact ⟨x, y, d, i, hx, hy, hd, hi, by rw [hv]; exact hpos, he⟩

theorem won_list {W H n : Nat} {zs : List Int} {k : Nat} (hW : 0 < W) (hk : 1 ≤ k) (hm : W * H = n) (hz : ∀ i, i < n → 0 ≤ zs.getD i 0 ∧ zs.getD i 0 ≤ 2) : mkL n (mY W H zs k H) = prt W H zs k n := by
  unfold mkL prt
  refine List.filter_congr (fun q hq => ?_)
  have hqn := List.mem_range.1 hq
  have := marks_iff (zs := zs) hW hk (show q < W * H by omega) (hz q hqn).1
  rw [marks_eq] at this
  rw [Bool.eq_iff_iff, decide_eq_true_eq, this, Bool.and_eq_true, bne_iff_ne]

theorem won_sign {W H n : Nat} {zs : List Int} {k : Nat} (hW : 0 < W) (hk : 1 ≤ k) (hm : W * H = n) (hz : ∀ i, i < n → 0 ≤ zs.getD i 0 ∧ zs.getD i 0 ≤ 2) {v : Int} (hv : 0 < v) : v ∈ wY W H zs k H ↔ v ∈ sg zs (prt W H zs k n) := by
  rw [← whos_eq, mem_whos]
  unfold sg
  rw [List.mem_map]
  constructor
  · rintro ⟨x, y, d, hx, hy, hd, hr⟩
    have hpos : 0 < rf W H zs k x y d := by omega
    have hz0 : zs.getD (y * W + x) 0 = rf W H zs k x y d := by
      unfold rf at hpos ⊢
      split at hpos
      · rename_i h; rw [if_pos h]
      · omega
    have hl : y * W + x < n := by
      have h3 : (y + 1) * W ≤ H * W := Nat.mul_le_mul_right W hy
      rw [Nat.add_mul, Nat.one_mul] at h3
      rw [← hm, Nat.mul_comm W H]
      omega
    refine ⟨y * W + x, ?_, by rw [hz0, hr]⟩
    rw [← won_list hW hk hm hz]
    unfold mkL
    refine List.mem_filter.2 ⟨List.mem_range.2 hl, decide_eq_true ?_⟩
    rw [← marks_eq, mem_marks]
    refine ⟨x, y, d, 0, hx, hy, hd, by omega, hpos, ?_⟩
    rw [Int.natCast_zero, Int.mul_zero, Int.mul_zero, Int.add_zero, Int.add_zero, ← Int.natCast_mul, ← Int.natCast_add, Int.toNat_natCast]
  · rintro ⟨p, hp, rfl⟩
    unfold prt at hp
    obtain ⟨h1, h2⟩ := List.mem_filter.1 hp
    rw [Bool.and_eq_true] at h2
    have hpn := List.mem_range.1 h1
    have := (inR_iff (H := H) hW (show p < W * H by omega) hk hv).1 h2.2
    obtain ⟨x, y, d, i, hx, hy, hd, hi, hr, he⟩ := this
    exact ⟨x, y, d, hx, hy, hd, hr⟩

theorem won_same {W H n : Nat} {zs : List Int} {k : Nat} (hW : 0 < W) (hk : 1 ≤ k) (hm : W * H = n) (hz : ∀ i, i < n → 0 ≤ zs.getD i 0 ∧ zs.getD i 0 ≤ 2) : wn (wY W H zs k H) = wn (sg zs (prt W H zs k n)) := by
  unfold wn
  have h1 := won_sign hW hk hm hz (v := 1) (by omega)
  have h2 := won_sign hW hk hm hz (v := 2) (by omega)
  by_cases a : (1 : Int) ∈ sg zs (prt W H zs k n)
  · by_cases b : (2 : Int) ∈ sg zs (prt W H zs k n)
    · rw [if_pos a, if_pos b, if_pos (h1.2 a), if_pos (h2.2 b)]
    · rw [if_pos a, if_neg b, if_pos (h1.2 a), if_neg (fun h => b (h2.1 h))]
  · by_cases b : (2 : Int) ∈ sg zs (prt W H zs k n)
    · rw [if_neg a, if_pos b, if_neg (fun h => a (h1.1 h)), if_pos (h2.2 b)]
    · rw [if_neg a, if_neg b, if_neg (fun h => a (h1.1 h)), if_neg (fun h => b (h2.1 h))]

/-- A board that may be, in plain numbers. -/
theorem may_nat {W H : Int} {zs : List Int} (h : mayP W H zs) : ∃ gW gH : Nat, W = gW ∧ H = gH ∧ (1 ≤ gW ∧ gW ≤ 10) ∧ (1 ≤ gH ∧ gH ≤ 10) ∧ gW * gH = zs.length ∧ ∀ i, i < zs.length → 0 ≤ zs.getD i 0 ∧ zs.getD i 0 ≤ 2 := by
  obtain ⟨m1, m2, m3, m4, m5, m6⟩ := h
  obtain ⟨gW, rfl⟩ := Int.eq_ofNat_of_zero_le (show 0 ≤ W by omega)
  obtain ⟨gH, rfl⟩ := Int.eq_ofNat_of_zero_le (show 0 ≤ H by omega)
  refine ⟨gW, gH, rfl, rfl, by omega, by omega, ?_, fun i hi => m6 _ (getD_mem hi)⟩
  have : ((gW * gH : Nat) : Int) = (zs.length : Int) := by rw [Int.natCast_mul, m5]
  omega

attribute [local irreducible] inR prt sg wn orV mkL mY wY mayG fltG

set_option maxRecDepth 100000 in
set_option maxHeartbeats 4000000 in
theorem wins_any (W H : Int) (a : Option Addr) (n c : Nat) (zs : List Int) (k : Int) (w : World) (hT : Tab w) (h : Rd w a n c zs) (hr : n * 8 ≤ 140737488351232) :
    Calls Tryd.prog 3 #[.agg (gdA W H a n c), .int .i64 k] w fun e w' => e = .returned (.bool true) ∧ Below w.heap.size w w' := by
  have B0 : Below w.heap.size w (w.alloc (.cells (gdA W H a n c) 24)) := (Below.refl _ _).alloc (Nat.le_refl _) _
  have G0 := Gd.new w W H a n c
  obtain ⟨w1, hw1⟩ : ∃ w1, w.alloc (.cells (gdA W H a n c) 24) = w1 := ⟨_, rfl⟩
  rw [hw1] at B0 G0
  have hs1 : w.heap.size < w1.heap.size := G0.lt
  have HOF := hide (GridOf_own W H a n c zs w1 (h.mono B0) hr)
  have HGM := hide (fun w2 (hb : Below w.heap.size w w2) => GridMay_any W H a n c zs w2 (h.mono hb))
  have HB0 := hide B0
  have HG0 := hide G0
  have HT := hide hT
  have HR := hide h
  have hlen := h.len
  by_cases hF : fltG W H zs k = 0
  · have hmay : mayG W H zs = true := by
      unfold fltG at hF
      by_cases e : mayG W H zs = true
      · exact e
      · rw [if_neg e] at hF; omega
    have hk : 1 ≤ k ∧ k ≤ 10 := by
      unfold fltG at hF
      rw [if_pos hmay] at hF
      by_cases e : 1 ≤ k ∧ k ≤ 10
      · exact e
      · rw [if_neg e] at hF; omega
    rw [hmay] at HGM
    have hmp : mayP W H zs := of_decide_eq_true (by unfold mayG at hmay; exact hmay)
    obtain ⟨gW, gH, rfl, rfl, hgW, hgH, hm, hz⟩ := may_nat hmp
    obtain ⟨K, rfl⟩ := Int.eq_ofNat_of_zero_le (show 0 ≤ k by omega)
    rw [hlen] at hm hz
    have hK : 1 ≤ K ∧ K ≤ 10 := by omega
    have HWY := hide (fun a2 c2 w2 (hb : Below w.heap.size w w2) h2 => Won_yes gW gH a2 n c2 K zs hmp hK w2 (hT.mono hb) h2)
    have HWO := hide (fun w2 (hb : Below w.heap.size w w2) => WonOf_any gW gH a n c K zs hgW hgH hm hK hz w2 (h.mono hb))
    rw [won_list (by omega) hK.1 hm hz, won_same (by omega) hK.1 hm hz] at HWO
    have hkn : ¬ (K : Int) < 1 := by omega
    have hkn2 : ¬ (10 : Int) < (K : Int) := by omega
    clear hF hmay hk hmp hm hz h hT B0 G0
    generalize wn (sg zs (prt gW gH zs K n)) = V at *
    generalize prt gW gH zs K n = L at *
    go_enter Tryd.func3, Tryd.ntmps3
    have G1 := HG0.out
    go_wp2_with (refine wpList_load_gd rfl (.tmp 2) rfl w.heap.size rfl G1 ?_)
    clear G1 hw1
    refine HOF.out.mono ?_
    rintro e w2 ⟨a2, c2, rfl, hO2, hb2⟩
    have HB2 := hide (HB0.out.trans (hb2.mono HB0.out.size))
    have HG2 := hide (HG0.out.below hb2 hs1)
    have HR2 := hide (Rd.of_own hO2)
    clear hO2 hb2 HOF HB0 HG0
    go_wp2_with fail
    refine (HWY.out a2 c2 w2 HB2.out HR2.out).mono ?_
    rintro e w3 ⟨a3, c3, rfl, hR3, hb3⟩
    have HB3 := hide (HB2.out.trans (hb3.mono HB2.out.size))
    have HG3 := hide (HG2.out.below hb3 HG2.out.lt)
    have HR3 := hide hR3
    clear hR3 hb3 HR2 HG2 HB2 HWY
    have G3 := HG3.out
    go_wp2_with (refine wpList_load_gd rfl (.tmp 2) rfl w.heap.size rfl G3 ?_)
    clear G3
    refine (HGM.out w3 HB3.out).mono ?_
    rintro e w4 ⟨rfl, hb4⟩
    have HB4 := hide (HB3.out.trans (hb4.mono HB3.out.size))
    have HG4 := hide (HG3.out.below hb4 HG3.out.lt)
    have HR4 := hide (HR3.out.mono hb4)
    clear hb4 HR3 HG3 HB3 HGM
    have G4 := HG4.out
    go_wp2_with (refine wpList_load_gd rfl (.tmp 2) rfl w.heap.size rfl G4 ?_)
    clear G4
    refine (HWO.out w4 HB4.out).mono ?_
    rintro e w5 ⟨a5, c5, rfl, hR5, hb5⟩
    have HB5 := hide (HB4.out.trans (hb5.mono HB4.out.size))
    have HSM := hide (sameInts_any a3 a5 L.length c3 L.length c5 (toI L) (toI L) w5 (HR4.out.mono hb5) hR5)
    clear hR5 hb5 HR4 HG4 HB4 HWO
    have hVb : ((V : Int) == (V : Int)) = true := by simp
    go_wp2_with fail
    refine HSM.out.mono ?_
    rintro e w6 ⟨rfl, hq⟩
    have HB6 : Hid (Below w.heap.size w w6) := hide (by obtain ⟨q, rfl⟩ := hq; exact HB5.out.trans (drewN_below _ _ _))
    clear hq HSM HB5
    simp only [decide_true]
    go_wp2_with fail
    go_ret
    exact ⟨rfl, HB6.out⟩
  · have HWN := hide (fun a2 c2 w2 h2 => Won_no W H a2 n c2 zs k w2 h2 hF)
    have HFE : Hid (fltG W H zs k = if mayG W H zs = true then (if 1 ≤ k ∧ k ≤ 10 then 0 else 3) else 12) := hide (by unfold fltG; rfl)
    have hF' := hF
    obtain ⟨R, hR⟩ : ∃ R, fltG W H zs k = R := ⟨_, rfl⟩
    rw [hR] at HWN hF' HFE
    obtain ⟨M, hM⟩ : ∃ M, mayG W H zs = M := ⟨_, rfl⟩
    rw [hM] at HGM HFE
    have hne : (R == R) = true := by simp
    have hcase : M = false ∧ R = 12 ∨ M = true ∧ R = 3 ∧ k < 1 ∨ M = true ∧ R = 3 ∧ ¬ k < 1 ∧ 10 < k := by
      have e := HFE.out
      cases M with
      | false => rw [if_neg (by simp)] at e; exact Or.inl ⟨rfl, e⟩
      | true =>
        rw [if_pos rfl] at e
        by_cases hk : 1 ≤ k ∧ k ≤ 10
        · rw [if_pos hk] at e; exact absurd e hF'
        · rw [if_neg hk] at e
          by_cases hk1 : k < 1
          · exact Or.inr (Or.inl ⟨rfl, e, hk1⟩)
          · exact Or.inr (Or.inr ⟨rfl, e, hk1, by omega⟩)
    clear hF hF' HFE hR hM h hT B0 G0
    go_enter Tryd.func3, Tryd.ntmps3
    have G1 := HG0.out
    go_wp2_with (refine wpList_load_gd rfl (.tmp 2) rfl w.heap.size rfl G1 ?_)
    clear G1 hw1
    refine HOF.out.mono ?_
    rintro e w2 ⟨a2, c2, rfl, hO2, hb2⟩
    have HB2 := hide (HB0.out.trans (hb2.mono HB0.out.size))
    have HG2 := hide (HG0.out.below hb2 hs1)
    have HR2 := hide (Rd.of_own hO2)
    clear hO2 hb2 HOF HB0 HG0
    go_wp2_with fail
    refine (HWN.out a2 c2 w2 HR2.out).mono ?_
    rintro e w3 ⟨rfl, hb3⟩
    have HB3 := hide (HB2.out.trans (hb3.mono HB2.out.size))
    have HG3 := hide (HG2.out.below hb3 HG2.out.lt)
    clear hb3 HR2 HG2 HB2 HWN
    have G3 := HG3.out
    go_wp2_with (refine wpList_load_gd rfl (.tmp 2) rfl w.heap.size rfl G3 ?_)
    clear G3
    refine (HGM.out w3 HB3.out).mono ?_
    rintro e w4 ⟨rfl, hb4⟩
    have HB4 := hide (HB3.out.trans (hb4.mono HB3.out.size))
    clear hb4 HG3 HB3 HGM
    rcases hcase with ⟨rfl, rfl⟩ | ⟨rfl, rfl, hk1⟩ | ⟨rfl, rfl, hk1, hk2⟩
    · go_wp2_with fail
      go_ret
      exact ⟨rfl, HB4.out⟩
    · go_wp2_with fail
      go_ret
      exact ⟨rfl, HB4.out⟩
    · go_wp2_with fail
      go_ret
      exact ⟨rfl, HB4.out⟩

end Go.Proofs.YthdnbbjehcicbaaDoor
