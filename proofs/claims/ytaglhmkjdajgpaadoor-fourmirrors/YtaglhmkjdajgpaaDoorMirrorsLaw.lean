/-
  'gameroomkeep.FourMirrors' returns true. No conditions beyond those that the theorem bears.
-/
import Derived.Test.YtaglhmkjdajgpaaDoorMi
import Derived.Test.YtaglhmkjdajgpaaDoorAdM
namespace Go.Proofs.YtaglhmkjdajgpaaDoor
open Go.RowKit

theorem count49 (w : World) (hT : Tab w) : Calls Tryd.prog 20 #[.int .i64 7, .int .i64 6, .int .i64 4, .int .i64 2] w fun e w' => e = .returned (.tuple #[.int .i64 49, .int .i64 0]) ∧ Below w.heap.size w w' := by
  have h := Count_yes 7 6 4 2 (by omega) (by omega) (by omega) (by omega) w hT
  rw [cdp2_empty 7 6 4 (by omega) (by omega) (by omega)] at h
  exact h

theorem mv_lead {zs : List Int} (h : mvO zs ≠ 0) : (cnt zs 1 zs.length : Int) - (cnt zs 2 zs.length : Int) + 1 = (mvO zs : Int) := by
  unfold mvO at h ⊢
  by_cases e : cnt zs 1 zs.length = cnt zs 2 zs.length
  · rw [if_pos e]; omega
  · rw [if_neg e] at h ⊢
    by_cases e2 : cnt zs 1 zs.length = cnt zs 2 zs.length + 1
    · rw [if_pos e2]; omega
    · rw [if_neg e2] at h; exact absurd rfl h

theorem any_take {f : Nat → Bool} {l : List Nat} {i : Nat} (hi : i < l.length) : (l.take (i + 1)).any f = ((l.take i).any f || f (l.getD i 0)) := by
  rw [List.take_succ_eq_append_getElem hi, List.any_append]
  simp [List.getD, hi]

attribute [local irreducible] wmG mvO rbd hng mayP thr inR wnZ cnt falls mirL

set_option maxRecDepth 100000 in
set_option maxHeartbeats 8000000 in
theorem mirrors_any (W H : Int) (a : Option Addr) (n c : Nat) (zs : List Int) (k deep : Int) (w : World) (hT : Tab w) (h : Rd w a n c zs) (_hr : n * 8 ≤ 140737488351232) (hk : -9223372036854775808 ≤ k ∧ k ≤ 9223372036854775807) (hd : -9223372036854775808 ≤ deep ∧ deep ≤ 9223372036854775807) :
    Calls Tryd.prog 6 #[.agg (gdA W H a n c), .int .i64 k, .int .i64 deep] w fun e w' => e = .returned (.bool true) ∧ Below w.heap.size w w' := by
  have H1 := hide (fun w1 => picked_any k 5 w1 hk.1 hk.2 (by omega) (by omega))
  have H2 := hide (fun w1 => picked_any deep 3 w1 hd.1 hd.2 (by omega) (by omega))
  have l1 := pk_lt k 5 (by omega)
  have l2 := pk_lt deep 3 (by omega)
  generalize pk k 5 = p1 at *
  generalize pk deep 3 = p2 at *
  clear hk hd
  obtain ⟨K, hKe⟩ : ∃ K, 1 + p1 = K := ⟨_, rfl⟩
  obtain ⟨d, hde⟩ : ∃ d, 1 + p2 = d := ⟨_, rfl⟩
  have e1 : (1 : Int) + (p1 : Int) = (K : Int) := by omega
  have e2 : (1 : Int) + (p2 : Int) = (d : Int) := by omega
  have hK : 1 ≤ K ∧ K ≤ 10 := by omega
  have hd6 : 1 ≤ d ∧ d ≤ 6 := by omega
  have HB0 : Hid (Below w.heap.size w (w.alloc (.cells (gdA W H a n c) 24))) := hide ((Below.refl _ _).alloc (Nat.le_refl _) _)
  have HC := hide (count49 _ (hT.mono HB0.out))
  have HG0 := hide (Gd.new w W H a n c)
  have HT := hide hT
  clear hT hKe hde l1 l2
  cases hwm : wmG W H zs with
  | false =>
    have HBS := hide (fun w1 (hb : Below w.heap.size w w1) => Best_state W H a n c zs (K : Int) (d : Int) w1 (h.mono hb) hwm)
    clear h hwm
    go_enter Tryd.func6, Tryd.ntmps6
    go_wp2_with fail
    refine HC.out.mono ?_
    rintro e w2 ⟨rfl, hb2⟩
    have HB2 := hide (HB0.out.trans (hb2.mono HB0.out.size))
    have G2 := HG0.out.below hb2 HG0.out.lt
    have HG2 := hide G2
    clear hb2 HC
    go_wp2_with fail
    refine (H1.out _).mono ?_
    rintro e wx ⟨rfl, hwx⟩
    subst wx
    go_wp2_with fail
    refine (H2.out _).mono ?_
    rintro e wx ⟨rfl, hwx⟩
    subst wx
    go_wp2_with (refine wpList_load_gd rfl (.tmp 3) rfl w.heap.size rfl G2 ?_)
    clear G2
    refine (HBS.out _ HB2.out).mono ?_
    rintro e w3 ⟨rfl, hb3⟩
    have HB3 := hide (HB2.out.trans (hb3.mono HB2.out.size))
    have G3 := HG2.out.below hb3 HG2.out.lt
    have HG3 := hide G3
    clear hb3 HG2 HB2
    clear G3
    go_wp2_with fail
    go_ret
    exact ⟨by rfl, HB3.out⟩
  | true =>
    obtain ⟨gW, gH, rfl, rfl, hbw⟩ := wm_bw h hwm
    clear hwm
    have HBS := hide (fun w1 (hb : Below w.heap.size w w1) => Best_in gW gH a n c K d zs w1 (HT.out.mono hb) (h.mono hb) hbw hK hd6.2)
    have hm2 := mvO_12 zs
    have hn100 := hbw.n100
    have HBM := hide (fun a' c' w1 (hT1 : Tab w1) (hR : Rd w1 a' n c' (mirL gW zs)) => Best_in gW gH a' n c' K d (mirL gW zs) w1 hT1 hR (bw_mir hbw) hK hd6.2)
    have hz := hbw.z
    rw [← hbw.mul] at hz
    have hMM := mvO_mir (W := gW) (H := gH) (by have := hbw.wd; omega) hz.1
    have HRM := hide (fun m (hm : m = 1 ∨ m = 2) => rbd_mir (k := K) hbw.wd d 0 zs m hm (by omega) hz)
    have HWI := hide (fun m (hm : m = 1 ∨ m = 2) (h0 : wnZ gW gH K zs = 0) => wins_iff (m := m) hbw.wd hK.1 hm hd6 hz hbw.hn h0)
    have HML := hide (fun h0 => mv_lead (zs := zs) h0)
    have HCS := hide (fun v j (hj : j < zs.length) => cnt_succ (zs := zs) (v := v) (j := j) hj)
    have HMI := hide (fun w1 (hb : Below w.heap.size w w1) => mirrored_any gW gH a n c zs w1 (h.mono hb) hbw.wd hbw.ht hbw.mul)
    have HTY := hide (fun m (hm : m = 1 ∨ m = 2) w1 (hb : Below w.heap.size w w1) => Threats_yes gW gH a n c K m zs w1 (HT.out.mono hb) (h.mono hb) hbw hK hm)
    have HWN := hide (fun w1 (hb : Below w.heap.size w w1) => Won_yes gW gH a n c K zs hbw.may hK w1 (HT.out.mono hb) (h.mono hb))
    have HWZ : Hid (wn (sg zs (prt gW gH zs K n)) = wnZ gW gH K zs) := hide (by rw [wnZ, hbw.mul])
    have hlen := h.len
    have hcm := h.max
    unfold maxLen at hcm
    have hcc := h.cap
    have hn1 : 0 < n := by have := hbw.mul; have h1 : 1 * 1 ≤ gW * gH := Nat.mul_le_mul hbw.wd.1 hbw.ht.1; omega
    have hgW10 := hbw.wd
    obtain ⟨b, off, rfl, hc⟩ := h.cells hn1
    have hgb : b < w.heap.size := World.block_lt_of_cell? w _ (hc 0 hn1)
    have HCELL : Hid (∀ w1, Below w.heap.size w w1 → ∀ i, i < n → w1.cell? ⟨b, off + i, none⟩ = some (.int .i64 (zs.getD i 0))) := hide (fun w1 hb i hi => (hb.cell (p := ⟨b, off + i, none⟩) hgb).trans (hc i hi))
    have HRNG : Hid (∀ i, i < n → 0 ≤ zs.getD i 0 ∧ zs.getD i 0 ≤ 2) := hide hbw.z.2
    have HTM : Hid (∀ q, q ∈ thr gW gH K zs (mvO zs) n → q < n) := hide (fun q hq => by unfold thr at hq; exact List.mem_range.1 (List.mem_filter.1 hq).1)
    have HTLn := hide (thr_len gW gH K zs (mvO zs) n)
    rw [hMM] at HBM
    rw [hbw.mul] at HWI
    rw [hlen] at HML HCS
    obtain ⟨M, hM⟩ : ∃ M, mvO zs = M := ⟨_, rfl⟩
    rw [hM] at HBS hm2 HBM HML HTM HTLn
    clear h hc hbw hz hMM hlen hM
    by_cases hM0 : M = 0
    · rw [if_pos hM0, if_pos hM0, if_pos hM0] at HBS
      subst hM0
      go_enter Tryd.func6, Tryd.ntmps6
      go_wp2_with fail
      refine HC.out.mono ?_
      rintro e w2 ⟨rfl, hb2⟩
      have HB2 := hide (HB0.out.trans (hb2.mono HB0.out.size))
      have G2 := HG0.out.below hb2 HG0.out.lt
      have HG2 := hide G2
      clear hb2 HC
      go_wp2_with fail
      refine (H1.out _).mono ?_
      rintro e wx ⟨rfl, hwx⟩
      subst wx
      go_wp2_with fail
      refine (H2.out _).mono ?_
      rintro e wx ⟨rfl, hwx⟩
      subst wx
      go_wp2_with (refine wpList_load_gd rfl (.tmp 3) rfl w.heap.size rfl G2 ?_)
      clear G2
      refine (HBS.out _ HB2.out).mono ?_
      rintro e w3 ⟨rfl, hb3⟩
      have HB3 := hide (HB2.out.trans (hb3.mono HB2.out.size))
      have G3 := HG2.out.below hb3 HG2.out.lt
      have HG3 := hide G3
      clear hb3 HG2 HB2
      clear G3
      go_wp2_with fail
      go_ret
      exact ⟨by rfl, HB3.out⟩
    have hM12 : M = 1 ∨ M = 2 := by omega
    rw [if_neg hM0, if_neg hM0, if_neg hM0] at HBS HBM
    have HRM := hide (HRM.out M hM12)
    have HWI := hide (HWI.out M hM12)
    have HML := hide (HML.out hM0)
    have HTY := hide (HTY.out M hM12)
    obtain ⟨⟨Rv, Rc⟩, hR⟩ : ∃ P, rbd gW gH K d 0 zs M = P := ⟨_, rfl⟩
    obtain ⟨⟨Qv, Qc⟩, hQ⟩ : ∃ P, rbd gW gH K d 0 (mirL gW zs) M = P := ⟨_, rfl⟩
    rw [hR] at HBS HRM HWI
    rw [hQ] at HBM HRM
    dsimp only at HBS HBM HRM HWI
    rw [HRM.out] at HBM
    obtain ⟨TL, hTL⟩ : ∃ TL, thr gW gH K zs M n = TL := ⟨_, rfl⟩
    rw [hTL] at HTY HWI HTM HTLn
    obtain ⟨WN, hWN⟩ : ∃ WN, wnZ gW gH K zs = WN := ⟨_, rfl⟩
    rw [hWN] at HWI HWZ
    clear hR hQ hTL hWN HRM hM0
    go_enter Tryd.func6, Tryd.ntmps6
    go_wp2_with fail
    refine HC.out.mono ?_
    rintro e w2 ⟨rfl, hb2⟩
    have HB2 := hide (HB0.out.trans (hb2.mono HB0.out.size))
    have G2 := HG0.out.below hb2 HG0.out.lt
    have HG2 := hide G2
    clear hb2 HC
    go_wp2_with fail
    refine (H1.out _).mono ?_
    rintro e wx ⟨rfl, hwx⟩
    subst wx
    go_wp2_with fail
    refine (H2.out _).mono ?_
    rintro e wx ⟨rfl, hwx⟩
    subst wx
    go_wp2_with (refine wpList_load_gd rfl (.tmp 3) rfl w.heap.size rfl G2 ?_)
    clear G2
    refine (HBS.out _ HB2.out).mono ?_
    rintro e w3 ⟨rfl, hb3⟩
    have HB3 := hide (HB2.out.trans (hb3.mono HB2.out.size))
    have G3 := HG2.out.below hb3 HG2.out.lt
    have HG3 := hide G3
    clear hb3 HG2 HB2
    go_wp2_with (refine wpList_load_gd rfl (.tmp 3) rfl w.heap.size rfl G3 ?_)
    clear G3
    refine (HMI.out _ HB3.out).mono ?_
    rintro e w4 ⟨a4, c4, rfl, hR4, hb4⟩
    have HB4 := hide (HB3.out.trans (hb4.mono HB3.out.size))
    have HG4 := hide (HG3.out.below hb4 HG3.out.lt)
    have HBM4 := hide (HBM.out a4 c4 w4 (HT.out.mono HB4.out) hR4)
    clear hb4 hR4 HG3 HB3 HBM HMI
    go_wp2_with fail
    refine HBM4.out.mono ?_
    rintro e w5 ⟨rfl, hb5⟩
    have HB5 := hide (HB4.out.trans (hb5.mono HB4.out.size))
    have G5 := HG4.out.below hb5 HG4.out.lt
    have HG5 := hide G5
    clear hb5 HG4 HB4 HBM4 HBS
    have hvv : (Rv != Rv) = false := by simp
    go_wp2_with fail
    obtain ⟨g0, g1, g2⟩ := G5.cells
    clear G5 hvv
    go_loopw [16, 17] (fun u v wr => ∃ (j : Nat) (L : Int), v = .int .i64 j ∧ j ≤ n ∧ u = .int .i64 L ∧ -100 ≤ L ∧ L ≤ 100 ∧ Hid (L = (cnt zs 1 j : Int) - (cnt zs 2 j : Int)) ∧ w5 = wr) (fun _ v _ => n - (intOf v).toNat)
    case atStart => exact ⟨0, 0, rfl, by omega, rfl, by omega, by omega, hide (by rw [cnt_zero, cnt_zero]; rfl), rfl⟩
    case round =>
      obtain ⟨j, L, rfl, hj, rfl, hL1, hL2, hL, rfl⟩ := hrel
      by_cases hlt : j < n
      · have hlt' : (j : Int) < (n : Int) := by omega
        have cj := HCELL.out w5 HB5.out j hlt
        have hx02 := HRNG.out j hlt
        have q1 := HCS.out 1 j hlt
        have q2 := HCS.out 2 j hlt
        have hc1 := cnt_le zs 1 (j + 1)
        have hc2 := cnt_le zs 2 (j + 1)
        have HL3 := hide hL.out
        obtain ⟨x, hx⟩ : ∃ x, zs.getD j 0 = x := ⟨_, rfl⟩
        rw [hx] at cj hx02 q1 q2
        clear hx
        rcases (show x = 1 ∨ x = 2 ∨ x = 0 by omega) with rfl | rfl | rfl
        · rw [if_pos rfl] at q1
          rw [if_neg (by omega)] at q2
          have HN : Hid (L + 1 = (cnt zs 1 (j + 1) : Int) - (cnt zs 2 (j + 1) : Int)) := hide (by have := hL.out; omega)
          have hb : -100 ≤ L + 1 ∧ L + 1 ≤ 100 := by have := HN.out; omega
          clear q1 q2 hc1 hc2
          go_wp2_with fail
          exact ⟨⟨j + 1, L + 1, by go_num, by omega, rfl, hb.1, hb.2, HN, trivial⟩, by simp [intOf]; omega⟩
        · rw [if_neg (by omega)] at q1
          rw [if_pos rfl] at q2
          have HN : Hid (L - 1 = (cnt zs 1 (j + 1) : Int) - (cnt zs 2 (j + 1) : Int)) := hide (by have := hL.out; omega)
          have hb : -100 ≤ L - 1 ∧ L - 1 ≤ 100 := by have := HN.out; omega
          clear q1 q2 hc1 hc2
          go_wp2_with fail
          exact ⟨⟨j + 1, L - 1, by go_num, by omega, rfl, hb.1, hb.2, HN, trivial⟩, by simp [intOf]; omega⟩
        · rw [if_neg (by omega)] at q1 q2
          have HN : Hid (L = (cnt zs 1 (j + 1) : Int) - (cnt zs 2 (j + 1) : Int)) := hide (by have := hL.out; omega)
          clear q1 q2 hc1 hc2
          go_wp2_with fail
          exact ⟨⟨j + 1, L, by go_num, by omega, rfl, hL1, hL2, HN, trivial⟩, by simp [intOf]; omega⟩
      · have hlt' : ¬ (j : Int) < (n : Int) := by omega
        have hjn : j = n := by omega
        have hlead : (1 : Int) + L = (M : Int) := by have h1 := HML.out; have h2 := hL.out; rw [hjn] at h2; omega
        have G5 := HG5.out
        clear hjn hL
        go_wp2_with (refine wpList_load_gd rfl (.tmp 3) rfl w.heap.size rfl G5 ?_)
        refine (HTY.out w5 HB5.out).mono ?_
        rintro e w6 ⟨a6, c6, rfl, hR6, hb6⟩
        have HB6 := hide (HB5.out.trans (hb6.mono HB5.out.size))
        have G6 := HG5.out.below hb6 HG5.out.lt
        have HG6 := hide G6
        have HR6 := hide hR6
        clear hb6 hR6 HG5 HB5 HTY G5 g0 g1 g2
        go_wp2_with (refine wpList_load_gd rfl (.tmp 3) rfl w.heap.size rfl G6 ?_)
        clear G6
        refine (HWN.out w6 HB6.out).mono ?_
        rintro e w7 ⟨a7, c7, rfl, -, hb7⟩
        rw [HWZ.out]
        have HB7 := hide (HB6.out.trans (hb7.mono HB6.out.size))
        have HG7 := hide (HG6.out.below hb7 HG6.out.lt)
        have HR7 := hide (HR6.out.mono hb7)
        clear hb7 HG6 HB6 HR6 HWN
        by_cases hwn : 0 < WN
        · have hwn' : (0 : Int) < (WN : Int) := by omega
          go_wp2_with fail
          go_ret
          exact ⟨by rfl, HB7.out⟩
        · have hwn' : ¬ (0 : Int) < (WN : Int) := by omega
          have HWI2 := hide (HWI.out (by omega))
          clear hwn HWI
          go_wp2_with fail
          have hwB : decide (0 < WN) = false := decide_eq_false (by omega)
          try rw [hwB]
          clear hwn' hwB
          go_loopw [22, 23] (fun u v wr => ∃ i : Nat, v = .int .i64 i ∧ i ≤ TL.length ∧ u = .bool ((TL.take i).any fun q => falls gW n zs q) ∧ Hid (Below w7.heap.size w7 wr)) (fun _ v _ => TL.length - (intOf v).toNat)
          case atStart => exact ⟨0, rfl, by omega, rfl, hide (Below.refl _ _)⟩
          case round =>
            obtain ⟨i, rfl, hi, rfl, hB⟩ := hrel
            have hT100 := HTLn.out
            by_cases hlt2 : i < TL.length
            · have hlt2' : (i : Int) < (TL.length : Int) := by omega
              have hR8 := HR7.out.mono hB.out
              have hm8 := hR8.max
              unfold maxLen at hm8
              have hc8 := hR8.cap
              obtain ⟨bl, ol, rfl, hcl⟩ := hR8.cells (by omega)
              have ci := hcl i hlt2
              rw [show (toI TL).getD i 0 = ((TL.getD i 0 : Nat) : Int) by simp [toI, List.getD, hlt2]] at ci
              have hqn : TL.getD i 0 < n := HTM.out _ (by simp [List.getD, hlt2])
              have HAT := hide (any_take (f := fun q => falls gW n zs q) hlt2)
              obtain ⟨q, hq⟩ : ∃ q, TL.getD i 0 = q := ⟨_, rfl⟩
              rw [hq] at ci hqn HAT
              have HFQ : Hid (falls gW n zs q = (decide (n ≤ q + gW) || (zs.getD (q + gW) 0 != 0))) := hide (by rw [falls])
              obtain ⟨S, hS⟩ : ∃ S, q + gW = S := ⟨_, rfl⟩
              have hS' : (q : Int) + (gW : Int) = (S : Int) := by omega
              rw [hS] at HFQ
              obtain ⟨g0, g1, g2⟩ := (HG7.out.below hB.out HG7.out.lt).cells
              have HC8 := hide (HCELL.out wr (HB7.out.trans (hB.out.mono HB7.out.size)))
              obtain ⟨Fb, hFb⟩ : ∃ F, ((TL.take i).any fun q => falls gW n zs q) = F := ⟨_, rfl⟩
              rw [hFb] at HAT ⊢
              clear hR8 hcl hq hS hFb
              cases Fb with
              | true =>
                have HV : Hid (((TL.take (i + 1)).any fun q => falls gW n zs q) = true) := hide (by rw [HAT.out]; rfl)
                go_upto_region 29 with fail
                go_quiet (fail)
                go_wp2_with fail
                exact ⟨⟨i + 1, by go_num, by omega, by rw [HV.out], hide (hB.out.trans (drewN_below w7.heap.size wr _))⟩, by simp [intOf]; omega⟩
              | false =>
                by_cases hge : n ≤ S
                · have hge' : (n : Int) ≤ (S : Int) := by omega
                  have HV : Hid (((TL.take (i + 1)).any fun q => falls gW n zs q) = true) := hide (by rw [HAT.out, HFQ.out, decide_eq_true hge]; rfl)
                  go_upto_region 29 with fail
                  go_quiet (fail)
                  go_wp2_with fail
                  exact ⟨⟨i + 1, by go_num, by omega, by rw [HV.out], hide (hB.out.trans (drewN_below w7.heap.size wr _))⟩, by simp [intOf]; omega⟩
                · have hge' : ¬ (n : Int) ≤ (S : Int) := by omega
                  have cs := HC8.out S (by omega)
                  have HFQ2 : Hid (falls gW n zs q = (zs.getD S 0 != 0)) := hide (by rw [HFQ.out, decide_eq_false hge]; rfl)
                  obtain ⟨x, hx⟩ : ∃ x, zs.getD S 0 = x := ⟨_, rfl⟩
                  rw [hx] at cs HFQ2
                  have HV : Hid (((TL.take (i + 1)).any fun q => falls gW n zs q) = (x != 0)) := hide (by rw [HAT.out, HFQ2.out]; rfl)
                  clear hx
                  by_cases hx0 : x = 0
                  · have hxb : (x != (0 : Int)) = false := by simpa using hx0
                    have HV2 : Hid (((TL.take (i + 1)).any fun q => falls gW n zs q) = false) := hide (by rw [HV.out, hxb])
                    clear hx0
                    go_upto_region 29 with fail
                    go_quiet (fail)
                    go_wp2_with fail
                    exact ⟨⟨i + 1, by go_num, by omega, by rw [HV2.out], hide (hB.out.trans (drewN_below w7.heap.size wr _))⟩, by simp [intOf]; omega⟩
                  · have hxb : (x != (0 : Int)) = true := by simpa using hx0
                    have HV2 : Hid (((TL.take (i + 1)).any fun q => falls gW n zs q) = true) := hide (by rw [HV.out, hxb])
                    clear hx0
                    go_upto_region 29 with fail
                    go_quiet (fail)
                    go_wp2_with fail
                    exact ⟨⟨i + 1, by go_num, by omega, by rw [HV2.out], hide (hB.out.trans (drewN_below w7.heap.size wr _))⟩, by simp [intOf]; omega⟩
            · have hlt2' : ¬ (i : Int) < (TL.length : Int) := by omega
              have HV : Hid (((TL.take i).any fun q => falls gW n zs q) = decide (Rv = 99)) := hide (by rw [List.take_of_length_le (by omega)]; exact HWI2.out)
              rw [HV.out]
              have HBe := hide (HB7.out.trans (hB.out.mono HB7.out.size))
              by_cases h99 : Rv = 99
              · have hb9 : (Rv == (99 : Int)) = true := by simpa using h99
                have hd9 : decide (Rv = 99) = true := decide_eq_true h99
                rw [hd9]
                clear h99 hd9
                go_wp2_with fail
                go_ret
                exact ⟨by rfl, HBe.out⟩
              · have hb9 : (Rv == (99 : Int)) = false := by simpa using h99
                have hd9 : decide (Rv = 99) = false := decide_eq_false h99
                rw [hd9]
                clear h99 hd9
                go_wp2_with fail
                go_ret
                exact ⟨by rfl, HBe.out⟩

end Go.Proofs.YtaglhmkjdajgpaaDoor
