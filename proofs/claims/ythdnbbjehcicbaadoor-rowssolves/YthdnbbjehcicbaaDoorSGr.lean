/-
  The reference's search: SolveGrid. No conditions beyond those that each theorem bears.
-/
import Derived.Test.YthdnbbjehcicbaaDoorSgm
import Derived.Test.YthdnbbjehcicbaaDoorGame
namespace Go.Proofs.YthdnbbjehcicbaaDoor
open Go.RowKit

/-- What SolveGrid does where e places are empty. -/
def SGok (W H k n e : Nat) : Prop := ∀ (Z : List Int) (m : Nat) (a : Option Addr) (c : Nat) (w : World), (∀ q, q < n → 0 ≤ Z.getD q 0 ∧ Z.getD q 0 ≤ 2) → (m = 1 ∨ m = 2) → nE (List.range n) Z = e → Rd w a n c Z →
  Calls Tryd.prog 15 #[.agg (gdA W H a n c), .int .i64 k, .int .i64 m] w fun r w' => ∃ a' c', r = .returned (.tuple #[.int .i64 (res W H k (List.range n) e Z m).1, .slice a' (res W H k (List.range n) e Z m).2.length c'])
    ∧ Rd w' a' (res W H k (List.range n) e Z m).2.length c' (toI (res W H k (List.range n) e Z m).2) ∧ Below w.heap.size w w'

theorem set_signs {n m : Nat} {Z : List Int} (hl : Z.length = n) (hz : ∀ q, q < n → 0 ≤ Z.getD q 0 ∧ Z.getD q 0 ≤ 2) (hm : m = 1 ∨ m = 2) (p : Nat) : ∀ q, q < n → 0 ≤ (Z.set p (m : Int)).getD q 0 ∧ (Z.set p (m : Int)).getD q 0 ≤ 2 := by
  intro q hq
  by_cases e : p = q
  · subst e; rw [getD_set_same (by omega)]; omega
  · rw [getD_set_other e]; exact hz q hq

theorem range_getD {n j : Nat} (h : j < n) : (List.range n).getD j 0 = j := by simp [List.getD, h]

attribute [local irreducible] inR val nE mvv bsj prt sg wn wnZ wY mkL mY

set_option maxRecDepth 100000 in
set_option maxHeartbeats 4000000 in
theorem SolveGrid_step (W H k n e : Nat) (hgW : 1 ≤ W ∧ W ≤ 10) (hgH : 1 ≤ H ∧ H ≤ 10) (hmn : W * H = n) (hk : 1 ≤ k ∧ k ≤ 10) (ih : 0 < e → SGok W H k n (e - 1)) : SGok W H k n e := by
  intro Z m a c w hz hm he h
  have hlen := h.len
  have hnq : n ≤ 100 := by
    have : W * H ≤ 10 * 10 := Nat.mul_le_mul hgW.2 hgH.2
    omega
  have hn1 : 0 < n := by
    have : 1 * 1 ≤ W * H := Nat.mul_le_mul hgW.1 hgH.1
    omega
  have hcm := h.max
  unfold maxLen at hcm
  have hcc := h.cap
  have HR := hide h
  have HWO := hide (fun w1 (hb : Below w.heap.size w w1) => WonOf_any W H a n c k Z hgW hgH hmn hk hz w1 (h.mono hb))
  rw [won_same (by omega) hk.1 hmn hz] at HWO
  have hwz : wn (sg Z (prt W H Z k n)) = wnZ W H k Z := by unfold wnZ; rw [hmn]
  rw [hwz] at HWO
  clear hwz
  obtain ⟨w1, hw1⟩ : ∃ w1, w.alloc (.cells (gdA W H a n c) 24) = w1 := ⟨_, rfl⟩
  have HB1 : Hid (Below w.heap.size w w1) := hide (by rw [← hw1]; exact (Below.refl _ w).alloc (Nat.le_refl _) _)
  have HG1 : Hid (Gd w1 w.heap.size W H a n c) := hide (by rw [← hw1]; exact Gd.new w W H a n c)
  have hmm : (m : Int) = 1 ∨ (m : Int) = 2 := by omega
  by_cases hV : wnZ W H k Z = 0
  · have hres : res W H k (List.range n) e Z m = bsj W H k (val W H k (List.range n) (e - 1)) (List.range n) Z m n := by unfold res; rw [hV, if_neg (by omega), if_neg (by omega), List.length_range]
    rw [hres]
    have HCALL : Hid (∀ p, p < n → Z.getD p 0 = 0 → ∃ r : Int × List Nat, -1 ≤ r.1 ∧ r.1 ≤ 1 ∧ - r.1 = mvv W H k (val W H k (List.range n) (e - 1)) Z m p ∧ ∀ a c w, Rd w a n c (Z.set p (m : Int)) → Calls Tryd.prog 15 #[.agg (gdA W H a n c), .int .i64 k, .int .i64 (3 - m : Nat)] w fun q w' => ∃ a' c' l, q = .returned (.tuple #[.int .i64 r.1, .slice a' l c']) ∧ Below w.heap.size w w') := hide (fun p hp hzp => by
      have hpm : p ∈ List.range n := List.mem_range.2 hp
      obtain ⟨e1, e2⟩ := res_set (p := p) (m := m) (O := List.range n) (e := e) (by omega) hk.1 (by omega) (by omega) hm (fun q hq => hz q (by omega)) hV List.nodup_range hpm hzp he
      have e0 : 0 < e := by
        have := nE_set (x := (m : Int)) (O := List.range n) List.nodup_range hpm (show p < Z.length by omega) hzp (by omega)
        omega
      refine ⟨res W H k (List.range n) (e - 1) (Z.set p (m : Int)) (3 - m), (res_bd ..).1, (res_bd ..).2, e2, fun a c w hR => ?_⟩
      refine (ih e0 (Z.set p (m : Int)) (3 - m) a c w (set_signs hlen hz hm p) (by omega) e1 hR).mono ?_
      rintro q w' ⟨a', c', rfl, _, hb⟩
      exact ⟨a', c', _, rfl, hb⟩)
    have HBB := hide (bsj_bd (W := W) (H := H) (k := k) (V := val W H k (List.range n) (e - 1)) (val_bd W H k (List.range n) (e - 1)) (List.range n) Z m)
    have HMB := hide (mvv_bd (W := W) (H := H) (k := k) (V := val W H k (List.range n) (e - 1)) (val_bd W H k (List.range n) (e - 1)) Z m)
    rw [hV] at HWO
    generalize val W H k (List.range n) (e - 1) = V at *
    obtain ⟨BS, hBS⟩ : ∃ BS, bsj W H k V (List.range n) Z m n = BS := ⟨_, rfl⟩
    rw [hBS]
    have HBS := hide hBS
    clear hBS
    obtain ⟨bsv, bsl⟩ := BS
    obtain ⟨m3, hm3⟩ : ∃ m3, 3 - m = m3 := ⟨_, rfl⟩
    have hm3i : (3 : Int) - (m : Int) = (m3 : Int) := by omega
    rw [hm3] at HCALL
    have hm0 : ((0 : Int) == (m : Int)) = false := by rw [beq_eq_false_iff_ne]; omega
    have HOF := hide (fun w1 (hb : Below w.heap.size w w1) => GridOf_own W H a n c Z w1 (h.mono hb) (by omega))
    have HLEN := hide hlen
    have HMM := hide hmm
    have HM := hide hm
    have hmb : (m : Int) ≤ 2 := by omega
    have hmb2 : (0 : Int) ≤ (m : Int) := by omega
    clear ih hV hres he hz hm3 h hlen hmm hm hmn hgW hgH
    go_enter Tryd.func15, Tryd.ntmps15
    go_upto_region 1 with fail
    clear hw1
    have G1 := HG1.out
    go_wp2_with (refine wpList_load_gd rfl (.tmp 3) rfl w.heap.size rfl G1 ?_)
    clear G1
    refine (HWO.out w1 HB1.out).mono ?_
    rintro r w2 ⟨a2, c2, rfl, hR2, hb2⟩
    have HB2 := hide (HB1.out.trans (hb2.mono HB1.out.size))
    have HG2 := hide (HG1.out.below hb2 HG1.out.lt)
    clear hR2 hb2 HB1 HG1 HWO
    go_wp2_with fail
    go_loopw [10, 11, 12, 13, 14, 15] (fun u v x _ _ _ wr => ∃ (j cp : Nat) (ad : Option Addr), x = .int .i64 j ∧ j ≤ n ∧ u = .int .i64 (bst (bsj W H k V (List.range n) Z m j)) ∧ v = .slice ad (bsj W H k V (List.range n) Z m j).2.length cp ∧ Hid (wr.ownsRow (w.heap.size + 1) 3 1 (.slice ad (bsj W H k V (List.range n) Z m j).2.length cp) (bsj W H k V (List.range n) Z m j).2.length ((toI (bsj W H k V (List.range n) Z m j).2).map (Value.int .i64))) ∧ Hid (Gd wr w.heap.size W H a n c) ∧ Hid (Below w.heap.size w wr)) (fun _ _ x _ _ _ _ => n - (intOf x).toNat)
    case atStart =>
      refine ⟨0, 0, none, rfl, by omega, ?_, ?_, ?_, HG2, HB2⟩
      · rw [bsj_zero]; rfl
      · rw [bsj_zero]; rfl
      · rw [bsj_zero]; exact World.ownsRow_nil _ _ _ _
    case round =>
      obtain ⟨j, cp, ad, rfl, hj, rfl, rfl, hO, hG, hB⟩ := hrel
      clear HG2 HB2
      have G := hG.out
      obtain ⟨-, -, g2⟩ := hG.out.cells
      by_cases hlt : j < n
      · have hlt' : (j : Int) < (n : Int) := by omega
        obtain ⟨b, off, ea, hc⟩ := (HR.out.mono hB.out).cells (by omega)
        have HEA := hide ea
        have hrj := range_getD hlt
        have HSK := hide (bsj_skip (W := W) (H := H) (k := k) (V := V) (O := List.range n) (Z := Z) (m := m) (j := j))
        have HNW := hide (bsj_new (W := W) (H := H) (k := k) (V := V) (O := List.range n) (Z := Z) (m := m) (j := j))
        have HSM := hide (bsj_same (W := W) (H := H) (k := k) (V := V) (O := List.range n) (Z := Z) (m := m) (j := j))
        have HLS := hide (bsj_less (W := W) (H := H) (k := k) (V := V) (O := List.range n) (Z := Z) (m := m) (j := j))
        rw [hrj] at HSK HNW HSM HLS
        have hbl := bsj_len W H k V (List.range n) Z m j
        have hbb := HBB.out j
        have HC := hide (HCALL.out j hlt)
        have cz := hc j hlt
        have hvb := HMB.out j
        subst ea
        obtain ⟨z, hze⟩ : ∃ z, Z.getD j 0 = z := ⟨_, rfl⟩
        rw [hze] at cz HSK HNW HSM HLS HC
        clear hc hrj
        by_cases hz0 : z = 0
        · have hzb : (z != 0) = false := by simp [hz0]
          have HZ0 := hide hz0
          obtain ⟨⟨r1, rl⟩, hr1, hr2, hrv, hcall⟩ := HC.out hz0
          simp only at hr1 hr2 hrv hcall
          have HCA := hide hcall
          clear hcall HC hz0 HSK
          obtain ⟨v, hve⟩ : ∃ v, mvv W H k V Z m j = v := ⟨_, rfl⟩
          rw [hve] at hvb HNW HSM HLS hrv
          have HVE := hide hve
          clear hve
          obtain ⟨Bn, hBn⟩ : ∃ Bn, bsj W H k V (List.range n) Z m (j + 1) = Bn := ⟨_, rfl⟩
          rw [hBn] at HNW HSM HLS
          have HBN := hide hBn
          clear hBn
          generalize bsj W H k V (List.range n) Z m j = B at *
          obtain ⟨bv, bl⟩ := B
          simp only at HNW HSM HLS hbl hbb hO ⊢
          obtain ⟨q, hq⟩ : ∃ q, bst (bv, bl) = q := ⟨_, rfl⟩
          rw [hq]
          have HQ : Hid ((if bl = [] then (-2 : Int) else bv) = q) := hide hq
          have hqb : -2 ≤ q ∧ q ≤ 1 := by
            have := HQ.out
            split at this <;> omega
          clear hq
          go_wp2_with (refine wpList_load_gd rfl (.tmp 3) rfl w.heap.size rfl G ?_)
          refine (HOF.out wr hB.out).mono ?_
          rintro e1 w2 ⟨a2, c2, rfl, hO2, hb2⟩
          obtain ⟨gb, rfl, hgb1, hgb2⟩ : ∃ gb, a2 = some ⟨gb, 0, none⟩ ∧ wr.heap.size ≤ gb ∧ gb < w2.heap.size := by
            rcases hO2.2 with ⟨_, e0⟩ | ⟨g', cap, cur, e, h1, h2, _⟩
            · omega
            · simp only [Value.slice.injEq] at e
              exact ⟨g', e.1, h1, (Array.getElem?_eq_some_iff.1 h2).1⟩
          have HO2 := hide hO2
          have HB2 := hide hb2
          clear hO2 hb2 g2 G cz
          have K3 := Gd.new w2 0 0 none 0 0
          go_upto_region 13 with (refine wpList_store_gd rfl (.tmp 13) (.tmp 41) rfl w2.heap.size rfl rfl K3 ?_; intro w4 k4 kk4)
          clear K3
          have hO4 : w4.ownsRow wr.heap.size 3 1 (.slice (some ⟨gb, 0, none⟩) n c2) n (Z.map (Value.int .i64)) := own_blk (HO2.out.alloc (.cells (gdA 0 0 none 0 0) 24)) (fun x hx => by
            simp only [Value.ownBlock, Option.some.injEq] at hx
            exact kk4.block x (by simp; omega) (by omega))
          have hb4 : Below wr.heap.size wr w4 := (HB2.out.alloc HB2.out.size (.cells (gdA 0 0 none 0 0) 24)).trans ((kk4.mono (Y := fun x => wr.heap.size ≤ x) (fun x _ ex => by have := HB2.out.size; omega)).below (by have := HB2.out.size; simp; omega) (fun x hx ex => by omega))
          have cj4 : w4.cell? ⟨gb, j, none⟩ = some (.int .i64 z) := by
            have hl := HLEN.out
            rw [hO4.cellAt j (by omega), ← hze]
            simp [List.getD, hl, hlt]
          have fj4 := hO4.frozenAt j
          have hO5 := (hO4.stored j (.int .i64 (m : Int))).1
          rw [← List.map_set] at hO5
          have k5 := k4.other (show w2.heap.size ≠ gb by omega) j (.int .i64 (m : Int))
          have hb5 := hb4.setCell (p := ⟨gb, j, none⟩) hgb1 (.int .i64 (m : Int))
          obtain ⟨-, -, g4⟩ := k4.cells
          obtain ⟨w5, hw5⟩ : ∃ w5, w4.setCell ⟨gb, j, none⟩ (.int .i64 (m : Int)) = w5 := ⟨_, rfl⟩
          rw [hw5] at hO5 k5 hb5
          have HC5 := hide (HCA.out _ c2 w5 (Rd.of_own hO5))
          have HK5 := hide k5
          have HG5 := hide (hG.out.below hb5 hG.out.lt)
          have HO5 := hide (own_below hO.out hb5)
          have HB5 := hide (hB.out.trans (hb5.mono hB.out.size))
          have hcm2 : c2 ≤ maxLen := (Rd.of_own hO5).max
          have hcc2 : n ≤ c2 := (Rd.of_own hO5).cap
          unfold maxLen at hcm2
          clear hO4 hb4 hO5 k5 hb5 kk4 k4 HO2 HB2 hO hG hB HCA hze
          have K5 := HK5.out
          go_wp2_with (refine wpList_load_gd rfl (.tmp 13) rfl w2.heap.size rfl K5 ?_)
          clear K5 hw5 cj4 fj4 g4
          refine HC5.out.mono ?_
          rintro e1 w6 ⟨a6, c6, l6, rfl, hb6⟩
          have HG6 := hide (HG5.out.below hb6 HG5.out.lt)
          have HO6 := hide (own_below HO5.out hb6)
          have HB6 := hide (HB5.out.trans (hb6.mono HB5.out.size))
          have HS6 : Hid (w.heap.size + 1 ≤ w6.heap.size) := hide (by have := HG6.out.lt; omega)
          clear hb6 HG5 HO5 HB5 HC5 HK5
          by_cases hgt : q < v
          · have HN := hide (HNW.out HZ0.out (by
              have := HQ.out
              by_cases hn : bl = []
              · exact Or.inl hn
              · rw [if_neg hn] at this; exact Or.inr (by omega)))
            clear HNW HSM HLS
            have hvv : (v == v) = true := by simp
            have hR1 : Rd (World.alloc w6 (.cells #[.int .i64 (j : Nat)] 3)) (some ⟨w6.heap.size, 0, none⟩) 1 1 [((j : Nat) : Int)] := Rd.of_blk (Blk.new w6 3 [((j : Nat) : Int)] _ rfl) rfl (by decide)
            have hOa := (World.ownsRow_nil w6 (w.heap.size + 1) 3 1).alloc (.cells #[.int .i64 (j : Nat)] 3)
            have hs6 := HS6.out
            have hBa := HB6.out.alloc HB6.out.size (.cells #[.int .i64 (j : Nat)] 3)
            have hCa := (Below.refl (w.heap.size + 1) w6).alloc hs6 (.cells #[.int .i64 (j : Nat)] 3)
            have hsz : w.heap.size + 1 ≤ (World.alloc w6 (.cells #[.int .i64 (j : Nat)] 3)).heap.size := by simp; omega
            go_wp2_with (at_builtin; refine wpList_append_rd _ rfl _ _ rfl (w.heap.size + 1) _ 0 [] rfl hOa (some ⟨w6.heap.size, 0, none⟩) 1 1 [((j : Nat) : Int)] rfl hR1 (by omega) hsz ?_)
            intro v' w7 hO7 hg7
            obtain ⟨ad7, cp7, rfl⟩ := slice_form hO7
            have hnew : ∀ q, (Value.slice none 0 0).ownBlock = some q → w.heap.size + 1 ≤ q := fun q hq => by cases hq
            have HB7 := hide (hBa.grown hg7 (by omega) (fun q h => by have := hnew q h; omega))
            have hC7 := hCa.grown hg7 hsz (fun q h => hnew q h)
            have HG7 := hide (HG6.out.below hC7 (by omega))
            have HO7 := hide hO7
            clear hO7 hg7 hR1 hOa hnew hBa hCa hC7 HB6 HG6 HO6 hsz
            go_wp2_with fail
            refine ⟨⟨j + 1, cp7, ad7, by go_num, by omega, ?_, ?_, ?_, HG7, HB7⟩, by simp [intOf]; omega⟩
            · rw [HBN.out, HN.out]; rfl
            · rw [HBN.out, HN.out]; rfl
            · rw [HBN.out, HN.out]; exact HO7
          · have hbn : bl ≠ [] := by
              intro hn
              have := HQ.out
              rw [if_pos hn] at this
              omega
            have hqe : bv = q := by have := HQ.out; rw [if_neg hbn] at this; exact this
            by_cases heq : v = q
            · have HN := hide (HSM.out HZ0.out hbn (by omega))
              have hvv : (v == q) = true := by simpa using heq
              have HEQ := hide heq
              have HQE := hide hqe
              clear HNW HSM HLS heq hqe
              have hR1 : Rd (World.alloc w6 (.cells #[.int .i64 (j : Nat)] 3)) (some ⟨w6.heap.size, 0, none⟩) 1 1 [((j : Nat) : Int)] := Rd.of_blk (Blk.new w6 3 [((j : Nat) : Int)] _ rfl) rfl (by decide)
              have hOa := (HO6.out).alloc (.cells #[.int .i64 (j : Nat)] 3)
              have hs6 := HS6.out
              have hBa := HB6.out.alloc HB6.out.size (.cells #[.int .i64 (j : Nat)] 3)
              have hCa := (Below.refl (w.heap.size + 1) w6).alloc hs6 (.cells #[.int .i64 (j : Nat)] 3)
              have hsz : w.heap.size + 1 ≤ (World.alloc w6 (.cells #[.int .i64 (j : Nat)] 3)).heap.size := by simp; omega
              go_wp2_with (at_builtin; refine wpList_append_rd _ rfl _ _ rfl (w.heap.size + 1) _ bl.length (toI bl) rfl hOa (some ⟨w6.heap.size, 0, none⟩) 1 1 [((j : Nat) : Int)] rfl hR1 (by omega) hsz ?_)
              intro v' w7 hO7 hg7
              obtain ⟨ad7, cp7, rfl⟩ := slice_form hO7
              have hnew : ∀ q, (Value.slice ad bl.length cp).ownBlock = some q → w.heap.size + 1 ≤ q := fun q hq => by rcases HO6.out.2 with ⟨e, _⟩ | ⟨g2, cap, cur, e, hbg, _⟩ <;> rw [e] at hq <;> simp [Value.ownBlock] at hq; omega
              have HB7 := hide (hBa.grown hg7 (by omega) (fun q h => by have := hnew q h; omega))
              have hC7 := hCa.grown hg7 hsz (fun q h => hnew q h)
              have HG7 := hide (HG6.out.below hC7 (by omega))
              have HO7 := hide hO7
              clear hO7 hg7 hR1 hOa hnew hBa hCa hC7 HB6 HG6 HO6 hsz
              go_wp2_with fail
              refine ⟨⟨j + 1, cp7, ad7, by go_num, by omega, ?_, ?_, ?_, HG7, HB7⟩, by simp [intOf]; omega⟩
              · rw [HBN.out, HN.out]; simp only [bst]; rw [if_neg (by simp)]; rw [HQE.out]
              · rw [HBN.out, HN.out, List.length_append]; rfl
              · rw [HBN.out, HN.out, List.length_append, toI_snoc, List.map_append]; exact HO7
            · have HN := hide (HLS.out HZ0.out hbn (by omega))
              have hvv : (v == q) = false := by simpa using heq
              have HQE := hide hqe
              clear HNW HSM HLS heq hqe
              go_wp2_with fail
              refine ⟨⟨j + 1, cp, ad, by go_num, by omega, ?_, ?_, ?_, HG6, HB6⟩, by simp [intOf]; omega⟩
              · rw [HBN.out, HN.out]; simp only [bst]; rw [if_neg hbn]; rw [HQE.out]
              · rw [HBN.out, HN.out]
              · rw [HBN.out, HN.out]; exact HO6
        · have hzb : (z != 0) = true := by simpa using hz0
          have HE := hide (HSK.out hz0)
          clear hze hz0 G
          go_wp2_with fail
          refine ⟨⟨j + 1, cp, ad, by go_num, by omega, ?_, ?_, ?_, hG, hB⟩, by simp [intOf]; omega⟩
          · rw [HE.out]
          · rw [HE.out]
          · rw [HE.out]; exact hO
      · have hlt' : ¬ (j : Int) < (n : Int) := by omega
        have hje : j = n := by omega
        subst hje
        have hnl := bsj_nil W H k V (List.range j) Z m j
        have hbb := HBB.out j
        clear G
        rw [HBS.out] at hnl hbb hO ⊢
        simp only at hnl hbb hO ⊢
        by_cases hbn : bsl = []
        · have h0 := hnl hbn
          have hq : bst (bsv, bsl) = -2 := by simp only [bst]; rw [if_pos hbn]
          rw [hq]
          simp only [Prod.mk.injEq] at h0
          obtain ⟨rfl, rfl⟩ := h0
          have h22 : ((-2 : Int) == -2) = true := by simp
          go_wp2_with fail
          go_ret2
          exact ⟨none, 0, rfl, Rd.of_nil _, hB.out⟩
        · have hq : bst (bsv, bsl) = bsv := by simp only [bst]; rw [if_neg hbn]
          rw [hq]
          have h22 : (bsv == -2) = false := by rw [beq_eq_false_iff_ne]; omega
          go_wp2_with fail
          go_ret2
          exact ⟨ad, cp, rfl, Rd.of_own hO.out, hB.out⟩
  · obtain ⟨X, hX⟩ : ∃ X, res W H k (List.range n) e Z m = X := ⟨_, rfl⟩
    have hXe : X = if wnZ W H k Z = m then (1, []) else (-1, []) := by
      rw [← hX]
      unfold res
      rw [if_pos (show 0 < wnZ W H k Z by omega)]
    rw [hX]
    have hVpos : 0 < wnZ W H k Z := by omega
    generalize wnZ W H k Z = V at *
    have HX := hide hXe
    have hV0 : ¬ (V : Int) < 1 := by omega
    have hV0' : (0 : Int) < (V : Int) := by omega
    clear ih hX hXe he hz h hlen hmm hmn hgW hgH hV
    by_cases hVm : V = m
    · have hx := HX.out
      rw [if_pos hVm] at hx
      subst hx
      have hb : ((V : Int) == (m : Int)) = true := by simp; omega
      have HVM := hide hVm
      clear hVm HX
      go_enter Tryd.func15, Tryd.ntmps15
      go_upto_region 1 with fail
      clear hw1
      have G1 := HG1.out
      go_wp2_with (refine wpList_load_gd rfl (.tmp 3) rfl w.heap.size rfl G1 ?_)
      clear G1
      refine (HWO.out w1 HB1.out).mono ?_
      rintro r w2 ⟨a2, c2, rfl, hR2, hb2⟩
      have HB2 := hide (HB1.out.trans (hb2.mono HB1.out.size))
      clear hR2 hb2 HB1 HG1 HWO
      go_wp2_with fail
      go_ret2
      exact ⟨none, 0, rfl, Rd.of_nil _, HB2.out⟩
    · have hx := HX.out
      rw [if_neg hVm] at hx
      subst hx
      have hb : ((V : Int) == (m : Int)) = false := by rw [beq_eq_false_iff_ne]; omega
      have HVM := hide hVm
      clear hVm HX
      go_enter Tryd.func15, Tryd.ntmps15
      go_upto_region 1 with fail
      clear hw1
      have G1 := HG1.out
      go_wp2_with (refine wpList_load_gd rfl (.tmp 3) rfl w.heap.size rfl G1 ?_)
      clear G1
      refine (HWO.out w1 HB1.out).mono ?_
      rintro r w2 ⟨a2, c2, rfl, hR2, hb2⟩
      have HB2 := hide (HB1.out.trans (hb2.mono HB1.out.size))
      clear hR2 hb2 HB1 HG1 HWO
      go_wp2_with fail
      go_ret2
      exact ⟨none, 0, rfl, Rd.of_nil _, HB2.out⟩

theorem SolveGrid_any (W H k n : Nat) (hgW : 1 ≤ W ∧ W ≤ 10) (hgH : 1 ≤ H ∧ H ≤ 10) (hmn : W * H = n) (hk : 1 ≤ k ∧ k ≤ 10) : ∀ e, SGok W H k n e
  | 0 => SolveGrid_step W H k n 0 hgW hgH hmn hk (fun h => by omega)
  | e + 1 => SolveGrid_step W H k n (e + 1) hgW hgH hmn hk (fun _ => SolveGrid_any W H k n hgW hgH hmn hk e)

end Go.Proofs.YthdnbbjehcicbaaDoor
