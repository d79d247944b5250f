/-
  shortest, Shortest and Joined, walked. No conditions beyond those that each theorem bears.
-/
import Derived.Test.YtldgikinmmkhiaaDoorNd
import Derived.Test.YtldgikinmmkhiaaDoorHf
namespace Go.Proofs.YtldgikinmmkhiaaDoor
open Go.RowKit Go.Shelf

/-- The least cost of a way from side to side is there, and one alone. -/
theorem ShR_exists {n m : Nat} {Z : List Int} : ∃ r, ShR n Z m r := by
  by_cases h : ∃ c, ∃ q, Wc n Z m q c ∧ ln n m q + 1 = n
  · obtain ⟨c, ⟨q, h1, h2⟩, h3⟩ := least_at h
    exact ⟨c, Or.inr ⟨q, c, rfl, h1, h2, fun q' c' k1 k2 => h3 c' ⟨q', k1, k2⟩⟩⟩
  · exact ⟨-1, Or.inl ⟨rfl, fun q c h1 h2 => h ⟨c, q, h1, h2⟩⟩⟩

/-- The least cost of a way from side to side. -/
noncomputable def shr (n : Nat) (Z : List Int) (m : Nat) : Int := Classical.choose (ShR_exists (n := n) (m := m) (Z := Z))
theorem shr_spec (n : Nat) (Z : List Int) (m : Nat) : ShR n Z m (shr n Z m) := Classical.choose_spec ShR_exists
theorem shr_eq {n m : Nat} {Z : List Int} {r : Int} (h : ShR n Z m r) : shr n Z m = r := (shr_spec n Z m).unique h

attribute [local irreducible] toI shr

set_option maxRecDepth 100000 in
set_option maxHeartbeats 4000000 in
theorem shortest_any (n cb co N bc m : Nat) (Z : List Int) (w : World) (hn : 1 ≤ n ∧ n ≤ 10) (hN : n * n = N) (hm : m = 1 ∨ m = 2) (hT : Tab w) (hR : Rd w (some ⟨cb, co, none⟩) N bc Z) :
    Calls Tryd.prog 37 #[.agg (gdA n n (some ⟨cb, co, none⟩) N bc), .int .i64 m] w fun e w' => e = .returned (.int .i64 (shr n Z m)) ∧ Below w.heap.size w w' := by
  have hN100 : N ≤ 100 := by rw [← hN]; exact Nat.mul_le_mul hn.2 hn.2
  have HNN := hide hN
  obtain ⟨w1, hw1⟩ : ∃ w1, w.alloc (.cells (gdA n n (some ⟨cb, co, none⟩) N bc) 55) = w1 := ⟨_, rfl⟩
  obtain ⟨s1, h1, B1⟩ := alloc_facts hw1
  have G1 : Hb w1 w.heap.size n n (some ⟨cb, co, none⟩) N bc := h1
  have HG1 := hide G1
  have HB1 := hide B1
  have HC := hide (needed_any n cb co N bc m Z w1 hn hN hm (hT.mono B1) (hR.mono B1))
  have HLA := hide (fun p hp W => last_any n (some ⟨cb, co, none⟩) N bc p m hn hp hm W)
  have HSH : Hid (∀ (T RL : List Nat) (b : Nat), St n Z m T RL → Cl n Z m T RL RL.length → Sd n Z m T (n * n) → Mn n m T (n * n) b → shr n Z m = if b = 101 then -1 else (b : Int)) := hide (fun T RL b k1 k2 k3 k4 =>
    shr_eq (k4.shr (by rw [hN]; exact hN100) k1.snd (fun q c hw => k2.least k1 k3 hw)))
  clear hT hR h1 s1 B1 hm
  generalize shr n Z m = V at *
  go_enter Tryd.func37, Tryd.ntmps37
  go_upto_region 2 with fail
  clear hw1
  go_wp2_with (first | (refine wpList_load_hb rfl (.tmp 2) rfl w.heap.size rfl G1 ?_) | fail)
  refine HC.out.mono ?_
  rintro e w2 ⟨g, T, RL, rfl, hBk, hSt, hCl, hSd, hB2⟩
  have HBK := hide hBk
  have HST := hide hSt
  have HSV := hide (fun b hb => HSH.out T RL b hSt hCl hSd hb)
  have HG2 := hide (HG1.out.below hB2 HG1.out.lt)
  have HB2 := hide (HB1.out.trans (hB2.mono HB1.out.size))
  have HGL : Hid (w.heap.size < w2.heap.size) := hide HG2.out.lt
  clear hBk hSt hCl hSd hB2 G1 HC HSH HG1 HB1
  go_wp2_with fail
  go_loopw [5, 12] (fun u v wr => ∃ (b k : Nat), u = .int .i64 b ∧ v = .int .i64 k ∧ k ≤ N ∧ b ≤ 101 ∧ Hid (Mn n m T k b) ∧ Hid (Below w2.heap.size w2 wr)) (fun _ v _ => N - (intOf v).toNat)
  case atStart => exact ⟨101, 0, rfl, rfl, by omega, by omega, hide (Mn.begin n m T), hide (Below.refl _ _)⟩
  case round =>
    obtain ⟨b, k, rfl, rfl, hkN, hb, hMn, hBl⟩ := hrel
    by_cases hk : k < N
    · have hk' : (k : Int) < (N : Int) := by omega
      have hkn : k < n * n := by rw [HNN.out]; exact hk
      have hTl : T.getD k 0 ≤ 101 := HST.out.le k hkn
      have ct : wr.cell? ⟨g, k, none⟩ = some (.int .i64 (T.getD k 0 : Nat)) := by
        have hkl : k < T.length := by rw [HST.out.len]; exact hkn
        rw [(HBK.out.below hBl.out HBK.out.lt).cell (by rw [toI_len]; exact hkl), toI_getD hkl]
      have hG := HG2.out.below hBl.out HGL.out
      have HL := hide (HLA.out k hkn wr)
      have HSK := hide (fun h => hMn.out.skip (k := k) h)
      have HTK := hide (fun h => hMn.out.take (k := k) h hTl)
      obtain ⟨t, ht⟩ : ∃ t, T.getD k 0 = t := ⟨_, rfl⟩
      rw [ht] at hTl ct HTK
      clear ht hkn
      by_cases hla : ln n m k + 1 = n
      · rw [decide_eq_true hla] at HL
        have HM := hide (HTK.out hla)
        clear hla HTK HSK
        go_wp2_with (first | (refine wpList_load_hb rfl (.tmp 2) rfl w.heap.size rfl hG ?_) | fail)
        refine HL.out.mono ?_
        rintro e w3 ⟨rfl, hb3⟩
        have HB3 := hide (hBl.out.trans (hb3.mono hBl.out.size))
        clear hG ct hb3 HL
        by_cases hbt : b ≤ t
        · rw [Nat.min_eq_left hbt] at HM
          have hbt' : (b : Int) ≤ (t : Int) := by omega
          have hmin : min (b : Int) (t : Int) = b := by omega
          go_wp2_with fail
          exact ⟨⟨b, k + 1, rfl, rfl, by omega, by omega, HM, HB3⟩, by simp only [intOf]; omega⟩
        · rw [Nat.min_eq_right (by omega)] at HM
          have hbt' : ¬ (b : Int) ≤ (t : Int) := by omega
          have hmin : min (b : Int) (t : Int) = t := by omega
          go_wp2_with fail
          exact ⟨⟨t, k + 1, rfl, rfl, by omega, by omega, HM, HB3⟩, by simp only [intOf]; omega⟩
      · rw [decide_eq_false hla] at HL
        have HM := hide (HSK.out hla)
        clear hla HTK HSK
        go_wp2_with (first | (refine wpList_load_hb rfl (.tmp 2) rfl w.heap.size rfl hG ?_) | fail)
        refine HL.out.mono ?_
        rintro e w3 ⟨rfl, hb3⟩
        have HB3 := hide (hBl.out.trans (hb3.mono hBl.out.size))
        clear hG ct hb3 HL
        go_wp2_with fail
        exact ⟨⟨b, k + 1, rfl, rfl, by omega, by omega, HM, HB3⟩, by simp only [intOf]; omega⟩
    · obtain rfl : N = k := by omega
      have HE := hide (HSV.out b (by rw [HNN.out]; exact hMn.out))
      have HB3 : Hid (Below w.heap.size w wr) := hide (HB2.out.trans (hBl.out.mono (by have := HGL.out; omega)))
      by_cases he : b = 101
      · have he' : ((b : Int) == 101) = true := by simp [he]
        rw [if_pos he] at HE
        clear he
        go_wp2_with fail
        go_ret
        exact ⟨ret_int (by rw [HE.out]), HB3.out⟩
      · have he' : ((b : Int) == 101) = false := by simp; omega
        rw [if_neg he] at HE
        clear he
        go_wp2_with fail
        go_ret
        exact ⟨ret_int (by rw [HE.out]), HB3.out⟩

end Go.Proofs.YtldgikinmmkhiaaDoor
