/-
  What crib.rowAtEnd and crib.Peg answer. No conditions beyond those that each theorem bears.
-/
import Derived.Test.YtneafmjbekafmaaPegCode
import Derived.Test.YtneafmjbekafmaaMay
namespace Go.Proofs.Ytneafmjbekafmaa
open Go.RowKit Go.Shelf

set_option maxRecDepth 100000 in
set_option maxHeartbeats 2000000 in
theorem rowAt_any (a : Option Addr) (n c : Nat) (L : List Nat) (hlt : ∀ x ∈ L, x < 52) (h1 : 1 ≤ n) (hn : n ≤ 13) (w : World) (h : Rd w a n c (toI L)) :
    Calls Try.prog 35 #[.slice a n c] w fun e w' => e = .returned (.int .i64 (rowTo L n : Nat)) ∧ Below w.heap.size w w' := by
  have hL : L.length = n := by have := h.len; rwa [toI_length] at this
  have HL := hide hL
  have HH := hide h
  have hcm := h.max
  have hcn := h.cap
  unfold maxLen at hcm
  obtain ⟨b, off, rfl, _⟩ := h.cells (by omega)
  have HLT := hide hlt
  clear h hL hlt
  go_enter Try.func35, Try.ntmps35
  go_wp2
  go_loopw [3] (fun v wr => ∃ l : Nat, l ≤ n ∧ v = .int .i64 l ∧ Hid (rowTo L n = rowTo L l) ∧ Hid (Below w.heap.size w wr)) (fun v _ => (intOf v).toNat)
  case atStart => exact ⟨n, Nat.le_refl _, rfl, rfl, Below.refl _ _⟩
  case round =>
    obtain ⟨l, hl, rfl, hR, hB⟩ := hrel
    by_cases h3 : 3 ≤ l
    · have h3' : (3 : Int) ≤ (l : Int) := by omega
      obtain ⟨k, hk⟩ : ∃ k, n - l = k := ⟨_, rfl⟩
      have e1 : (n : Int) - (l : Int) = (k : Int) := by omega
      have hkn : k ≤ n := by omega
      have hkc : k ≤ c := by omega
      have RF0 := (HH.out.mono hB.out).from hkn
      simp only [Option.map_some, Addr.add_lit] at RF0
      rw [show (toI L).drop k = toI (L.drop k) by simp [toI, List.map_drop], show n - k = l by omega] at RF0
      rw [if_neg (by omega)] at RF0
      have hnl : n - k = l := by omega
      have IR := hide (isRow_any _ l (c - k) (L.drop k) (fun x hx => HLT.out x (List.mem_of_mem_drop hx)) (by omega) (by omega) wr RF0)
      have HYES : Hid (rowB (L.drop k) = true → rowTo L n = l) := hide (fun hb => by
        rw [hR.out]
        exact rowTo_yes L l h3 (by rw [HL.out, hk]; exact hb))
      have HNO : Hid (rowB (L.drop k) = false → rowTo L n = rowTo L (l - 1)) := hide (fun hb => by
        rw [hR.out]
        exact rowTo_no L l h3 (by rw [HL.out, hk]; exact hb))
      generalize rowB (L.drop k) = bb at *
      have hck : ¬ (c : Int) < (k : Int) := by omega
      clear RF0 hk
      go_wp2_with fail
      refine IR.out.mono ?_
      rintro e w2 ⟨rfl, hB2⟩
      have HB2 := hide (hB.out.trans (hB2.mono hB.out.size))
      clear hB2 IR
      cases bb with
      | true =>
        have HE := hide (HYES.out rfl)
        clear HYES HNO hR
        go_wp2
        go_ret
        exact ⟨ret_intN (by rw [HE.out]), HB2.out⟩
      | false =>
        have HE := HNO.out rfl
        have HE2 := hide HE
        clear HYES HNO hR HE
        go_wp2
        go_roundw
        case rel => exact ⟨l - 1, by omega, by go_num, HE2, HB2.out⟩
        case measure => simp [intOf]; omega
    · have h3' : ¬ (3 : Int) ≤ (l : Int) := by omega
      have HE : Hid (rowTo L n = 0) := hide (by rw [hR.out]; exact rowTo_small L l (by omega))
      go_wp2
      go_ret
      exact ⟨ret_intN (by rw [HE.out]; rfl), hB.out⟩

/-- What crib.Peg answers. -/
structure PegOut (n : Nat) (zs : List Int) (V E : Int) : Prop where
  bad : ¬ (1 ≤ n ∧ n ≤ 13) → E = 11 ∧ V = 0
  may : 1 ≤ n → n ≤ 13 → ¬ mayE zs = 0 → E = mayE zs ∧ V = 0
  over : 1 ≤ n → n ≤ 13 → mayE zs = 0 → 31 < sumP (natL zs) n → E = 9 ∧ V = 0
  ok : 1 ≤ n → n ≤ 13 → mayE zs = 0 → sumP (natL zs) n ≤ 31 → E = 0 ∧ ∃ K, Alike (natL zs) K ∧ V = ((two (sumP (natL zs) n) + brings (natL zs) K : Nat) : Int)

theorem may_cards {zs : List Int} (h : mayE zs = 0) : (∀ x ∈ natL zs, x < 52) ∧ toI (natL zs) = zs ∧ (natL zs).Nodup := by
  obtain ⟨hr, hn⟩ := mayE_zero h
  refine ⟨?_, toI_natL hr, ?_⟩
  · intro x hx
    obtain ⟨z, hz, rfl⟩ := List.mem_map.1 hx
    simp only [inRange, List.all_eq_true, decide_eq_true_eq] at hr
    have := hr z hz
    omega
  · have hn' : (toI (natL zs)).Nodup := by rw [toI_natL hr]; exact hn
    rw [toI] at hn'
    exact (List.pairwise_map.1 hn').imp (fun h e => h (by rw [e]))

theorem two_yes {s : Nat} (h : s = 15 ∨ s = 31) : two s = 2 := by rw [two, if_pos h]
theorem two_no {s : Nat} (h : ¬ (s = 15 ∨ s = 31)) : two s = 0 := by rw [two, if_neg h]

set_option maxRecDepth 100000 in
set_option maxHeartbeats 2000000 in
theorem Peg_any (a : Option Addr) (n c : Nat) (zs : List Int) (w : World) (h : Rd w a n c zs) :
    Calls Try.prog 15 #[.slice a n c] w fun e w' => ∃ V E, PegOut n zs V E ∧ e = .returned (.tuple #[.int .i64 V, .int .i64 E]) ∧ Below w.heap.size w w' := by
  have hcm := h.max
  have hcn := h.cap
  unfold maxLen at hcm
  have HH := hide h
  by_cases h1 : 1 ≤ n
  · by_cases h13 : n ≤ 13
    · have h1' : ¬ (n : Int) < 1 := by omega
      have h13' : ¬ (13 : Int) < (n : Int) := by omega
      have CA := hide (cards_any a n c zs w h (by omega))
      by_cases hm : mayE zs = 0
      · obtain ⟨hlt, hti, hnd⟩ := may_cards hm
        have HM := hide hm
        rw [hm] at CA
        have hlen : (natL zs).length = n := by simp [natL]; exact h.len
        have HLEN := hide hlen
        have HTI := hide hti
        have SU := hide (fun w1 (hb : Below w.heap.size w w1) => sumOf_any a n c (natL zs) hlt h13 w1 (by rw [hti]; exact h.mono hb))
        have AL := hide (fun w1 (hb : Below w.heap.size w w1) => alike_any a n c (natL zs) hlt h1 h13 w1 (by rw [hti]; exact h.mono hb))
        have RA := hide (fun w1 (hb : Below w.heap.size w w1) => rowAt_any a n c (natL zs) hlt h1 h13 w1 (by rw [hti]; exact h.mono hb))
        have hsb := sumP_le (natL zs) n
        have FO : Hid (∀ K, Alike (natL zs) K → K ≤ 4) := hide (fun K hK => hK.four hnd hlt)
        obtain ⟨s, hs⟩ : ∃ s, sumP (natL zs) n = s := ⟨_, rfl⟩
        rw [hs] at SU hsb
        have HS := hide hs
        clear h hm hti hlen hs hnd hlt
        go_enter Try.func15, Try.ntmps15
        go_wp2_with fail
        refine CA.out.mono ?_
        rintro e w1 ⟨rfl, hB1⟩
        have HB1 := hide hB1
        clear hB1 CA
        go_wp2_with fail
        refine (SU.out w1 HB1.out).mono ?_
        rintro e w2 ⟨rfl, hw⟩
        subst w2
        by_cases h31 : 31 < s
        · have h31' : (31 : Int) < (s : Int) := by omega
          go_wp2
          go_ret2
          refine ⟨_, _, ⟨fun hh => absurd ⟨h1, h13⟩ hh, fun _ _ hh => absurd HM.out hh, fun _ _ _ _ => ⟨rfl, rfl⟩, fun _ _ _ hh => by rw [HS.out] at hh; omega⟩, rfl, HB1.out⟩
        · have h31' : ¬ (31 : Int) < (s : Int) := by omega
          have fin : Hid (∀ K, Alike (natL zs) K → ∀ V : Int, V = ((two s + brings (natL zs) K : Nat) : Int) → PegOut n zs V 0) := hide (fun K hK V hV =>
            ⟨fun hh => absurd ⟨h1, h13⟩ hh, fun _ _ hh => absurd HM.out hh, fun _ _ _ hh => by rw [HS.out] at hh; omega, fun _ _ _ _ => ⟨rfl, K, hK, by rw [HS.out]; exact hV⟩⟩)
          have BR : Hid (∀ K, brings (natL zs) K = if 1 < K then K * (K - 1) else rowTo (natL zs) n) := hide (fun K => by rw [brings, HLEN.out])
          have hrl := rowTo_le (natL zs) n
          clear HS HM SU
          by_cases h2 : s = 15 ∨ s = 31
          · have T2 := hide (two_yes h2)
            have d15 : ((s : Int) == 15 || (s : Int) == 31) = true := by
              rcases h2 with rfl | rfl <;> rfl
            rcases h2 with rfl | rfl
            all_goals
              rw [T2.out] at fin
              go_wp2_with fail
              refine (AL.out w1 HB1.out).mono ?_
              rintro e w2 ⟨K, hK, rfl, hw⟩
              subst w2
              have hK4 := FO.out K hK
              have hF := hide (fin.out K hK)
              have hBK := hide (BR.out K)
              by_cases hK1 : 1 < K
              · have hK1' : (1 : Int) < (K : Int) := by omega
                have PP := hide (pairPoints_any K (by omega))
                rw [if_pos hK1] at hBK
                have hq : K * (K - 1) ≤ 16 := Nat.mul_le_mul hK4 (show K - 1 ≤ 4 by omega)
                obtain ⟨q, hq'⟩ : ∃ q, K * (K - 1) = q := ⟨_, rfl⟩
                rw [hq'] at PP hBK hq
                clear hq'
                go_wp2_with fail
                refine (PP.out _).mono ?_
                rintro e w2 ⟨rfl, hw⟩
                subst w2
                go_wp2
                go_ret2
                exact ⟨_, _, hF.out _ (by rw [hBK.out]; omega), rfl, HB1.out⟩
              · have hK1' : ¬ (1 : Int) < (K : Int) := by omega
                rw [if_neg hK1] at hBK
                go_wp2_with fail
                refine (RA.out w1 HB1.out).mono ?_
                rintro e w2 ⟨rfl, hB2⟩
                have HB2 := hide (HB1.out.trans (hB2.mono HB1.out.size))
                clear hB2
                generalize rowTo (natL zs) n = q at *
                go_wp2
                go_ret2
                exact ⟨_, _, hF.out _ (by rw [hBK.out]; omega), rfl, HB2.out⟩
          · have T2 := hide (two_no h2)
            rw [T2.out] at fin
            have d15 : ((s : Int) == 15) = false := by simp; omega
            have d31 : ((s : Int) == 31) = false := by simp; omega
            go_wp2_with fail
            refine (AL.out w1 HB1.out).mono ?_
            rintro e w2 ⟨K, hK, rfl, hw⟩
            subst w2
            have hK4 := FO.out K hK
            have hF := hide (fin.out K hK)
            have hBK := hide (BR.out K)
            by_cases hK1 : 1 < K
            · have hK1' : (1 : Int) < (K : Int) := by omega
              have PP := hide (pairPoints_any K (by omega))
              rw [if_pos hK1] at hBK
              have hq : K * (K - 1) ≤ 16 := Nat.mul_le_mul hK4 (show K - 1 ≤ 4 by omega)
              obtain ⟨q, hq'⟩ : ∃ q, K * (K - 1) = q := ⟨_, rfl⟩
              rw [hq'] at PP hBK hq
              clear hq'
              go_wp2_with fail
              refine (PP.out _).mono ?_
              rintro e w2 ⟨rfl, hw⟩
              subst w2
              go_wp2
              go_ret2
              exact ⟨_, _, hF.out _ (by rw [hBK.out]; omega), rfl, HB1.out⟩
            · have hK1' : ¬ (1 : Int) < (K : Int) := by omega
              rw [if_neg hK1] at hBK
              go_wp2_with fail
              refine (RA.out w1 HB1.out).mono ?_
              rintro e w2 ⟨rfl, hB2⟩
              have HB2 := hide (HB1.out.trans (hB2.mono HB1.out.size))
              clear hB2
              generalize rowTo (natL zs) n = q at *
              go_wp2
              go_ret2
              exact ⟨_, _, hF.out _ (by rw [hBK.out]; omega), rfl, HB2.out⟩
      · have PO : Hid (PegOut n zs 0 (mayE zs)) := hide ⟨fun hh => absurd ⟨h1, h13⟩ hh, fun _ _ _ => ⟨rfl, rfl⟩, fun _ _ hh => absurd hh hm, fun _ _ hh => absurd hh hm⟩
        obtain ⟨x, hx⟩ : ∃ x, mayE zs = x := ⟨_, rfl⟩
        rw [hx] at CA hm PO
        clear h hx
        go_enter Try.func15, Try.ntmps15
        go_wp2_with fail
        refine CA.out.mono ?_
        rintro e w1 ⟨rfl, hB1⟩
        go_wp2
        go_ret2
        exact ⟨_, _, PO.out, rfl, hB1⟩
    · have h1' : ¬ (n : Int) < 1 := by omega
      have d1 : decide ((n : Int) < 1) = false := by simp; omega
      have h13' : (13 : Int) < (n : Int) := by omega
      go_enter Try.func15, Try.ntmps15
      go_wp2
      go_ret2
      exact ⟨_, _, ⟨fun _ => ⟨rfl, rfl⟩, fun _ hh => absurd hh h13, fun _ hh => absurd hh h13, fun _ hh => absurd hh h13⟩, rfl, Below.refl _ _⟩
  · have h1' : (n : Int) < 1 := by omega
    go_enter Try.func15, Try.ntmps15
    go_wp2
    go_ret2
    exact ⟨_, _, ⟨fun _ => ⟨rfl, rfl⟩, fun hh => absurd hh h1, fun hh => absurd hh h1, fun hh => absurd hh h1⟩, rfl, Below.refl _ _⟩

end Go.Proofs.Ytneafmjbekafmaa
