/-
  MovesOf, walked. No conditions beyond those that each theorem bears.
-/
import Derived.Test.YtmboikpcbkiepaaMvl
import Derived.Deep.Cut
import Derived.Deep.CutRange
import Derived.Deep.DeepCutAuto
namespace Go.Proofs.Ytmboikpcbkiepaa
open Go.RowKit

attribute [local irreducible] putL stR stF stX stL stA repB putA bothB twoB mvB

set_option maxRecDepth 100000 in
set_option maxHeartbeats 4000000 in
theorem MovesOf_any (a : Option Addr) (c : Nat) (P : List Int) (W B : Int) (t x y : Nat) (ht : t ≤ 1) (hx : 1 ≤ x ∧ x ≤ 6) (hy : 1 ≤ y ∧ y ≤ 6) (w : World) (h : Rd w a 26 c P) (hmay : mayP P W B t) :
    Calls Try.prog 16 #[.agg (gmA a 26 c W B t), .int .i64 x, .int .i64 y] w fun e w' => ∃ a' c', e = .returned (.slice a' (mvB t x y [⟨P, W, B⟩]).length c') ∧ Bs 0 w' (1 - (t : Int)) (.slice a' (mvB t x y [⟨P, W, B⟩]).length c') (mvB t x y [⟨P, W, B⟩]) ∧ Below w.heap.size w w' := by
  have HMS : Hid (MayL t [(⟨P, W, B⟩ : Bo)]) := hide (fun z hz => by rw [List.mem_singleton.1 hz]; exact hmay)
  have HSE : Hid ([(⟨P, W, B⟩ : Bo)].length = 1) := hide rfl
  obtain ⟨w1, hw1⟩ : ∃ w1, w.alloc (.cells (gmA a 26 c W B t) 24) = w1 := ⟨_, rfl⟩
  have HB1 : Hid (Below w.heap.size w w1) := hide (by rw [← hw1]; exact (Below.refl _ w).alloc (Nat.le_refl _) _)
  have HG1 : Hid (Gm w1 w.heap.size a 26 c W B t) := hide (by rw [← hw1]; exact Gm.new w _ _ _ _ _ _)
  have HGO := hide (GammonOf_own a 26 c P W B t w1 (h.mono HB1.out) (by omega))
  have HSI : Hid (∀ w2 g2 c2, Rd w2 (some ⟨g2, 0, none⟩) 26 c2 P → Bs 0 (w2.alloc (.cells (gmA (some ⟨g2, 0, none⟩) 26 c2 W B t) 24)) t (.slice (some ⟨w2.heap.size, 0, none⟩) 1 1) [⟨P, W, B⟩]) := hide (fun w2 g2 c2 hR => Bs.single w2 g2 c2 ⟨P, W, B⟩ t hR)
  obtain ⟨S, hS⟩ : ∃ S, [(⟨P, W, B⟩ : Bo)] = S := ⟨_, rfl⟩
  rw [hS] at HMS HSE HSI ⊢
  obtain ⟨BL, hBL⟩ : ∃ BL, mvB t x y S = BL := ⟨_, rfl⟩
  rw [hBL]
  have HBE := hide hBL
  have hBn : BL.length ≤ 800000 := by
    rw [← hBL]
    unfold mvB
    have hl := HSE.out
    split
    · have := repB_len (t := t) (p := x) (L := S) (by omega) 4
      have e : 25 ^ 4 = 390625 := rfl
      omega
    · unfold twoB
      have g1 := stA_len t (max x y) S
      have g2 := stA_len t (min x y) S
      have g3 := stA_len t (min x y) (stA t (max x y) S)
      have g4 := stA_len t (max x y) (stA t (min x y) S)
      have g5 := putA_len (stA t (min x y) (stA t (max x y) S)) (stA t (max x y) (stA t (min x y) S)) (stA t (max x y) (stA t (min x y) S)).length
      split
      · unfold bothB; omega
      · split
        · omega
        · split <;> omega
  obtain ⟨n, hnl⟩ : ∃ n, BL.length = n := ⟨_, rfl⟩
  rw [hnl] at hBn ⊢
  have HLN := hide hnl
  have htn : (1 : Int) - (t : Int) ≤ 1 := by omega
  have htn2 : (0 : Int) ≤ 1 - (t : Int) := by omega
  obtain ⟨T, hT⟩ : ∃ T, (1 : Int) - (t : Int) = T := ⟨_, rfl⟩
  rw [hT] at htn htn2 ⊢
  clear hBL hS h hmay hnl
  go_enter Try.func16, Try.ntmps16
  go_upto_region 1 with fail
  clear hw1
  have G1 := HG1.out
  go_wp2_with (refine wpList_load_gm rfl (.tmp 3) rfl w.heap.size rfl G1 ?_)
  clear G1
  refine HGO.out.mono ?_
  rintro e w2 ⟨a2, c2, rfl, hO2, hb2⟩
  obtain ⟨g2, rfl⟩ : ∃ g2, a2 = some ⟨g2, 0, none⟩ := by
    rcases hO2.2 with ⟨_, e0⟩ | ⟨g', cap, cur, e, _⟩
    · omega
    · simp only [Value.slice.injEq] at e
      exact ⟨g', e.1⟩
  have hS3 := HSI.out w2 g2 c2 (Rd.of_own hO2)
  have hB3 := (HB1.out.trans (hb2.mono HB1.out.size)).alloc (HB1.out.trans (hb2.mono HB1.out.size)).size (.cells (gmA (some ⟨g2, 0, none⟩) 26 c2 W B t) 24)
  obtain ⟨w3, hw3⟩ : ∃ w3, w2.alloc (.cells (gmA (some ⟨g2, 0, none⟩) 26 c2 W B t) 24) = w3 := ⟨_, rfl⟩
  obtain ⟨sb, hsb⟩ : ∃ sb, w2.heap.size = sb := ⟨_, rfl⟩
  rw [hw3, hsb] at hS3
  rw [hw3] at hB3
  have HS3 := hide hS3
  have HB3 := hide hB3
  clear hS3 hB3 hO2 hb2 HGO HG1 HB1 HSI
  go_upto_if 25 with fail
  clear hw3 hsb
  go_cut [1, 2, 8, 9, 10, 11, 12, 13, 14, 15] from 25 to 77 (fun _ _ s _ _ _ _ _ _ _ wc => ∃ (a' : Option Addr) (c' : Nat), s = .slice a' n c' ∧ Hid (Bs 0 wc t (.slice a' n c') BL) ∧ Hid (Below w.heap.size w wc))
  case first =>
    by_cases hxy : x = y
    · skip
      have hbe : ((x : Int) == (y : Int)) = true := by simp; omega
      have HE : Hid (BL = repB t x S 4) := hide (by
        have := HBE.out
        unfold mvB at this
        rw [if_pos hxy] at this
        exact this.symm)
      have HXY := hide hxy
      have HR0 : Hid (repB t x S 0 = S) := hide (by rw [repB])
      have HRS : Hid (∀ k, repB t x S (k + 1) = if stA t x (repB t x S k) = [] then repB t x S k else stA t x (repB t x S k)) := hide (fun k => by rw [repB])
      have HRM := hide (fun k => repB_may (k := k) (p := x) ht hx HMS.out)
      have HRN := hide (fun k => repB_len (t := t) (p := x) (L := S) (by rw [HSE.out]; exact Nat.le_refl _) k)
      have HRP := hide (fun k => repB_stop (t := t) (p := x) (L := S) (k := k))
      clear hxy HBE
      rw [hbe]
      clear hbe
      go_wp2_with fail
      go_loopw [8, 9, 10] (fun s u _ wr => ∃ (i : Nat) (oa : Option Addr) (oc : Nat), u = .int .i64 i ∧ i ≤ 4 ∧ s = .slice oa (repB t x S i).length oc ∧ Hid (Bs 0 wr t (.slice oa (repB t x S i).length oc) (repB t x S i)) ∧ Hid (Below w.heap.size w wr)) (fun _ u _ _ => 4 - (intOf u).toNat)
      case atStart =>
        refine ⟨0, some ⟨sb, 0, none⟩, 1, rfl, by omega, ?_, ?_, HB3⟩
        · rw [HR0.out, HSE.out]
        · rw [HR0.out, HSE.out]; exact HS3
      case round =>
        obtain ⟨i, oa, oc, rfl, hi, rfl, hO, hB⟩ := hrel
        clear HS3 HB3
        by_cases hlt : i < 4
        · have hlt' : (i : Int) < 4 := by omega
          have hrn : (repB t x S i).length ≤ 300000 := by
            have h1 := HRN.out i
            have h2 : 25 ^ i ≤ 25 ^ 3 := Nat.pow_le_pow_right (by omega) (by omega)
            have h3 : 25 ^ 3 = 15625 := rfl
            omega
          have HST := hide (stA_any _ (repB t x S i) t x ht hx wr hO.out hrn (HRM.out i))
          have HN := hide (HRS.out i)
          have HP := hide (HRP.out i)
          obtain ⟨R, hR⟩ : ∃ R, repB t x S i = R := ⟨_, rfl⟩
          rw [hR] at HST HN HP hO hrn ⊢
          obtain ⟨A, hA⟩ : ∃ A, stA t x R = A := ⟨_, rfl⟩
          rw [hA] at HST HN HP
          clear hR hA
          go_wp2_with fail
          refine HST.out.mono ?_
          rintro e w4 ⟨a4, c4, rfl, hS4, hb4⟩
          have HS4 := hide hS4
          have HB4 := hide (hB.out.trans (hb4.mono hB.out.size))
          have HO4 := hide (hO.out.below hb4)
          clear hS4 hb4 HST hO hB
          by_cases h0 : A = []
          · have hb0 : ((A.length : Int) == 0) = true := by rw [h0]; rfl
            have HEE : Hid (BL = R) := hide (by
              have := HP.out h0 (4 - i)
              rw [show i + (4 - i) = 4 by omega] at this
              rw [HE.out, this])
            have HA0 := hide h0
            clear h0
            go_wp2_with fail
            go_meet
            case rel =>
              have h1 : n = R.length := by rw [← HLN.out, HEE.out]
              refine ⟨oa, oc, by rw [h1], ?_, HB4⟩
              rw [h1, HEE.out]; exact HO4
          · have hb0 : ((A.length : Int) == 0) = false := by
              have := List.length_pos_iff.2 h0
              rw [beq_eq_false_iff_ne]; omega
            have HNA : Hid (repB t x S (i + 1) = A) := hide (by rw [HN.out, if_neg h0])
            clear h0
            go_wp2_with fail
            refine ⟨⟨i + 1, a4, c4, by go_num, by omega, ?_, ?_, HB4⟩, by simp [intOf]; omega⟩
            · rw [HNA.out]
            · rw [HNA.out]; exact HS4
        · have hlt' : ¬ (i : Int) < 4 := by omega
          obtain rfl : i = 4 := by omega
          go_wp2_with fail
          go_meet
          case rel =>
            have h1 : n = (repB t x S 4).length := by rw [← HLN.out, HE.out]
            refine ⟨oa, oc, by rw [h1], ?_, hB⟩
            rw [h1, HE.out]; exact hO
    · have hbe : ((x : Int) == (y : Int)) = false := by rw [beq_eq_false_iff_ne]; omega
      have HXY := hide hxy
      by_cases hxl : x < y
      · skip
        have hlt0 : (x : Int) < (y : Int) := by omega
        have HE0 : Hid (BL = twoB t y x S) := hide (by
          have := HBE.out
          unfold mvB at this
          rw [if_neg HXY.out, show max x y = y by omega, show min x y = x by omega] at this
          exact this.symm)
        have hls := HSE.out
        have HMG := hide (stA_may (p := y) ht (by omega) HMS.out)
        have HML := hide (stA_may (p := x) ht (by omega) HMS.out)
        have hlG := stA_len t y S
        have hlL := stA_len t x S
        have hlA := stA_len t x (stA t y S)
        have hlM := stA_len t y (stA t x S)
        have HC1 := hide (fun w1 (hb : Bs 0 w1 t (.slice (some ⟨sb, 0, none⟩) 1 1) S) => stA_any (.slice (some ⟨sb, 0, none⟩) 1 1) S t y ht (by omega) w1 hb (by omega) HMS.out)
        have HC2 := hide (fun w1 (hb : Bs 0 w1 t (.slice (some ⟨sb, 0, none⟩) 1 1) S) => stA_any (.slice (some ⟨sb, 0, none⟩) 1 1) S t x ht (by omega) w1 hb (by omega) HMS.out)
        have HC3 := hide (fun v w1 (hb : Bs 0 w1 t v (stA t y S)) => stA_any v (stA t y S) t x ht (by omega) w1 hb (by omega) HMG.out)
        have HC4 := hide (fun v w1 (hb : Bs 0 w1 t v (stA t x S)) => stA_any v (stA t x S) t y ht (by omega) w1 hb (by omega) HML.out)
        have HE : Hid (BL = if putA (stA t x (stA t y S)) (stA t y (stA t x S)) (stA t y (stA t x S)).length ≠ [] then putA (stA t x (stA t y S)) (stA t y (stA t x S)) (stA t y (stA t x S)).length else if stA t y S ≠ [] then stA t y S else if stA t x S ≠ [] then stA t x S else S) := hide (by rw [HE0.out]; unfold twoB bothB; rfl)
        generalize hA : stA t x (stA t y S) = A at *
        generalize hMM : stA t y (stA t x S) = M at *
        generalize stA t y S = G at *
        generalize stA t x S = Lo at *
        clear hA hMM HE0 HMG HML HBE
        have hnG : A.length ≤ 700 := by omega
        have hnM : M.length ≤ 700 := by omega
        have HPL := hide (putA_len A M)
        have HP0 : Hid (putA A M 0 = A) := hide (by rw [putA])
        have HPS : Hid (∀ i, putA A M (i + 1) = putL (putA A M i) (M.getD i b0)) := hide (fun i => by rw [putA])
        obtain ⟨nm, hnm⟩ : ∃ nm, M.length = nm := ⟨_, rfl⟩
        rw [hnm] at HC4 HE hnM
        have HNM := hide hnm
        clear hnm hlA hlM
        go_wp2_with fail
        clear hbe hlt0
        refine (HC1.out w3 HS3.out).mono ?_
        rintro e w4 ⟨a4, c4, rfl, hS4, hb4⟩
        have HS4 := hide hS4
        have HB4 := hide (HB3.out.trans (hb4.mono HB3.out.size))
        have HT4 := hide (HS3.out.below hb4)
        clear hS4 hb4 HC1 HB3 HS3
        go_wp2_with fail
        refine (HC2.out w4 HT4.out).mono ?_
        rintro e w5 ⟨a5, c5, rfl, hS5, hb5⟩
        have HS5 := hide hS5
        have HB5 := hide (HB4.out.trans (hb5.mono HB4.out.size))
        have HT5 := hide (HT4.out.below hb5)
        have HG5 := hide (HS4.out.below hb5)
        clear hS5 hb5 HC2 HB4 HT4 HS4
        go_wp2_with fail
        refine (HC3.out _ w5 HG5.out).mono ?_
        rintro e w6 ⟨a6, c6, rfl, hS6, hb6⟩
        have HS6 := hide hS6
        have HB6 := hide (HB5.out.trans (hb6.mono HB5.out.size))
        have HT6 := hide (HT5.out.below hb6)
        have HG6 := hide (HG5.out.below hb6)
        have HL6 := hide (HS5.out.below hb6)
        clear hS6 hb6 HC3 HB5 HT5 HG5 HS5
        go_wp2_with fail
        refine (HC4.out _ w6 HL6.out).mono ?_
        rintro e w7 ⟨a7, c7, rfl, hS7, hb7⟩
        have HS7 := hide hS7
        have HB7 := hide (HB6.out.trans (hb7.mono HB6.out.size))
        have HT7 := hide (HT6.out.below hb7)
        have HG7 := hide (HG6.out.below hb7)
        have HL7 := hide (HL6.out.below hb7)
        have HA7 := hide (HS6.out.below hb7)
        clear hS7 hb7 HC4 HB6 HT6 HG6 HL6 HS6
        obtain ⟨fa, fc, hfe, hf1, hf2, hf3⟩ := HS7.out.form
        simp only [Value.slice.injEq] at hfe
        obtain ⟨rfl, -, rfl⟩ := hfe
        unfold maxLen at hf2
        rw [HNM.out] at hf1
        have HGA := hide hf3
        clear hf3
        go_wp2_with fail
        go_loopw [13, 15] (fun o u wr => ∃ (i : Nat) (oa : Option Addr) (oc : Nat), u = .int .i64 i ∧ i ≤ nm ∧ o = .slice oa (putA A M i).length oc ∧ Hid (Bs 0 wr t (.slice oa (putA A M i).length oc) (putA A M i)) ∧ Hid (Below w7.heap.size w7 wr)) (fun _ u _ => nm - (intOf u).toNat)
        case atStart =>
          refine ⟨0, a6, c6, rfl, by omega, ?_, ?_, hide (Below.refl _ _)⟩
          · rw [HP0.out]
          · rw [HP0.out]; exact HA7
        case round =>
          obtain ⟨i, oa, oc, rfl, hi, rfl, hO, hB⟩ := hrel
          clear HA7
          by_cases hlt : i < nm
          · have hlt' : (i : Int) < (nm : Int) := by omega
            have hne : M ≠ [] := by
              intro e
              have := HNM.out
              rw [e] at this
              simp at this
              omega
            obtain ⟨ga, hla⟩ := HGA.out hne
            subst hla
            obtain ⟨g8, c8, hrg, hRx⟩ : ∃ g c, wr.rangeAt ga (i * 4) (bv g c (M.getD i b0) t) ∧ Rd wr (some ⟨g, 0, none⟩) 26 c (M.getD i b0).P := by
              rw [Nat.mul_comm]
              exact (HS7.out.below hB.out).at (by rw [HNM.out]; exact hlt)
            have HN := hide (HPS.out i)
            obtain ⟨x0, hx0⟩ : ∃ x0, M.getD i b0 = x0 := ⟨_, rfl⟩
            rw [hx0] at hrg hRx HN
            have hpl := HPL.out i
            have HPT := hide (put_any _ (putA A M i) g8 c8 x0 t wr hO.out (by omega) hRx)
            clear hx0 hne hRx
            go_wp2_with (refine wpList_load_bo rfl (.tmp 63) rfl ga (i * 4) rfl hrg ?_)
            refine HPT.out.mono ?_
            rintro e w9 ⟨v9, rfl, hB9, hb9⟩
            rw [← HN.out] at hB9
            obtain ⟨a9, c9, rfl, -, -, -⟩ := hB9.form
            have HB9 := hide (hB.out.trans (hb9.mono hB.out.size))
            have HO9 := hide hB9
            clear hB9 hb9 hO hB hrg HPT
            go_wp2_with fail
            exact ⟨⟨i + 1, a9, c9, by go_num, by omega, rfl, HO9, HB9⟩, by simp [intOf]; omega⟩
          · have hlt' : ¬ (i : Int) < (nm : Int) := by omega
            have hie : i = nm := by omega
            subst hie
            have HBW := hide (HB7.out.trans (hB.out.mono HB7.out.size))
            have HT8 := hide (HT7.out.below hB.out)
            have HG8 := hide (HG7.out.below hB.out)
            have HL8 := hide (HL7.out.below hB.out)
            have hpl := HPL.out i
            generalize putA A M i = Bb at *
            clear HT7 HG7 HL7 hB HB7
            have hE := HE.out
            by_cases h1 : Bb = []
            · have hb1 : (Bb.length : Int) = 0 := by rw [h1]; rfl
              have hn1 : ¬ (0 : Int) < (Bb.length : Int) := by omega
              rw [if_neg (by simpa using h1)] at hE
              have HB1' := hide hb1
              clear hb1 h1
              by_cases h2 : G = []
              · have hn2 : ¬ (0 : Int) < (G.length : Int) := by rw [h2]; simp
                rw [if_neg (by simpa using h2)] at hE
                clear h2
                by_cases h3 : Lo = []
                · have hn3 : ¬ (0 : Int) < (Lo.length : Int) := by rw [h3]; simp
                  rw [if_neg (by simpa using h3)] at hE
                  clear h3
                  have HEE := hide hE
                  clear hE
                  go_wp2_with fail
                  go_meet
                  case rel =>
                    have h1 : n = 1 := by rw [← HLN.out, HEE.out]; exact HSE.out
                    refine ⟨some ⟨sb, 0, none⟩, 1, by rw [h1], ?_, HBW⟩
                    rw [h1, HEE.out]; exact HT8
                · have hn3 : (0 : Int) < (Lo.length : Int) := by have := List.length_pos_iff.2 h3; omega
                  rw [if_pos (by simpa using h3)] at hE
                  clear h3
                  have HEE := hide hE
                  clear hE
                  go_wp2_with fail
                  go_meet
                  case rel =>
                    have h1 : n = Lo.length := by rw [← HLN.out, HEE.out]
                    refine ⟨a5, c5, by rw [h1], ?_, HBW⟩
                    rw [h1, HEE.out]; exact HL8
              · have hn2 : (0 : Int) < (G.length : Int) := by have := List.length_pos_iff.2 h2; omega
                rw [if_pos (by simpa using h2)] at hE
                clear h2
                have HEE := hide hE
                clear hE
                go_wp2_with fail
                go_meet
                case rel =>
                  have h1 : n = G.length := by rw [← HLN.out, HEE.out]
                  refine ⟨a4, c4, by rw [h1], ?_, HBW⟩
                  rw [h1, HEE.out]; exact HG8
            · have hn1 : (0 : Int) < (Bb.length : Int) := by have := List.length_pos_iff.2 h1; omega
              rw [if_pos (by simpa using h1)] at hE
              clear h1
              have HEE := hide hE
              clear hE
              go_wp2_with fail
              go_meet
              case rel =>
                have h1 : n = Bb.length := by rw [← HLN.out, HEE.out]
                refine ⟨oa, oc, by rw [h1], ?_, HBW⟩
                rw [h1, HEE.out]; exact hO
      · skip
        have hlt0 : ¬ (x : Int) < (y : Int) := by omega
        have HE0 : Hid (BL = twoB t x y S) := hide (by
          have := HBE.out
          unfold mvB at this
          rw [if_neg HXY.out, show max x y = x by omega, show min x y = y by omega] at this
          exact this.symm)
        have hls := HSE.out
        have HMG := hide (stA_may (p := x) ht (by omega) HMS.out)
        have HML := hide (stA_may (p := y) ht (by omega) HMS.out)
        have hlG := stA_len t x S
        have hlL := stA_len t y S
        have hlA := stA_len t y (stA t x S)
        have hlM := stA_len t x (stA t y S)
        have HC1 := hide (fun w1 (hb : Bs 0 w1 t (.slice (some ⟨sb, 0, none⟩) 1 1) S) => stA_any (.slice (some ⟨sb, 0, none⟩) 1 1) S t x ht (by omega) w1 hb (by omega) HMS.out)
        have HC2 := hide (fun w1 (hb : Bs 0 w1 t (.slice (some ⟨sb, 0, none⟩) 1 1) S) => stA_any (.slice (some ⟨sb, 0, none⟩) 1 1) S t y ht (by omega) w1 hb (by omega) HMS.out)
        have HC3 := hide (fun v w1 (hb : Bs 0 w1 t v (stA t x S)) => stA_any v (stA t x S) t y ht (by omega) w1 hb (by omega) HMG.out)
        have HC4 := hide (fun v w1 (hb : Bs 0 w1 t v (stA t y S)) => stA_any v (stA t y S) t x ht (by omega) w1 hb (by omega) HML.out)
        have HE : Hid (BL = if putA (stA t y (stA t x S)) (stA t x (stA t y S)) (stA t x (stA t y S)).length ≠ [] then putA (stA t y (stA t x S)) (stA t x (stA t y S)) (stA t x (stA t y S)).length else if stA t x S ≠ [] then stA t x S else if stA t y S ≠ [] then stA t y S else S) := hide (by rw [HE0.out]; unfold twoB bothB; rfl)
        generalize hA : stA t y (stA t x S) = A at *
        generalize hMM : stA t x (stA t y S) = M at *
        generalize stA t x S = G at *
        generalize stA t y S = Lo at *
        clear hA hMM HE0 HMG HML HBE
        have hnG : A.length ≤ 700 := by omega
        have hnM : M.length ≤ 700 := by omega
        have HPL := hide (putA_len A M)
        have HP0 : Hid (putA A M 0 = A) := hide (by rw [putA])
        have HPS : Hid (∀ i, putA A M (i + 1) = putL (putA A M i) (M.getD i b0)) := hide (fun i => by rw [putA])
        obtain ⟨nm, hnm⟩ : ∃ nm, M.length = nm := ⟨_, rfl⟩
        rw [hnm] at HC4 HE hnM
        have HNM := hide hnm
        clear hnm hlA hlM
        go_wp2_with fail
        clear hbe hlt0
        refine (HC1.out w3 HS3.out).mono ?_
        rintro e w4 ⟨a4, c4, rfl, hS4, hb4⟩
        have HS4 := hide hS4
        have HB4 := hide (HB3.out.trans (hb4.mono HB3.out.size))
        have HT4 := hide (HS3.out.below hb4)
        clear hS4 hb4 HC1 HB3 HS3
        go_wp2_with fail
        refine (HC2.out w4 HT4.out).mono ?_
        rintro e w5 ⟨a5, c5, rfl, hS5, hb5⟩
        have HS5 := hide hS5
        have HB5 := hide (HB4.out.trans (hb5.mono HB4.out.size))
        have HT5 := hide (HT4.out.below hb5)
        have HG5 := hide (HS4.out.below hb5)
        clear hS5 hb5 HC2 HB4 HT4 HS4
        go_wp2_with fail
        refine (HC3.out _ w5 HG5.out).mono ?_
        rintro e w6 ⟨a6, c6, rfl, hS6, hb6⟩
        have HS6 := hide hS6
        have HB6 := hide (HB5.out.trans (hb6.mono HB5.out.size))
        have HT6 := hide (HT5.out.below hb6)
        have HG6 := hide (HG5.out.below hb6)
        have HL6 := hide (HS5.out.below hb6)
        clear hS6 hb6 HC3 HB5 HT5 HG5 HS5
        go_wp2_with fail
        refine (HC4.out _ w6 HL6.out).mono ?_
        rintro e w7 ⟨a7, c7, rfl, hS7, hb7⟩
        have HS7 := hide hS7
        have HB7 := hide (HB6.out.trans (hb7.mono HB6.out.size))
        have HT7 := hide (HT6.out.below hb7)
        have HG7 := hide (HG6.out.below hb7)
        have HL7 := hide (HL6.out.below hb7)
        have HA7 := hide (HS6.out.below hb7)
        clear hS7 hb7 HC4 HB6 HT6 HG6 HL6 HS6
        obtain ⟨fa, fc, hfe, hf1, hf2, hf3⟩ := HS7.out.form
        simp only [Value.slice.injEq] at hfe
        obtain ⟨rfl, -, rfl⟩ := hfe
        unfold maxLen at hf2
        rw [HNM.out] at hf1
        have HGA := hide hf3
        clear hf3
        go_wp2_with fail
        go_loopw [13, 15] (fun o u wr => ∃ (i : Nat) (oa : Option Addr) (oc : Nat), u = .int .i64 i ∧ i ≤ nm ∧ o = .slice oa (putA A M i).length oc ∧ Hid (Bs 0 wr t (.slice oa (putA A M i).length oc) (putA A M i)) ∧ Hid (Below w7.heap.size w7 wr)) (fun _ u _ => nm - (intOf u).toNat)
        case atStart =>
          refine ⟨0, a6, c6, rfl, by omega, ?_, ?_, hide (Below.refl _ _)⟩
          · rw [HP0.out]
          · rw [HP0.out]; exact HA7
        case round =>
          obtain ⟨i, oa, oc, rfl, hi, rfl, hO, hB⟩ := hrel
          clear HA7
          by_cases hlt : i < nm
          · have hlt' : (i : Int) < (nm : Int) := by omega
            have hne : M ≠ [] := by
              intro e
              have := HNM.out
              rw [e] at this
              simp at this
              omega
            obtain ⟨ga, hla⟩ := HGA.out hne
            subst hla
            obtain ⟨g8, c8, hrg, hRx⟩ : ∃ g c, wr.rangeAt ga (i * 4) (bv g c (M.getD i b0) t) ∧ Rd wr (some ⟨g, 0, none⟩) 26 c (M.getD i b0).P := by
              rw [Nat.mul_comm]
              exact (HS7.out.below hB.out).at (by rw [HNM.out]; exact hlt)
            have HN := hide (HPS.out i)
            obtain ⟨x0, hx0⟩ : ∃ x0, M.getD i b0 = x0 := ⟨_, rfl⟩
            rw [hx0] at hrg hRx HN
            have hpl := HPL.out i
            have HPT := hide (put_any _ (putA A M i) g8 c8 x0 t wr hO.out (by omega) hRx)
            clear hx0 hne hRx
            go_wp2_with (refine wpList_load_bo rfl (.tmp 63) rfl ga (i * 4) rfl hrg ?_)
            refine HPT.out.mono ?_
            rintro e w9 ⟨v9, rfl, hB9, hb9⟩
            rw [← HN.out] at hB9
            obtain ⟨a9, c9, rfl, -, -, -⟩ := hB9.form
            have HB9 := hide (hB.out.trans (hb9.mono hB.out.size))
            have HO9 := hide hB9
            clear hB9 hb9 hO hB hrg HPT
            go_wp2_with fail
            exact ⟨⟨i + 1, a9, c9, by go_num, by omega, rfl, HO9, HB9⟩, by simp [intOf]; omega⟩
          · have hlt' : ¬ (i : Int) < (nm : Int) := by omega
            have hie : i = nm := by omega
            subst hie
            have HBW := hide (HB7.out.trans (hB.out.mono HB7.out.size))
            have HT8 := hide (HT7.out.below hB.out)
            have HG8 := hide (HG7.out.below hB.out)
            have HL8 := hide (HL7.out.below hB.out)
            have hpl := HPL.out i
            generalize putA A M i = Bb at *
            clear HT7 HG7 HL7 hB HB7
            have hE := HE.out
            by_cases h1 : Bb = []
            · have hb1 : (Bb.length : Int) = 0 := by rw [h1]; rfl
              have hn1 : ¬ (0 : Int) < (Bb.length : Int) := by omega
              rw [if_neg (by simpa using h1)] at hE
              have HB1' := hide hb1
              clear hb1 h1
              by_cases h2 : G = []
              · have hn2 : ¬ (0 : Int) < (G.length : Int) := by rw [h2]; simp
                rw [if_neg (by simpa using h2)] at hE
                clear h2
                by_cases h3 : Lo = []
                · have hn3 : ¬ (0 : Int) < (Lo.length : Int) := by rw [h3]; simp
                  rw [if_neg (by simpa using h3)] at hE
                  clear h3
                  have HEE := hide hE
                  clear hE
                  go_wp2_with fail
                  go_meet
                  case rel =>
                    have h1 : n = 1 := by rw [← HLN.out, HEE.out]; exact HSE.out
                    refine ⟨some ⟨sb, 0, none⟩, 1, by rw [h1], ?_, HBW⟩
                    rw [h1, HEE.out]; exact HT8
                · have hn3 : (0 : Int) < (Lo.length : Int) := by have := List.length_pos_iff.2 h3; omega
                  rw [if_pos (by simpa using h3)] at hE
                  clear h3
                  have HEE := hide hE
                  clear hE
                  go_wp2_with fail
                  go_meet
                  case rel =>
                    have h1 : n = Lo.length := by rw [← HLN.out, HEE.out]
                    refine ⟨a5, c5, by rw [h1], ?_, HBW⟩
                    rw [h1, HEE.out]; exact HL8
              · have hn2 : (0 : Int) < (G.length : Int) := by have := List.length_pos_iff.2 h2; omega
                rw [if_pos (by simpa using h2)] at hE
                clear h2
                have HEE := hide hE
                clear hE
                go_wp2_with fail
                go_meet
                case rel =>
                  have h1 : n = G.length := by rw [← HLN.out, HEE.out]
                  refine ⟨a4, c4, by rw [h1], ?_, HBW⟩
                  rw [h1, HEE.out]; exact HG8
            · have hn1 : (0 : Int) < (Bb.length : Int) := by have := List.length_pos_iff.2 h1; omega
              rw [if_pos (by simpa using h1)] at hE
              clear h1
              have HEE := hide hE
              clear hE
              go_wp2_with fail
              go_meet
              case rel =>
                have h1 : n = Bb.length := by rw [← HLN.out, HEE.out]
                refine ⟨oa, oc, by rw [h1], ?_, HBW⟩
                rw [h1, HEE.out]; exact hO
  case rest =>
    obtain ⟨a', c', rfl, HSc, HBc⟩ := hcut
    clear HS3 HB3 HMS HSE HBE
    obtain ⟨fa, fc, hfe, hf1, hf2, hf3⟩ := HSc.out.form
    simp only [Value.slice.injEq] at hfe
    obtain ⟨rfl, -, rfl⟩ := hfe
    unfold maxLen at hf2
    rw [HLN.out] at hf1
    have HGA := hide hf3
    clear hf3
    go_wp2_with fail
    go_loopw [16, 17, 18] (fun o u _ wr => ∃ (i : Nat) (oa : Option Addr) (oc : Nat), u = .int .i64 i ∧ i ≤ n ∧ o = .slice oa i oc ∧ Hid (Bs wc.heap.size wr T (.slice oa i oc) (BL.take i)) ∧ Hid (Below wc.heap.size wc wr)) (fun _ u _ _ => n - (intOf u).toNat)
    case atStart => exact ⟨0, none, 0, rfl, by omega, rfl, hide (Bs.nil _ _ _), hide (Below.refl _ _)⟩
    case round =>
      obtain ⟨i, oa, oc, rfl, hi, rfl, hO, hB⟩ := hrel
      by_cases hlt : i < n
      · have hlt' : (i : Int) < (n : Int) := by omega
        have hne : BL ≠ [] := by
          intro e
          have := HLN.out
          rw [e] at this
          simp at this
          omega
        obtain ⟨ga, hla⟩ := HGA.out hne
        subst hla
        obtain ⟨g, c5, hrg, hRx⟩ : ∃ g c, wr.rangeAt ga (i * 4) (bv g c (BL.getD i b0) t) ∧ Rd wr (some ⟨g, 0, none⟩) 26 c (BL.getD i b0).P := by
          rw [Nat.mul_comm]
          exact (HSc.out.below hB.out).at (by rw [HLN.out]; exact hlt)
        have HTK : Hid (BL.take (i + 1) = BL.take i ++ [BL.getD i b0]) := hide (by
          have : i < BL.length := by rw [HLN.out]; exact hlt
          rw [List.take_succ_eq_append_getElem this]
          simp [List.getD, this])
        have HTL : Hid ((BL.take i).length = i) := hide (by rw [List.length_take, HLN.out]; omega)
        obtain ⟨x0, hx0⟩ : ∃ x0, BL.getD i b0 = x0 := ⟨_, rfl⟩
        rw [hx0] at hrg hRx HTK
        have HGO := hide (GammonOf_own (some ⟨g, 0, none⟩) 26 c5 x0.P x0.W x0.B t wr hRx (by omega))
        clear hx0 hne hRx
        go_wp2_with (refine wpList_load_bo rfl (.tmp 86) rfl ga (i * 4) rfl hrg ?_)
        refine HGO.out.mono ?_
        rintro e w4 ⟨a4, c4, rfl, hO4, hb4⟩
        obtain ⟨g4, rfl⟩ : ∃ g4, a4 = some ⟨g4, 0, none⟩ := by
          rcases hO4.2 with ⟨_, e0⟩ | ⟨g', cap, cur, e, _⟩
          · omega
          · simp only [Value.slice.injEq] at e
            exact ⟨g', e.1⟩
        have HR4 := hide (Rd.of_own hO4)
        have HB4 := hide hb4
        clear hO4 hb4 hrg HGO
        have K5 := Gm.new w4 none 0 0 0 0 0
        go_upto_region 30 with (refine wpList_store_gm rfl (.tmp 18) (.tmp 88) rfl w4.heap.size rfl rfl K5 ?_; intro w6 k6 kk6)
        clear K5
        have hb6 : Below w4.heap.size w4 w6 := ((Below.refl _ w4).alloc (Nat.le_refl _) (.cells (gmA none 0 0 0 0 0) 24)).trans ((kk6.mono (Y := fun q => w4.heap.size ≤ q) (fun q _ e => by omega)).below (by simp) (fun q hq e => by omega))
        obtain ⟨-, -, -, k3⟩ := k6.cells
        have f3 := k6.frozen 3
        have k7 := k6.setT T
        have hb7 := hb6.setCell (p := ⟨w4.heap.size, 3, none⟩) (Nat.le_refl _) (.int .i64 T)
        obtain ⟨w7, hw7⟩ : ∃ w7, w6.setCell ⟨w4.heap.size, 3, none⟩ (.int .i64 T) = w7 := ⟨_, rfl⟩
        rw [hw7] at k7 hb7
        clear hb6 kk6 k6
        go_upto_region 31 with fail
        clear hw7 k3 f3
        have hr7 : Below wr.heap.size wr w7 := HB4.out.trans (hb7.mono HB4.out.size)
        have hB7 := hO.out.below hr7
        have HB7 := hide (hB.out.trans (hr7.mono hB.out.size))
        have hs7 := HB7.out.size
        have hR9 := (HR4.out.mono hb7).mono ((Below.refl _ w7).alloc (Nat.le_refl _) (.cells (gmA (some ⟨g4, 0, none⟩) 26 c4 x0.W x0.B T) 24))
        have hB9 := hB7.below ((Below.refl _ w7).alloc (Nat.le_refl _) (.cells (gmA (some ⟨g4, 0, none⟩) 26 c4 x0.W x0.B T) 24))
        have hb9 := HB7.out.alloc HB7.out.size (.cells (gmA (some ⟨g4, 0, none⟩) 26 c4 x0.W x0.B T) 24)
        have hC9 : ∀ j u, (bv g4 c4 x0 T)[j]? = some u → (w7.alloc (.cells (gmA (some ⟨g4, 0, none⟩) 26 c4 x0.W x0.B T) 24)).cell? ((⟨w7.heap.size, 0, none⟩ : Addr).add j) = some u := by
          intro j u hu
          rw [Addr.add_lit, Nat.zero_add]
          simp only [World.cell?, heap_alloc_new]
          match j, hu with
          | 0, hu => exact hu
          | 1, hu => exact hu
          | 2, hu => exact hu
          | 3, hu => exact hu
          | j + 4, hu => simp at hu
        have hV9 : Bv (w7.alloc (.cells (gmA (some ⟨g4, 0, none⟩) 26 c4 x0.W x0.B T) 24)) T (bv g4 c4 x0 T) [x0] := ⟨g4, c4, [], by simp, hR9, rfl⟩
        have hsz : wc.heap.size ≤ (w7.alloc (.cells (gmA (some ⟨g4, 0, none⟩) 26 c4 x0.W x0.B T) 24)).heap.size := by simp; omega
        obtain ⟨w9, hw9⟩ : ∃ w9, w7.alloc (.cells (gmA (some ⟨g4, 0, none⟩) 26 c4 x0.W x0.B T) 24) = w9 := ⟨_, rfl⟩
        rw [hw9] at hB9 hb9 hC9 hV9 hsz
        have hlk : (BL.take i).length + 1 ≤ 100000000 := by rw [HTL.out]; omega
        have HB9 := hide hb9
        clear hR9 hb9 hB7 hr7 hb7 hO HR4 HB4
        go_wp2_with (first | refine wpList_load_gm rfl (.tmp 18) rfl w4.heap.size rfl k7 ?_ | (at_builtin; refine wpList_append_bs w9 rfl _ _ rfl wc.heap.size T _ (BL.take i) rfl hB9 ⟨w7.heap.size, 0, none⟩ 1 1 (bv g4 c4 x0 T) [x0] rfl rfl hC9 hV9 hlk hsz ?_))
        intro v10 w10 hB10 hg10 hq10
        have HB10 := hide (HB9.out.grown hg10 hsz hq10)
        rw [← HTK.out] at hB10
        obtain ⟨a10, c10, rfl, -, -, -⟩ := hB10.form
        have hl10 : (BL.take (i + 1)).length = i + 1 := by rw [List.length_take, HLN.out]; omega
        rw [hl10] at hB10 ⊢
        have HS10 := hide hB10
        clear hB10 hg10 hq10 hB9 hC9 hV9 hw9 HB9 HB7 hl10 k7
        go_wp2_with fail
        exact ⟨⟨i + 1, a10, c10, by go_num, by omega, rfl, HS10, HB10⟩, by simp [intOf]; omega⟩
      · have hlt' : ¬ (i : Int) < (n : Int) := by omega
        have hie : i = n := by omega
        subst hie
        have hO2 := hO.out
        rw [List.take_of_length_le (by rw [HLN.out]; exact Nat.le_refl _)] at hO2
        have HO2 := hide hO2
        clear hO2
        go_wp2_with fail
        go_ret
        exact ⟨oa, oc, rfl, HO2.out.base (Nat.zero_le _), HBc.out.trans (hB.out.mono HBc.out.size)⟩

end Go.Proofs.Ytmboikpcbkiepaa
