/-
  The document's own answer who has joined its sides, walked. No conditions beyond those that each theorem bears.
-/
import Derived.Test.YtldgikinmmkhiaaDoorRj1
namespace Go.Proofs.YtldgikinmmkhiaaDoor
open Go.RowKit Go.Shelf

set_option maxRecDepth 100000 in
set_option maxHeartbeats 16000000 in
theorem HexJoined_any (n cb co N bc : Nat) (Z : List Int) (w : World) (hn : 1 ≤ n ∧ n ≤ 10) (hN : n * n = N) (h : Rd w (some ⟨cb, co, none⟩) N bc Z) :
    Calls Tryd.prog 12 #[.agg (gdA n n (some ⟨cb, co, none⟩) N bc)] w fun e w' => ∃ a c, e = .returned (.tuple #[.int .i64 (jw n Z : Nat), .slice a (jl n Z).length c]) ∧ w'.ownsRow w.heap.size 3 1 (.slice a (jl n Z).length c) (jl n Z).length ((toI (jl n Z)).map (Value.int .i64)) ∧ Below w.heap.size w w' := by
  have hN100 : N ≤ 100 := by rw [← hN]; exact Nat.mul_le_mul hn.2 hn.2
  have hN1 : 1 ≤ N := by rw [← hN]; exact Nat.mul_le_mul hn.1 hn.1
  have HNN := hide hN
  have HHG := hide (fun (W : World) (m : Nat) (hb : Below w.heap.size w W) => HexGroups_any n cb co N bc m Z W hn hN (h.mono hb))
  have hwn : ¬ (n : Int) = 0 := by omega
  obtain ⟨i0, hi, hz0, hz1, hz2⟩ := info_parts Tryd.info4
  have hmm : N ≤ maxLen := by unfold maxLen; omega
  have hby : i0.bytes * N ≤ 281474976710656 := by rw [hz2]; omega
  clear h
  go_enter Tryd.func12, Tryd.ntmps12
  go_upto_region 1 with fail
  obtain ⟨w1, hw1⟩ : ∃ w1, w.alloc (.cells (gdA n n (some ⟨cb, co, none⟩) N bc) 24) = w1 := ⟨_, rfl⟩
  rw [hw1]
  obtain ⟨s1, h1, B1⟩ := alloc_facts hw1
  have G1 : Gd w1 w.heap.size n n (some ⟨cb, co, none⟩) N bc := h1
  have g0 := G1.cells.1
  have HG1 := hide G1
  have HB1 := hide B1
  clear hw1 h1 B1 s1 G1
  go_wp2_with fail
  clear g0
  go_loopw [5] (fun v wr => ∃ m : Nat, v = .int .i64 m ∧ 1 ≤ m ∧ m ≤ 3 ∧ Hid (Gd wr w.heap.size n n (some ⟨cb, co, none⟩) N bc) ∧ Hid (Below w.heap.size w wr) ∧ Hid (∀ k, 1 ≤ k → k < m → pls n (jnP n Z k) = [])) (fun v _ => 3 - (intOf v).toNat)
  case atStart => exact ⟨1, rfl, by omega, by omega, HG1, HB1, hide (fun k h1 h2 => by omega)⟩
  case round =>
    obtain ⟨m, rfl, hm1, hm3, hG, hB, hP⟩ := hrel
    clear HG1 HB1
    by_cases hm : m ≤ 2
    · have hm' : (m : Int) ≤ 2 := by omega
      have G1 := hG.out
      go_wp2_with (first | (refine wpList_load_gd rfl (.tmp 1) rfl w.heap.size rfl G1 ?_) | fail)
      refine (HHG.out _ m hB.out).mono ?_
      rintro e w2 ⟨a, c, rfl, hFl, hB2⟩
      obtain ⟨gs, hgs⟩ : ∃ gs, grps n Z m = gs := ⟨_, rfl⟩
      rw [hgs] at hFl ⊢
      obtain ⟨G, hGe⟩ : ∃ G, gs.length = G := ⟨_, rfl⟩
      rw [hGe] at hFl ⊢
      have HG2 : Hid (Gd w2 w.heap.size n n (some ⟨cb, co, none⟩) N bc) := hide (G1.below hB2 G1.lt)
      have HB2 : Hid (Below w.heap.size w w2) := hide (hB.out.trans (hB2.mono hB.out.size))
      have HFL := hide hFl
      have hGM : G ≤ maxLen := Nat.le_trans hFl.fr.cap hFl.fr.max
      unfold maxLen at hGM
      have HGL : Hid (∀ j, j < G → (∀ q ∈ gs.getD j [], q < N) ∧ (gs.getD j []).length ≤ N ∧ gs.getD j [] ≠ []) := hide (fun j hj => by
        rw [← HNN.out]
        refine grps_lt (Z := Z) (m := m) ?_
        rw [hgs]
        have hj2 : j < gs.length := by omega
        rw [show gs.getD j [] = gs[j] by simp [List.getD, hj2]]
        exact List.getElem_mem hj2)
      obtain ⟨QF, hQF⟩ : ∃ QF : Nat → List Nat, ∀ j, QF j = fl n m (gs.take j) := ⟨_, fun _ => rfl⟩
      have HQ0 : Hid (QF 0 = []) := hide (by rw [hQF]; simp [fl])
      have HQN : Hid (∀ j, j < G → QF (j + 1) = QF j ++ (if jnB n m (gs.getD j []) then gs.getD j [] else [])) := hide (fun j hj => by rw [hQF, hQF]; exact fl_take (by omega))
      have HQP : Hid (mkd (QF G) N = pls n (jnP n Z m)) := hide (by rw [hQF, ← hGe, List.take_length, ← hgs, ← HNN.out]; exact mkd_pls)
      have HQL : Hid ((pls n (jnP n Z m)).length = (QF G).length) := hide (by rw [hQF, ← hGe, List.take_length, ← hgs]; exact fl_length n m Z)
      have g2 := HG2.out.cells.2.2
      clear hQF hgs hFl hB2 hB hG G1
      go_wp2_with (at_make; refine wpList_make_full w2 rfl _ _ 58 rfl w2.heap.size 4 i0 (.bool false) 1 Tryd.underlying58 hi hz0 hz1 _ _ _ _ N rfl rfl rfl rfl hby hmm (Nat.le_refl _) ?_)
      intro w3 hown hgrow
      rw [made_bools] at hown
      have hb3 : Below w2.heap.size w2 w3 := (Below.refl _ _).grown hgrow (Nat.le_refl _) (fun k hk => by simp at hk)
      have hVb := own_vb hown
      obtain ⟨ib, hib⟩ : ∃ ib, w2.heap.size = ib := ⟨_, rfl⟩
      rw [hib] at hVb ⊢
      have HJ0 : Hid (Jq w.heap.size ib n cb co N bc a G c (toL gs) w w3 (QF 0)) := hide (by rw [HQ0.out]; exact Jq.begin HG2.out HFL.out hib hb3 hVb HB2.out)
      have HGE := hide hGe
      clear hown hgrow hb3 hVb hib g2 HFL HG2 HB2 hGe
      go_wp2_with fail
      go_loopw [8, 9] (fun u v wr => ∃ (b : Bool) (j : Nat), u = .bool b ∧ v = .int .i64 j ∧ j ≤ G ∧ Hid (b = true ↔ QF j ≠ []) ∧ Hid (Jq w.heap.size ib n cb co N bc a G c (toL gs) w wr (QF j))) (fun _ v _ => G - (intOf v).toNat)
      case atStart => exact ⟨false, 0, rfl, rfl, by omega, hide (by rw [HQ0.out]; simp), HJ0⟩
      case round =>
        obtain ⟨b, j, rfl, rfl, hjG, hb, hJ⟩ := hrel
        clear HJ0
        by_cases hj : j < G
        · have hj' : (j : Int) < (G : Int) := by omega
          have hGL := HGL.out j hj
          obtain ⟨b1, o1, rb, ro, c1, rfl, e1, hrb, hb1, hcl0⟩ := hJ.out.row hj hGL.2.2
          have HQS := hide (HQN.out j hj)
          obtain ⟨x, hx⟩ : ∃ x, gs.getD j [] = x := ⟨_, rfl⟩
          rw [hx] at hGL e1 hcl0 HQS
          obtain ⟨xl, hxl⟩ : ∃ xl, x.length = xl := ⟨_, rfl⟩
          rw [hxl] at hGL e1 hcl0
          have hx0 : 0 < xl := by rw [← hxl]; exact List.length_pos_iff.2 hGL.2.2
          have hx0' : (0 : Int) < (xl : Int) := by omega
          have hxN := hGL.2.1
          have hcl := hide hcl0
          have HXL := hide hxl
          have HXN : Hid (∀ k, k < xl → x.getD k 0 < N) := hide (fun k hk => by
            have hk2 : k < x.length := by omega
            rw [show x.getD k 0 = x[k] by simp [List.getD, hk2]]
            exact hGL.1 _ (List.getElem_mem hk2))
          have HTS : Hid (∀ k, k < xl → x.take (k + 1) = x.take k ++ [x.getD k 0]) := hide (fun k hk => by
            have hk2 : k < x.length := by omega
            rw [List.take_succ_eq_append_getElem hk2]; simp [List.getD, hk2])
          have HAS : Hid (∀ k, k < xl → jnA n m (x.take (k + 1)) = (jnA n m (x.take k) || decide (ln n m (x.getD k 0) = 0))) := hide (fun k hk => jnA_succ (by omega))
          have HZS : Hid (∀ k, k < xl → jnZ n m (x.take (k + 1)) = (jnZ n m (x.take k) || decide (ln n m (x.getD k 0) + 1 = n))) := hide (fun k hk => jnZ_succ (by omega))
          have HJB : Hid (jnB n m x = (jnA n m x && jnZ n m x)) := hide rfl
          clear hcl0 hx hxl hGL
          rename World => W1
          go_wp2_with fail
          go_loopw [10, 11, 12] (fun f l i wv => ∃ (fb lb : Bool) (k : Nat), f = .bool fb ∧ l = .bool lb ∧ i = .int .i64 k ∧ k ≤ xl ∧ W1 = wv ∧ Hid (fb = jnA n m (x.take k)) ∧ Hid (lb = jnZ n m (x.take k))) (fun _ _ i _ => xl - (intOf i).toNat)
          case atStart => exact ⟨false, false, 0, rfl, rfl, rfl, by omega, rfl, hide (by simp [jnA]), hide (by simp [jnZ])⟩
          case round =>
            obtain ⟨fb, lb, k, rfl, rfl, rfl, hkx, rfl, hfA, hfZ⟩ := hrel
            by_cases hk : k < xl
            · have hk' : (k : Int) < (xl : Int) := by omega
              have ck := hcl.out k hk
              have HA := hide (HAS.out k hk)
              have HZ := hide (HZS.out k hk)
              have hqN := HXN.out k hk
              clear hb hJ
              generalize x.getD k 0 = q at *
              obtain ⟨p1, p2, p3, p4⟩ := quo_rem (p := q) (n := n)
              have hdl : q / n ≤ q := Nat.div_le_self q n
              have hml : q % n ≤ q := Nat.mod_le q n
              obtain ⟨d1, hd1⟩ : ∃ d1, q / n = d1 := ⟨_, rfl⟩
              obtain ⟨d2, hd2⟩ : ∃ d2, q % n = d2 := ⟨_, rfl⟩
              rw [hd2] at p1 p2 hml
              rw [hd1] at p3 p4 hdl
              by_cases h2 : m = 2
              · have b2 : ((m : Int) == 2) = true := by simp; omega
                have HLN : Hid (ln n m q = d2) := hide (by unfold ln; rw [if_neg (by omega), hd2])
                clear h2 hd1 hd2
                cases fb with
                | true =>
                  cases lb with
                  | true =>
                    go_wp2_with fail
                    refine ⟨⟨true, true, k + 1, rfl, rfl, rfl, by omega, trivial, hide ?_, hide ?_⟩, by simp only [intOf]; omega⟩
                    · rw [HA.out, ← hfA.out, HLN.out]; rfl
                    · rw [HZ.out, ← hfZ.out, HLN.out]; rfl
                  | false =>
                    go_wp2_with fail
                    refine ⟨⟨true, ((d2 : Int) == (n : Int) - 1), k + 1, rfl, rfl, rfl, by omega, trivial, hide ?_, hide ?_⟩, by simp only [intOf]; omega⟩
                    · rw [HA.out, ← hfA.out, HLN.out]; rfl
                    · rw [HZ.out, ← hfZ.out, HLN.out]; (rw [Bool.eq_iff_iff]; simp; omega)
                | false =>
                  cases lb with
                  | true =>
                    go_wp2_with fail
                    refine ⟨⟨((d2 : Int) == 0), true, k + 1, rfl, rfl, rfl, by omega, trivial, hide ?_, hide ?_⟩, by simp only [intOf]; omega⟩
                    · rw [HA.out, ← hfA.out, HLN.out]; (rw [Bool.eq_iff_iff]; simp)
                    · rw [HZ.out, ← hfZ.out, HLN.out]; rfl
                  | false =>
                    go_wp2_with fail
                    refine ⟨⟨((d2 : Int) == 0), ((d2 : Int) == (n : Int) - 1), k + 1, rfl, rfl, rfl, by omega, trivial, hide ?_, hide ?_⟩, by simp only [intOf]; omega⟩
                    · rw [HA.out, ← hfA.out, HLN.out]; (rw [Bool.eq_iff_iff]; simp)
                    · rw [HZ.out, ← hfZ.out, HLN.out]; (rw [Bool.eq_iff_iff]; simp; omega)
              · have b2 : ((m : Int) == 2) = false := by simp; omega
                have HLN : Hid (ln n m q = d1) := hide (by unfold ln; rw [if_pos (by omega), hd1])
                clear h2 hd1 hd2
                cases fb with
                | true =>
                  cases lb with
                  | true =>
                    go_wp2_with fail
                    refine ⟨⟨true, true, k + 1, rfl, rfl, rfl, by omega, trivial, hide ?_, hide ?_⟩, by simp only [intOf]; omega⟩
                    · rw [HA.out, ← hfA.out, HLN.out]; rfl
                    · rw [HZ.out, ← hfZ.out, HLN.out]; rfl
                  | false =>
                    go_wp2_with fail
                    refine ⟨⟨true, ((d1 : Int) == (n : Int) - 1), k + 1, rfl, rfl, rfl, by omega, trivial, hide ?_, hide ?_⟩, by simp only [intOf]; omega⟩
                    · rw [HA.out, ← hfA.out, HLN.out]; rfl
                    · rw [HZ.out, ← hfZ.out, HLN.out]; (rw [Bool.eq_iff_iff]; simp; omega)
                | false =>
                  cases lb with
                  | true =>
                    go_wp2_with fail
                    refine ⟨⟨((d1 : Int) == 0), true, k + 1, rfl, rfl, rfl, by omega, trivial, hide ?_, hide ?_⟩, by simp only [intOf]; omega⟩
                    · rw [HA.out, ← hfA.out, HLN.out]; (rw [Bool.eq_iff_iff]; simp)
                    · rw [HZ.out, ← hfZ.out, HLN.out]; rfl
                  | false =>
                    go_wp2_with fail
                    refine ⟨⟨((d1 : Int) == 0), ((d1 : Int) == (n : Int) - 1), k + 1, rfl, rfl, rfl, by omega, trivial, hide ?_, hide ?_⟩, by simp only [intOf]; omega⟩
                    · rw [HA.out, ← hfA.out, HLN.out]; (rw [Bool.eq_iff_iff]; simp)
                    · rw [HZ.out, ← hfZ.out, HLN.out]; (rw [Bool.eq_iff_iff]; simp; omega)
            · obtain rfl : xl = k := by omega
              have hk' : ¬ ((xl : Int) < (xl : Int)) := by omega
              have HTX : Hid (x.take xl = x) := hide (by rw [← HXL.out, List.take_length])
              have HfA : Hid (fb = jnA n m x) := hide (by have := hfA.out; rw [HTX.out] at this; exact this)
              have HfZ : Hid (lb = jnZ n m x) := hide (by have := hfZ.out; rw [HTX.out] at this; exact this)
              clear hfA hfZ HTX HAS HZS
              cases fb with
              | true =>
                cases lb with
                | true =>
                  have HQ1 : Hid (QF (j + 1) = QF j ++ x) := hide (by rw [HQS.out, HJB.out, ← HfA.out, ← HfZ.out]; simp)
                  clear HfA HfZ HJB HQS
                  go_wp2_with fail
                  go_loopw [8, 14] (fun u i wv => ∃ (b' : Bool) (k : Nat), u = .bool b' ∧ i = .int .i64 k ∧ k ≤ xl ∧ Hid (b' = true ↔ QF j ++ x.take k ≠ []) ∧ Hid (Jq w.heap.size ib n cb co N bc (some ⟨b1, o1, none⟩) G c (toL gs) w wv (QF j ++ x.take k)) ∧ Hid (Keeps (fun z => z = ib) W1 wv)) (fun _ i _ => xl - (intOf i).toNat)
                  case atStart => exact ⟨b, 0, rfl, rfl, by omega, hide (by simpa using hb.out), hide (by simpa using hJ.out), hide (Keeps.refl _ _)⟩
                  case round =>
                    obtain ⟨b', k, rfl, rfl, hkx, hb', hJ2, hKp⟩ := hrel
                    have e2 := hKp.out.cell e1 (by show ¬ b1 = ib; omega)
                    by_cases hk : k < xl
                    · have hk' : (k : Int) < (xl : Int) := by omega
                      have ck := hKp.out.cell (hcl.out k hk) (by show ¬ rb = ib; omega)
                      have hqN := HXN.out k hk
                      have HTK := hide (HTS.out k hk)
                      generalize x.getD k 0 = q at *
                      have hqN' : (q : Int) < (N : Int) := by omega
                      have lk := hJ2.out.vb.cell (ibL_at hqN)
                      have fk := hJ2.out.vb.frozen q
                      have HS3 : Hid (Jq w.heap.size ib n cb co N bc (some ⟨b1, o1, none⟩) G c (toL gs) w (wr.setCell ⟨ib, q, none⟩ (.bool true)) (QF j ++ x.take (k + 1))) := hide (by rw [HTK.out, ← List.append_assoc]; exact hJ2.out.set q)
                      have HK3 : Hid (Keeps (fun z => z = ib) W1 (wr.setCell ⟨ib, q, none⟩ (.bool true))) := hide (hKp.out.setCell rfl _)
                      have HN3 : Hid (true = true ↔ QF j ++ x.take (k + 1) ≠ []) := hide (by rw [HTK.out]; simp)
                      generalize decide (q ∈ QF j ++ x.take k) = bb at *
                      clear hb' hJ2 hKp HTK e1
                      go_wp2_with fail
                      exact ⟨⟨true, k + 1, rfl, rfl, by omega, HN3, HS3, HK3⟩, by simp only [intOf]; omega⟩
                    · obtain rfl : k = xl := by omega
                      have hk' : ¬ ((k : Int) < (k : Int)) := by omega
                      have HTX : Hid (x.take k = x) := hide (by rw [← HXL.out, List.take_length])
                      have HJ3 : Hid (Jq w.heap.size ib n cb co N bc (some ⟨b1, o1, none⟩) G c (toL gs) w wr (QF (j + 1))) := hide (by have := hJ2.out; rw [HTX.out] at this; rw [HQ1.out]; exact this)
                      have HB3 : Hid (b' = true ↔ QF (j + 1) ≠ []) := hide (by have := hb'.out; rw [HTX.out] at this; rw [HQ1.out]; exact this)
                      clear hb' hJ2 hKp e1
                      go_wp2_with fail
                      exact ⟨⟨b', j + 1, rfl, rfl, by omega, HB3, HJ3⟩, by simp only [intOf]; omega⟩
                | false =>
                  have HQ1 : Hid (QF (j + 1) = QF j) := hide (by rw [HQS.out, HJB.out, ← HfA.out, ← HfZ.out]; simp)
                  have HJ3 : Hid (Jq w.heap.size ib n cb co N bc (some ⟨b1, o1, none⟩) G c (toL gs) w W1 (QF (j + 1))) := hide (by rw [HQ1.out]; exact hJ.out)
                  have HB3 : Hid (b = true ↔ QF (j + 1) ≠ []) := hide (by rw [HQ1.out]; exact hb.out)
                  clear HfA HfZ HJB HQS hJ hb
                  go_wp2_with fail
                  refine wp_loop_rounds 1 ?_
                  rw [rounds_succ]
                  go_wp2_with fail
                  exact ⟨⟨b, j + 1, rfl, rfl, by omega, HB3, HJ3⟩, by simp only [intOf]; omega⟩
              | false =>
                cases lb with
                | true =>
                  have HQ1 : Hid (QF (j + 1) = QF j) := hide (by rw [HQS.out, HJB.out, ← HfA.out, ← HfZ.out]; simp)
                  have HJ3 : Hid (Jq w.heap.size ib n cb co N bc (some ⟨b1, o1, none⟩) G c (toL gs) w W1 (QF (j + 1))) := hide (by rw [HQ1.out]; exact hJ.out)
                  have HB3 : Hid (b = true ↔ QF (j + 1) ≠ []) := hide (by rw [HQ1.out]; exact hb.out)
                  clear HfA HfZ HJB HQS hJ hb
                  go_wp2_with fail
                  refine wp_loop_rounds 1 ?_
                  rw [rounds_succ]
                  go_wp2_with fail
                  exact ⟨⟨b, j + 1, rfl, rfl, by omega, HB3, HJ3⟩, by simp only [intOf]; omega⟩
                | false =>
                  have HQ1 : Hid (QF (j + 1) = QF j) := hide (by rw [HQS.out, HJB.out, ← HfA.out, ← HfZ.out]; simp)
                  have HJ3 : Hid (Jq w.heap.size ib n cb co N bc (some ⟨b1, o1, none⟩) G c (toL gs) w W1 (QF (j + 1))) := hide (by rw [HQ1.out]; exact hJ.out)
                  have HB3 : Hid (b = true ↔ QF (j + 1) ≠ []) := hide (by rw [HQ1.out]; exact hb.out)
                  clear HfA HfZ HJB HQS hJ hb
                  go_wp2_with fail
                  refine wp_loop_rounds 1 ?_
                  rw [rounds_succ]
                  go_wp2_with fail
                  exact ⟨⟨b, j + 1, rfl, rfl, by omega, HB3, HJ3⟩, by simp only [intOf]; omega⟩
        · obtain rfl : j = G := by omega
          have hj' : ¬ ((j : Int) < (j : Int)) := by omega
          cases b with
          | false =>
            have HNE : Hid (pls n (jnP n Z m) = []) := hide (by
              have e : QF j = [] := by
                have := hb.out
                simpa using this
              rw [← HQP.out, e]; unfold mkd; simp)
            have HG3 := hide hJ.out.bd
            have HB3 := hide hJ.out.be
            clear hb hJ
            go_wp2_with fail
            refine ⟨⟨m + 1, rfl, by omega, by omega, HG3, HB3, hide (fun k h1 h2 => ?_)⟩, by simp only [intOf]; omega⟩
            by_cases e : k = m
            · rw [e]; exact HNE.out
            · exact hP.out k h1 (by omega)
          | true =>
            have HNE : Hid (pls n (jnP n Z m) ≠ []) := hide (by
              have e : QF j ≠ [] := hb.out.1 rfl
              intro e2
              have := HQL.out
              rw [e2] at this
              exact e (List.eq_nil_of_length_eq_zero this.symm))
            have HJW : Hid (jw n Z = m ∧ jl n Z = mkd (QF j) N) := hide (by
              rw [HQP.out]
              have hne := HNE.out
              rcases (by omega : m = 1 ∨ m = 2) with rfl | rfl
              · exact jw_first hne
              · exact jw_second (hP.out 1 (by omega) (by omega)) hne)
            clear HNE hb
            generalize QF j = Q at *
            rename World => W1
            have hwW := hJ.out.be.size
            go_wp2_with fail
            go_loopw [15, 16] (fun v i wv => ∃ (k xc : Nat) (xa : Option Addr), v = .slice xa (mkd Q k).length xc ∧ i = .int .i64 k ∧ k ≤ N ∧ Hid (wv.ownsRow W1.heap.size 3 1 (.slice xa (mkd Q k).length xc) (mkd Q k).length ((toI (mkd Q k)).map (Value.int .i64))) ∧ Hid (Below W1.heap.size W1 wv)) (fun _ i _ => N - (intOf i).toNat)
            case atStart =>
              refine ⟨0, 0, none, by rw [mkd_zero]; rfl, rfl, by omega, hide ?_, hide (Below.refl _ _)⟩
              rw [mkd_zero]
              exact own_nilI _ _
            case round =>
              obtain ⟨k, xc, xa, rfl, rfl, hkN, hO, hBy⟩ := hrel
              have HJ1 := hide (hJ.out.mono hBy.out)
              by_cases hk : k < N
              · have hk' : (k : Int) < (N : Int) := by omega
                have lk := HJ1.out.vb.cell (ibL_at hk)
                have HSU := hide (mkd_succ Q k)
                have hxl := mkd_len Q k
                obtain ⟨X, hX⟩ : ∃ X, mkd Q k = X := ⟨_, rfl⟩
                rw [hX] at hO HSU hxl ⊢
                obtain ⟨xl, hxle⟩ : ∃ xl, X.length = xl := ⟨_, rfl⟩
                rw [hxle] at hO hxl ⊢
                have HXL := hide hxle
                clear hX hxle HJ1
                by_cases h1 : k ∈ Q
                rotate_left
                · rw [decide_eq_false h1] at lk
                  rw [if_neg h1, List.append_nil] at HSU
                  clear h1
                  go_wp2_with fail
                  refine ⟨⟨k + 1, xc, xa, by rw [HSU.out, HXL.out], rfl, by omega, hide (by rw [HSU.out, HXL.out]; exact hO.out), hBy⟩, by simp only [intOf]; omega⟩
                rw [decide_eq_true h1] at lk
                rw [if_pos h1] at HSU
                have HLE1 : Hid ((X ++ [k]).length = xl + 1) := hide (by simp [HXL.out])
                have hOa := hO.out.alloc (.cells #[.int .i64 k] 3)
                have N5a := one_rd wr k
                have hsy := hBy.out.size
                clear h1
                go_wp2_with (at_builtin; refine wpList_append_i _ rfl _ _ rfl W1.heap.size _ xl _ rfl hOa ⟨wr.heap.size, 0, none⟩ 1 1 [(k : Int)] rfl N5a (by omega) (by omega) (by simp; omega) ?_)
                intro v' w6 hO6 hg6 _
                obtain ⟨a6, c6, rfl⟩ := slice_form hO6
                have HO6 : Hid (w6.ownsRow W1.heap.size 3 1 (.slice a6 (xl + 1) c6) (xl + 1) ((toI (X ++ [k])).map (Value.int .i64))) := hide (by rw [toI_snoc, List.map_append]; exact hO6)
                have HB6 : Hid (Below W1.heap.size W1 w6) := hide ((hBy.out.alloc hsy _).grown hg6 (by simp; omega) (fun q hq => (hO.out.lt q hq).1))
                clear hO6 hg6 hOa N5a lk hO hBy
                go_wp2_with fail
                refine ⟨⟨k + 1, c6, a6, by rw [HSU.out, HLE1.out], rfl, by omega, hide (by rw [HSU.out, HLE1.out]; exact HO6.out), HB6⟩, by simp only [intOf]; omega⟩
              · obtain rfl : k = N := by omega
                have hk' : ¬ ((k : Int) < (k : Int)) := by omega
                have HBE := hide (hJ.out.be.trans (hBy.out.mono hwW))
                generalize mkd Q k = X at *
                obtain ⟨xl, hxle⟩ : ∃ xl, X.length = xl := ⟨_, rfl⟩
                rw [hxle] at hO ⊢
                have HXL := hide hxle
                clear hxle HJ1
                go_wp2_with fail
                refine bodyPost_ret (results_tmp2 rfl _ _ _) rfl ?_
                refine ⟨xa, xc, by rw [HJW.out.1, HJW.out.2, HXL.out]; rfl, ?_, HBE.out⟩
                rw [HJW.out.2, HXL.out]
                exact own_baseG hO.out hwW
    · obtain rfl : m = 3 := by omega
      have HJW := hide (jw_none (hP.out 1 (by omega) (by omega)) (hP.out 2 (by omega) (by omega)))
      clear hP hG
      go_wp2_with fail
      refine bodyPost_ret (results_tmp2 rfl _ _ _) rfl ?_
      refine ⟨none, 0, by rw [HJW.out.1, HJW.out.2]; rfl, ?_, hB.out⟩
      rw [HJW.out.2]
      exact own_nilI _ _

end Go.Proofs.YtldgikinmmkhiaaDoor
