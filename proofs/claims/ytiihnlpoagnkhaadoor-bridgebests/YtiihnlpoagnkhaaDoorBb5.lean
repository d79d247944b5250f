/-
  The walk of the law on the best play. No conditions beyond those that each theorem bears.
-/
import Derived.Test.YtiihnlpoagnkhaaDoorBb4
import Derived.BigQuiet
namespace Go.Proofs.YtiihnlpoagnkhaaDoor
open Go.RowKit Go.Lib Go.Shelf

theorem cat_len (Z : Nat → List Int) (n : Nat) (i : Nat) (h : ∀ j, j < i → (Z j).length = n) : (cat Z i).length = i * n := by
  induction i with
  | zero => simp [cat]
  | succ i ih =>
    rw [cat, List.length_append, ih (fun j hj => h j (by omega)), h i (by omega), Nat.add_mul, Nat.one_mul]

set_option maxRecDepth 100000 in
set_option maxHeartbeats 4000000 in
theorem bests_any (a : Option Addr) (N c : Nat) (Z : Nat → List Int) (s ld : Int) (w : World) (hT : Tab w) (h : HI w a N Z) (hN : N * 24 ≤ 140737488351232) (hZ : ∀ i, i < N → (Z i).length * 8 ≤ 140737488351232) :
    Calls Tryd.prog 3 #[.slice a N c, .int .i64 s, .int .i64 ld] w fun e w' => e = .returned (.bool true) ∧ Below w.heap.size w w' := by
  have h0s : 0 < w.heap.size := World.block_lt_of_cell? w _ (hT 0 (by omega))
  have CP := hide (copied_any a N c Z w h hN hZ)
  have HT := hide hT
  have HH := hide h
  have HZ := hide hZ
  clear h hZ hT
  go_enter Tryd.func3, Tryd.ntmps3
  go_wp2_with fail
  refine CP.out.mono ?_
  rintro e w1 ⟨a1, c1, rfl, hNI, hB1⟩
  have BA := hide (Best_any a1 N c1 w.heap.size Z s ld w1 (fun i hi => (hB1.cell (p := ⟨0, i, none⟩) h0s).trans (HT.out i hi)) hNI)
  have B1 := hide hB1
  clear hNI hB1 CP
  go_wp2_with fail
  refine BA.out.mono ?_
  rintro e w2 ⟨rn, re, rfl, hIs, hB2⟩
  have IS := hide hIs
  have B2 := hide (B1.out.trans (hB2.mono B1.out.size))
  clear hIs hB2 BA B1
  by_cases hN4 : N = 4
  · subst hN4
    obtain ⟨b, o, a0, c0, rfl, hc0, -⟩ := HH.out.cell 0 (by omega)
    have HC : Hid (∀ i, i < 4 → ∃ ai ci, w2.cell? ⟨b, o + i, none⟩ = some (.slice ai (Z i).length ci) ∧ Rd w2 ai (Z i).length ci (Z i)) := hide (fun i hi => by
      obtain ⟨b', o', ai, ci, e1, e2, e3⟩ := (HH.out.below B2.out).cell i hi
      simp only [Option.some.injEq, Addr.mk.injEq] at e1
      obtain ⟨rfl, rfl, -⟩ := e1
      exact ⟨ai, ci, e2, e3⟩)
    have c00 : w2.cell? ⟨b, o, none⟩ = some (.slice a0 (Z 0).length c0) := (B2.out.cell (p := ⟨b, o, none⟩) (World.block_lt_of_cell? w _ hc0)).trans hc0
    obtain ⟨n0, hn0⟩ : ∃ n0, (Z 0).length = n0 := ⟨_, rfl⟩
    rw [hn0] at c00
    have hbs : b < w2.heap.size := World.block_lt_of_cell? w2 _ c00
    have HN0 := hide hn0
    have C00 := hide c00
    clear hc0 hn0 c00
    go_wp2_with fail
    go_loopw [9, 10, 11] (fun v9 v10 v11 wr => ∃ (i : Nat), v11 = .int .i64 i ∧ i ≤ 4 ∧ Hid (Below w2.heap.size w2 wr) ∧ ((v9 = .int .i64 11 ∧ Hid (¬ Fit 4 Z)) ∨ (v9 = .int .i64 0 ∧ ∃ (ad : Option Addr) (cc t : Nat), v10 = .slice ad t cc ∧ t ≤ 16 ∧ Hid (wr.ownsRow w2.heap.size 3 1 (.slice ad t cc) t ((cat Z i).map (Value.int .i64))) ∧ Hid (∀ j, j < i → (Z j).length = n0 ∧ 1 ≤ (Z j).length ∧ (Z j).length ≤ 4)))) (fun _ _ v _ => 4 - (intOf v).toNat)
    case atStart => exact ⟨0, rfl, by omega, Below.refl _ _, Or.inr ⟨rfl, none, 0, 0, rfl, by omega, World.ownsRow_nil _ _ _ _, fun j hj => by omega⟩⟩
    case round =>
      obtain ⟨i, rfl, hi, hB, hrel⟩ := hrel
      rcases hrel with ⟨rfl, hU⟩ | ⟨rfl, ad, cc, t, rfl, ht, hO, hA⟩
      · have HR : Hid (rn = 0 ∧ re = 11) := hide (by
          rcases IS.out with h | h | h
          · exact h.2
          · exact absurd h.1 hU.out
          · exact absurd h.1 hU.out)
        obtain ⟨hr1, hr2⟩ := HR.out
        subst hr1 hr2
        by_cases hlt : i < 4
        · have hlt' : (i : Int) < 4 := by omega
          go_wp2
          go_ret
          exact ⟨rfl, B2.out.trans (hB.out.mono B2.out.size)⟩
        · have hlt' : ¬ (i : Int) < 4 := by omega
          go_wp2
          go_ret
          exact ⟨rfl, B2.out.trans (hB.out.mono B2.out.size)⟩
      · by_cases hlt : i < 4
        · have hlt' : (i : Int) < 4 := by omega
          obtain ⟨ai, ci, hci, hRi⟩ := HC.out i hlt
          obtain ⟨ni, hni⟩ : ∃ ni, (Z i).length = ni := ⟨_, rfl⟩
          have hzi := HZ.out i hlt
          rw [hni] at hci hRi hzi
          have ci0 : wr.cell? ⟨b, o + i, none⟩ = some (.slice ai ni ci) := (hB.out.cell (p := ⟨b, o + i, none⟩) hbs).trans hci
          have c00 : wr.cell? ⟨b, o, none⟩ = some (.slice a0 n0 c0) := (hB.out.cell (p := ⟨b, o, none⟩) hbs).trans C00.out
          have HRI := hide (fun q => (hRi.mono hB.out).mono (drewN_below wr.heap.size wr q))
          have HOQ := hide (fun q => own_later hO.out (drewN_below wr.heap.size wr q))
          have HSZ := hide (fun q => Nat.le_trans hB.out.size (drewN_below wr.heap.size wr q).size)
          have HNI := hide hni
          have HFAIL : Hid (¬ (ni = n0 ∧ 1 ≤ ni ∧ ni ≤ 4) → ¬ Fit 4 Z) := hide (fun h1 h2 => h1 (by
            have e := fit_len h2 i hlt
            rw [HNI.out, HN0.out] at e
            have e1 := h2.2.1
            have e2 := h2.2.2.1
            rw [HN0.out] at e1 e2
            omega))
          clear hci hRi hni
          by_cases g1 : n0 = ni
          · subst g1
            by_cases g2 : 1 ≤ n0
            · by_cases g3 : n0 ≤ 4
              · have q2 : decide ((n0 : Int) < 1) = false := by simp; omega
                have q3 : decide ((4 : Int) < (n0 : Int)) = false := by simp; omega
                go_wp2_with fail
                go_quiet (fail)
                go_wp2_with (at_builtin; refine wpList_append_rd _ rfl (.tmp 59) (.tmp 63) rfl w2.heap.size _ t (cat Z i) rfl (HOQ.out _) ai n0 ci (Z i) rfl (HRI.out _) (by omega) (HSZ.out _) ?_)
                intro v4 w4 O4 G4
                obtain ⟨a4, c4, hv4⟩ := slice_form O4
                subst hv4
                have X1 := hB.out.trans (drewN_below w2.heap.size wr nq)
                have X4 := hide (X1.grown G4 X1.size (fun j hj => (hO.out.lt j hj).1))
                have O5 : Hid (w4.ownsRow w2.heap.size 3 1 (.slice a4 (t + n0) c4) (t + n0) ((cat Z (i + 1)).map (Value.int .i64))) := hide (by rw [show cat Z (i + 1) = cat Z i ++ Z i from rfl, List.map_append]; exact O4)
                have HLT := hide hO.out.1
                clear O4 G4 X1 hO hB ci0 c00
                go_wp2
                refine ⟨⟨i + 1, by go_num, by omega, X4.out, Or.inr ⟨rfl, a4, c4, t + n0, rfl, ?_, O5.out, fun j hj => ?_⟩⟩, by simp [intOf]; omega⟩
                · have h1 : (cat Z (i + 1)).length = (i + 1) * n0 := cat_len Z n0 (i + 1) (fun j hj => by
                    rcases (show j < i ∨ j = i by omega) with hj | rfl
                    · exact (hA.out j hj).1
                    · exact HNI.out)
                  have h2 := O5.out.1
                  rw [List.length_map, h1] at h2
                  have h3 : (i + 1) * n0 ≤ 4 * 4 := Nat.mul_le_mul (by omega) (by omega)
                  omega
                · rcases (show j < i ∨ j = i by omega) with hj | rfl
                  · exact hA.out j hj
                  · rw [HNI.out]; exact ⟨rfl, by omega, by omega⟩
              · have q2 : decide ((n0 : Int) < 1) = false := by simp; omega
                have q3 : decide ((4 : Int) < (n0 : Int)) = true := by simp; omega
                go_wp2_with fail
                go_quiet (fail)
                go_wp2_with (at_builtin; refine wpList_append_rd _ rfl (.tmp 59) (.tmp 63) rfl w2.heap.size _ t (cat Z i) rfl (HOQ.out _) ai n0 ci (Z i) rfl (HRI.out _) (by omega) (HSZ.out _) ?_)
                intro v4 w4 O4 G4
                obtain ⟨a4, c4, hv4⟩ := slice_form O4
                subst hv4
                have X1 := hB.out.trans (drewN_below w2.heap.size wr nq)
                have X4 := hide (X1.grown G4 X1.size (fun j hj => (hO.out.lt j hj).1))
                have O5 : Hid (w4.ownsRow w2.heap.size 3 1 (.slice a4 (t + n0) c4) (t + n0) ((cat Z (i + 1)).map (Value.int .i64))) := hide (by rw [show cat Z (i + 1) = cat Z i ++ Z i from rfl, List.map_append]; exact O4)
                have HLT := hide hO.out.1
                clear O4 G4 X1 hO hB ci0 c00
                go_wp2
                exact ⟨⟨i + 1, by go_num, by omega, X4.out, Or.inl ⟨rfl, HFAIL.out (by omega)⟩⟩, by simp [intOf]; omega⟩
            · have q2 : decide ((n0 : Int) < 1) = true := by simp; omega
              go_wp2_with fail
              go_quiet (fail)
              go_wp2_with (at_builtin; refine wpList_append_rd _ rfl (.tmp 59) (.tmp 63) rfl w2.heap.size _ t (cat Z i) rfl (HOQ.out _) ai n0 ci (Z i) rfl (HRI.out _) (by omega) (HSZ.out _) ?_)
              intro v4 w4 O4 G4
              obtain ⟨a4, c4, hv4⟩ := slice_form O4
              subst hv4
              have X1 := hB.out.trans (drewN_below w2.heap.size wr nq)
              have X4 := hide (X1.grown G4 X1.size (fun j hj => (hO.out.lt j hj).1))
              have O5 : Hid (w4.ownsRow w2.heap.size 3 1 (.slice a4 (t + n0) c4) (t + n0) ((cat Z (i + 1)).map (Value.int .i64))) := hide (by rw [show cat Z (i + 1) = cat Z i ++ Z i from rfl, List.map_append]; exact O4)
              have HLT := hide hO.out.1
              clear O4 G4 X1 hO hB ci0 c00
              go_wp2
              exact ⟨⟨i + 1, by go_num, by omega, X4.out, Or.inl ⟨rfl, HFAIL.out (by omega)⟩⟩, by simp [intOf]; omega⟩
          · have q1 : ((ni : Int) != (n0 : Int)) = true := by simp; omega
            go_wp2_with fail
            go_quiet (fail)
            go_wp2_with (at_builtin; refine wpList_append_rd _ rfl (.tmp 59) (.tmp 63) rfl w2.heap.size _ t (cat Z i) rfl (HOQ.out _) ai ni ci (Z i) rfl (HRI.out _) (by omega) (HSZ.out _) ?_)
            intro v4 w4 O4 G4
            obtain ⟨a4, c4, hv4⟩ := slice_form O4
            subst hv4
            have X1 := hB.out.trans (drewN_below w2.heap.size wr nq)
            have X4 := hide (X1.grown G4 X1.size (fun j hj => (hO.out.lt j hj).1))
            have O5 : Hid (w4.ownsRow w2.heap.size 3 1 (.slice a4 (t + ni) c4) (t + ni) ((cat Z (i + 1)).map (Value.int .i64))) := hide (by rw [show cat Z (i + 1) = cat Z i ++ Z i from rfl, List.map_append]; exact O4)
            have HLT := hide hO.out.1
            clear O4 G4 X1 hO hB ci0 c00
            go_wp2
            exact ⟨⟨i + 1, by go_num, by omega, X4.out, Or.inl ⟨rfl, HFAIL.out (by omega)⟩⟩, by simp [intOf]; omega⟩
        · obtain rfl : i = 4 := by omega
          rw [show (((4 : Nat)) : Int) = (4 : Int) from rfl]
          have hf : Fit 4 Z := by
            have f0 := hA.out 0 (by omega)
            have f1 := hA.out 1 (by omega)
            have f2 := hA.out 2 (by omega)
            have f3 := hA.out 3 (by omega)
            exact ⟨rfl, by omega, by omega, by omega, by omega, by omega⟩
          have HF := hide hf
          have CM := hide (CardsMay_any ad t cc (cat Z 4) wr (Rd.of_own hO.out))
          have BB := hide (B2.out.trans (hB.out.mono B2.out.size))
          have IS2 : Hid ((lateE Z s ld ≠ 0 ∧ rn = 0 ∧ re = lateE Z s ld) ∨ (lateE Z s ld = 0 ∧ re = 0 ∧ rn = ((bt (winF s) (5 * (Z 0).length) (fun i => natL (Z i)) ld.toNat [] : Nat) : Int))) := hide (by
            rcases IS.out with h | h | h
            · exact absurd hf h.1
            · exact Or.inl h.2
            · exact Or.inr h.2)
          clear IS hf hO hA
          go_wp2_with fail
          refine CM.out.mono ?_
          rintro e w3 ⟨rfl, q, rfl⟩
          have BC := hide (BB.out.trans (drewN_below w.heap.size wr q))
          have BD := hide (hB.out.trans (drewN_below w2.heap.size wr q))
          clear CM BB hB
          generalize wr.drewN q = w3 at *
          by_cases hE : lateE Z s ld = 0
          · obtain ⟨hM, hs, hl⟩ := late_zero hE
            obtain ⟨hback, -⟩ := un_of Z hM
            have HV : Hid (re = 0 ∧ rn = ((bt (winF s) (5 * (Z 0).length) (fun i => natL (Z i)) ld.toNat [] : Nat) : Int)) := hide (by
              rcases IS2.out with h | h
              · exact absurd hE h.1
              · exact h.2)
            obtain ⟨hr1, hr2⟩ := HV.out
            subst hr1 hr2
            rw [hM]
            have hlen : ∀ i, i < 4 → (natL (Z i)).length = (Z 0).length := fun i hi => by
              rw [natL, List.length_map]
              exact fit_len HF.out i hi
            have hHL : HL w3 b o (fun i => natL (Z i)) := ⟨fun i hi => by
              obtain ⟨ai, ci, e1, e2⟩ := HC.out i hi
              have e : (natL (Z i)).length = (Z i).length := by rw [natL, List.length_map]
              refine ⟨ai, ci, ?_, ?_⟩
              · show _ = some (Value.slice ai (natL (Z i)).length ci)
                rw [e]
                exact (BD.out.cell (p := ⟨b, o + i, none⟩) hbs).trans e1
              · show Rd w3 ai (natL (Z i)).length ci (toI (natL (Z i)))
                rw [e, hback i hi]
                exact e2.mono BD.out⟩
            obtain ⟨l', rfl⟩ : ∃ l' : Nat, ld = (l' : Int) := ⟨ld.toNat, by omega⟩
            have CALL := hide (BT_all s (5 * (Z 0).length) (fun i => natL (Z i)) l' (Z 0).length b o c none 0 [] w3 (by omega) HF.out.2.1 (by have := HF.out.2.2.1; omega) (by simp) (fun p hp => by
              show (natL (Z p)).length = _
              rw [if_neg (by simp)]
              exact hlen p hp) (by have := HF.out.2.1; simp; omega) hHL (Rd.of_nil w3))
            rw [Int.toNat_natCast]
            generalize bt (winF s) (5 * (Z 0).length) (fun i => natL (Z i)) l' [] = v at *
            have q1 : ¬ s < 0 := by omega
            have q2 : ¬ (4 : Int) < s := by omega
            have q3 : ¬ (3 : Int) < (l' : Int) := by omega
            clear hHL hlen hback hM hE IS2 HV
            go_wp2_with fail
            refine CALL.out.mono ?_
            rintro e w4 ⟨rfl, hb4⟩
            have BE := hide (BC.out.trans (hb4.mono BC.out.size))
            clear hb4 CALL
            go_wp2
            go_ret
            exact ⟨ret_b (by simp), BE.out⟩
          · have HV : Hid (rn = 0 ∧ re = lateE Z s ld) := hide (by
              rcases IS2.out with h | h
              · exact h.2
              · exact absurd h.1 hE)
            obtain ⟨hr1, hr2⟩ := HV.out
            subst hr1
            unfold lateE at hE hr2
            clear HV IS2
            generalize mayE (cat Z 4) = M at *
            by_cases hM : M = 0
            · subst hM
              rw [if_neg (by simp)] at hE hr2
              by_cases hs : s < 0 ∨ 4 < s
              · rw [if_pos hs] at hr2
                subst hr2
                clear hE
                rcases hs with hs | hs
                · go_wp2
                  go_ret
                  exact ⟨rfl, BC.out⟩
                · have q1 : ¬ s < 0 := by omega
                  go_wp2
                  go_ret
                  exact ⟨rfl, BC.out⟩
              · rw [if_neg hs] at hE hr2
                have q1 : ¬ s < 0 := by omega
                have q2 : ¬ (4 : Int) < s := by omega
                by_cases hl : ld < 0 ∨ 3 < ld
                · rw [if_pos hl] at hr2
                  subst hr2
                  clear hE hs
                  rcases hl with hl | hl
                  · go_wp2
                    go_ret
                    exact ⟨rfl, BC.out⟩
                  · have q3 : ¬ ld < 0 := by omega
                    go_wp2
                    go_ret
                    exact ⟨rfl, BC.out⟩
                · rw [if_neg hl] at hE
                  exact absurd rfl hE
            · rw [if_pos hM] at hr2
              subst hr2
              have hM' : (re == 0) = false := by simpa using hM
              clear hE
              go_wp2
              go_ret
              exact ⟨ret_b (by simp), BC.out⟩
  · have HR : Hid (rn = 0 ∧ re = 11) := hide (by
      rcases IS.out with h | h | h
      · exact h.2
      · exact absurd h.1.1 hN4
      · exact absurd h.1.1 hN4)
    obtain ⟨hr1, hr2⟩ := HR.out
    subst hr1 hr2
    have hb : ((N : Int) == 4) = false := by simp; omega
    clear IS HH HZ HT HR hN4
    go_wp2_with fail
    go_loopw [9, 10, 11] (fun v9 v10 v11 wr => v9 = .int .i64 11 ∧ v11 = .int .i64 0 ∧ wr = w2) (fun _ _ v _ => 0)
    case atStart => exact ⟨rfl, rfl, rfl⟩
    case round =>
      obtain ⟨rfl, rfl, hwr⟩ := hrel
      subst hwr
      by_cases h0 : (0 : Int) < (N : Int)
      · go_wp2
        go_ret
        exact ⟨rfl, B2.out⟩
      · go_wp2
        go_ret
        exact ⟨rfl, B2.out⟩

end Go.Proofs.YtiihnlpoagnkhaaDoor
