/-
  What the reference's countRanks does to the counts. No conditions beyond those that each theorem bears.
-/
import Derived.Test.YtdhacmcdbpojlaaLeaf
namespace Go.Proofs.Ytdhacmcdbpojlaa
open Go.RowKit Go.Shelf

theorem rows_ok (rs : List Nat) (j k : Nat) (hl : rs.length + k = 5) (hb : ∀ x ∈ rs, x < 13) (hj : j ≤ 13) : ∀ t ∈ fr j k, (rs ++ t).length = 5 ∧ ∀ x ∈ rs ++ t, x < 13 := by
  intro t ht
  obtain ⟨h1, h2⟩ := fr_mem _ _ _ ht
  refine ⟨by rw [List.length_append, h1, hl], fun x hx => ?_⟩
  rcases List.mem_append.1 hx with hx | hx
  · exact hb x hx
  · have := h2 x hx; omega

theorem bd3 {p A B C : Nat} (h : p + C * 13060694016 ≤ 4000000000000000000) (e : C = A + B) : p + A * 13060694016 ≤ 4000000000000000000 := Nat.le_trans (Nat.add_le_add_left (Nat.mul_le_mul_right _ (by omega : A ≤ C)) p) h
theorem bd4 {p p1 A B C : Nat} (h : p + C * 13060694016 ≤ 4000000000000000000) (e : C = A + B) (h1 : p1 ≤ p + A * 13060694016) : p1 + B * 13060694016 ≤ 4000000000000000000 := by subst e; omega

set_option maxRecDepth 100000 in
set_option maxHeartbeats 8000000 in
theorem ranks_any (ob : Nat) (z : Int) : ∀ (k m : Nat), m + k = 5 → ∀ (rs O : List Nat) (h : Nat), rs.length = m → (∀ x ∈ rs, x < 13) → h ≤ 13 → (m = 0 → h = 13) → (0 < m → rs.getD (m - 1) 0 + 1 = h) → O.length = 9 →
    ∀ (w : World) (a : Option Addr) (cp : Nat), Rd w a m cp (toI rs) → Ow w ob 9 O → (∀ b off, a = some ⟨b, off, none⟩ → b ≠ ob) → (∀ x, O.getD x 0 + (fr h k).length * 13060694016 ≤ 4000000000000000000) →
    Calls Try.prog 30 #[.slice a m cp, .int .i64 z, .slice (some ⟨ob, 0, none⟩) 9 9] w fun e w' => e = .returned (.tuple #[]) ∧ Keeps (fun k => k = ob) w w' ∧ Ow w' ob 9 (foldUp rs (fr h k) O) := by
  intro k
  induction k with
  | zero =>
    intro m hm rs O h hl hb hh _ _ hO w a cp hR hOw hne hbd
    obtain rfl : m = 5 := by omega
    have e : foldUp rs (fr h 0) O = leafUp rs O := by rw [fr_zero]; show leafUp (rs ++ []) O = _; rw [List.append_nil]
    rw [e]
    rw [fr_zero] at hbd
    exact leaf_walk a cp ob z rs O hl hb hO w hR hOw hne (fun x => by have := hbd x; simpa using this)
  | succ k ih =>
    intro m hm rs O h hl hb hh hm0 hm1 hO w a cp hR hOw hne hbd
    obtain ⟨OO, hOO⟩ : ∃ OO, foldUp rs (fr h (k + 1)) O = OO := ⟨_, rfl⟩
    rw [hOO]
    have hcp := hR.cap
    have hcm := hR.max
    unfold maxLen at hcm
    have hol : ob < w.heap.size := hOw.lt (by omega)
    have hm5 : m < 5 := by omega
    have hm5' : (m : Int) < 5 := by omega
    have HR := hide hR
    have HOW := hide hOw
    have HNE := hide hne
    have HBD := hide hbd
    have HOO := hide hOO
    have HO9 := hide hO
    have HL := hide hl
    have HB := hide hb
    have IH := hide ih
    have hh1 : 1 ≤ h := by
      by_cases e : m = 0
      · rw [hm0 e]; omega
      · have := hm1 (by omega); omega
    clear hR hOw hne hbd hOO hO hl hb ih
    by_cases h0 : m = 0
    · subst h0
      obtain rfl := hm0 rfl
      clear hm0 hm1
      go_enter Try.func30, Try.ntmps30
      go_wp2_with fail
      go_loopw [7] (fun v wr => ∃ (j : Nat) (P : List Nat), v = .int .i64 ((j : Int) - 1) ∧ j ≤ 13 ∧ Hid (Ow wr ob 9 P) ∧ Hid (P.length = 9) ∧ Hid (foldUp rs (fr j (k + 1)) P = OO) ∧ Hid (∀ x, P.getD x 0 + (fr j (k + 1)).length * 13060694016 ≤ 4000000000000000000) ∧ Hid (Keeps (fun k => k = ob) w wr)) (fun v _ => (intOf v + 1).toNat)
      case atStart => exact ⟨13, O, by rfl, Nat.le_refl _, HOW.out, HO9.out, HOO.out, HBD.out, Keeps.refl _ _⟩
      case round =>
        obtain ⟨j, P, rfl, hj, hO, hP9, hF, hbd, hK⟩ := hrel
        have hsz := hK.out.size
        cases j with
        | zero =>
          rw [show (((0 : Nat)) : Int) - 1 = -1 from rfl]
          have HE : Hid (P = OO) := hF
          go_wp2
          refine bodyPost_ret (results_none rfl _ _ _) rfl ⟨rfl, hK.out, ?_⟩
          rw [← HE.out]
          exact hO.out
        | succ j =>
          rw [show (((j + 1 : Nat)) : Int) - 1 = (j : Int) by omega]
          have R1 : Hid (Rd wr a 0 cp (toI rs)) := hide (HR.out.keeps hK.out HNE.out)
          have hj13 : j < 13 := by omega
          have e1 : foldUp rs (fr (j + 1) (k + 1)) P = foldUp rs (fr j (k + 1)) (foldUp (rs ++ [j]) (fr (j + 1) k) P) := by rw [fr_succ, fold_cat, fold_map]
          have e2 : (fr (j + 1) (k + 1)).length = (fr (j + 1) k).length + (fr j (k + 1)).length := by rw [fr_succ, List.length_append, List.length_map]
          have hF2 : foldUp rs (fr j (k + 1)) (foldUp (rs ++ [j]) (fr (j + 1) k) P) = OO := by rw [← e1]; exact hF.out
          have hok := rows_ok (rs ++ [j]) (j + 1) k (by rw [List.length_append, HL.out]; simp; omega) (fun x hx => by
            rcases List.mem_append.1 hx with hx | hx
            · exact HB.out x hx
            · have : x = j := by simpa using hx
              omega) (by omega)
          have hb3 : ∀ x, P.getD x 0 + (fr (j + 1) k).length * 13060694016 ≤ 4000000000000000000 := fun x => bd3 (hbd.out x) e2
          have hb4 : ∀ x, (foldUp (rs ++ [j]) (fr (j + 1) k) P).getD x 0 + (fr j (k + 1)).length * 13060694016 ≤ 4000000000000000000 := fun x => bd4 (hbd.out x) e2 (fold_le (rs ++ [j]) (fr (j + 1) k) P hP9.out hok x)
          have HF2 := hide hF2
          have HB3 := hide hb3
          have HB4 := hide hb4
          have HP9 : Hid ((foldUp (rs ++ [j]) (fr (j + 1) k) P).length = 9) := by show _ = _; rw [fold_len]; exact hP9.out
          clear e1 e2 hF2 hok hb3 hb4 hF hbd
          go_wp2_with (at_builtin; refine wpList_append_rd _ rfl (.const (.slice none 0 0)) (.tmp 33) rfl wr.heap.size _ 0 [] rfl (World.ownsRow_nil _ _ _ _) _ 0 cp (toI rs) rfl R1.out (by omega) (Nat.le_refl _) ?_)
          intro v1 w1 hO1 hG1
          obtain ⟨a1, d1, hv1⟩ := slice_form hO1
          rw [hv1] at hO1 ⊢
          have HB1 := hide ((Below.refl wr.heap.size wr).grown hG1 (Nat.le_refl _) (fun q hq => absurd hq (by simp [Value.ownBlock])))
          have HO1 := hide hO1
          clear hO1 hG1 hv1
          go_wp2_with (at_builtin; refine wpList_append_rd _ rfl (.tmp 34) (.tmp 36) rfl wr.heap.size _ 0 _ rfl (HO1.out.alloc _) _ 1 1 [(j : Int)] rfl (Rd_one _ _) (by omega) (by have := HB1.out.size; simp; omega) ?_)
          intro v2 w2 hO2 hG2
          obtain ⟨a2, d2, hv2⟩ := slice_form hO2
          rw [hv2] at hO2 ⊢
          have hb0 : Below wr.heap.size wr (w1.alloc (.cells #[.int .i64 (j : Int)] 3)) := HB1.out.alloc HB1.out.size _
          have HB2 := hide (hb0.grown hG2 hb0.size (fun q hq => (HO1.out.lt q hq).1))
          have HO2 := hide hO2
          clear hO2 hG2 hv2 hb0
          go_wp2_with fail
          have R2 : Rd w2 a2 (0 + 1) d2 (toI (rs ++ [j])) := by
            have h := HO2.out
            rw [show (toI rs).map (Value.int .i64) ++ [Value.int .i64 (j : Int)] = (toI (rs ++ [j])).map (Value.int .i64) by simp [toI]] at h
            exact Rd.of_own h
          have OW2 : Ow w2 ob 9 P := hO.out.keeps (X := fun _ => False) (Keeps.of_all HB2.out) (fun h => h)
          refine (IH.out (0 + 1) (by omega) (rs ++ [j]) P (j + 1) (by rw [List.length_append, HL.out]; rfl) (fun x hx => by
            rcases List.mem_append.1 hx with hx | hx
            · exact HB.out x hx
            · have : x = j := by simpa using hx
              omega) (by omega) (fun h => by omega) (fun _ => by
                have e : (rs ++ [j]).getD (0 + 1 - 1) 0 = j := by
                  have hl := HL.out
                  simp [List.getD, hl]
                rw [e]) hP9.out w2 a2 d2 R2 OW2 (fun b off e => by
                  have h := (HO2.out.lt b (by rw [e]; rfl)).1
                  omega) HB3.out).mono ?_
          rintro e w3 ⟨rfl, hK3, hO3⟩
          have HK3 : Hid (Keeps (fun k => k = ob) w w3) := hide ((hK.out.trans (Keeps.of_all HB2.out)).trans hK3)
          have HO3 := hide hO3
          clear hK3 hO3 R2 OW2
          go_wp2
          refine ⟨⟨j, _, rfl, by omega, HO3.out, HP9.out, HF2.out, HB4.out, HK3.out⟩, by simp [intOf]⟩
    · have hlast := hm1 (by omega)
      have hposN : 0 < m := by omega
      have hpos : (0 : Int) < (m : Int) := by omega
      obtain ⟨bx, ox, rfl, hcx⟩ := HR.out.cells (by omega)
      have c1 := hcx (m - 1) (by omega)
      rw [toI_getD] at c1
      obtain ⟨g, hg⟩ : ∃ g, rs.getD (m - 1) 0 = g := ⟨_, rfl⟩
      rw [hg] at c1 hlast
      obtain ⟨mm, hmm⟩ : ∃ mm, m - 1 = mm := ⟨_, rfl⟩
      have hmm' : (m : Int) - 1 = (mm : Int) := by omega
      rw [hmm] at c1 hg
      have HG := hide hg
      clear hcx hg hm0 hm1
      go_enter Try.func30, Try.ntmps30
      go_wp2_with fail
      go_loopw [7] (fun v wr => ∃ (j : Nat) (P : List Nat), v = .int .i64 ((j : Int) - 1) ∧ j ≤ h ∧ Hid (Ow wr ob 9 P) ∧ Hid (P.length = 9) ∧ Hid (foldUp rs (fr j (k + 1)) P = OO) ∧ Hid (∀ x, P.getD x 0 + (fr j (k + 1)).length * 13060694016 ≤ 4000000000000000000) ∧ Hid (Keeps (fun k => k = ob) w wr)) (fun v _ => (intOf v + 1).toNat)
      case atStart => exact ⟨h, O, by congr 1; omega, Nat.le_refl _, HOW.out, HO9.out, HOO.out, HBD.out, Keeps.refl _ _⟩
      case round =>
        obtain ⟨j, P, rfl, hj, hO, hP9, hF, hbd, hK⟩ := hrel
        have hsz := hK.out.size
        cases j with
        | zero =>
          rw [show (((0 : Nat)) : Int) - 1 = -1 from rfl]
          have HE : Hid (P = OO) := hF
          go_wp2
          refine bodyPost_ret (results_none rfl _ _ _) rfl ⟨rfl, hK.out, ?_⟩
          rw [← HE.out]
          exact hO.out
        | succ j =>
          rw [show (((j + 1 : Nat)) : Int) - 1 = (j : Int) by omega]
          have R1 : Hid (Rd wr (some ⟨bx, ox, none⟩) m cp (toI rs)) := hide (HR.out.keeps hK.out HNE.out)
          have hj13 : j < 13 := by omega
          have e1 : foldUp rs (fr (j + 1) (k + 1)) P = foldUp rs (fr j (k + 1)) (foldUp (rs ++ [j]) (fr (j + 1) k) P) := by rw [fr_succ, fold_cat, fold_map]
          have e2 : (fr (j + 1) (k + 1)).length = (fr (j + 1) k).length + (fr j (k + 1)).length := by rw [fr_succ, List.length_append, List.length_map]
          have hF2 : foldUp rs (fr j (k + 1)) (foldUp (rs ++ [j]) (fr (j + 1) k) P) = OO := by rw [← e1]; exact hF.out
          have hok := rows_ok (rs ++ [j]) (j + 1) k (by rw [List.length_append, HL.out]; simp; omega) (fun x hx => by
            rcases List.mem_append.1 hx with hx | hx
            · exact HB.out x hx
            · have : x = j := by simpa using hx
              omega) (by omega)
          have hb3 : ∀ x, P.getD x 0 + (fr (j + 1) k).length * 13060694016 ≤ 4000000000000000000 := fun x => bd3 (hbd.out x) e2
          have hb4 : ∀ x, (foldUp (rs ++ [j]) (fr (j + 1) k) P).getD x 0 + (fr j (k + 1)).length * 13060694016 ≤ 4000000000000000000 := fun x => bd4 (hbd.out x) e2 (fold_le (rs ++ [j]) (fr (j + 1) k) P hP9.out hok x)
          have HF2 := hide hF2
          have HB3 := hide hb3
          have HB4 := hide hb4
          have HP9 : Hid ((foldUp (rs ++ [j]) (fr (j + 1) k) P).length = 9) := by show _ = _; rw [fold_len]; exact hP9.out
          clear e1 e2 hF2 hok hb3 hb4 hF hbd
          go_wp2_with (at_builtin; refine wpList_append_rd _ rfl (.const (.slice none 0 0)) (.tmp 33) rfl wr.heap.size _ 0 [] rfl (World.ownsRow_nil _ _ _ _) _ m cp (toI rs) rfl R1.out (by omega) (Nat.le_refl _) ?_)
          intro v1 w1 hO1 hG1
          obtain ⟨a1, d1, hv1⟩ := slice_form hO1
          rw [hv1] at hO1 ⊢
          have HB1 := hide ((Below.refl wr.heap.size wr).grown hG1 (Nat.le_refl _) (fun q hq => absurd hq (by simp [Value.ownBlock])))
          have HO1 := hide hO1
          clear hO1 hG1 hv1
          go_wp2_with (at_builtin; refine wpList_append_rd _ rfl (.tmp 34) (.tmp 36) rfl wr.heap.size _ m _ rfl (HO1.out.alloc _) _ 1 1 [(j : Int)] rfl (Rd_one _ _) (by omega) (by have := HB1.out.size; simp; omega) ?_)
          intro v2 w2 hO2 hG2
          obtain ⟨a2, d2, hv2⟩ := slice_form hO2
          rw [hv2] at hO2 ⊢
          have hb0 : Below wr.heap.size wr (w1.alloc (.cells #[.int .i64 (j : Int)] 3)) := HB1.out.alloc HB1.out.size _
          have HB2 := hide (hb0.grown hG2 hb0.size (fun q hq => (HO1.out.lt q hq).1))
          have HO2 := hide hO2
          clear hO2 hG2 hv2 hb0
          go_wp2_with fail
          have R2 : Rd w2 a2 (m + 1) d2 (toI (rs ++ [j])) := by
            have h := HO2.out
            rw [show (toI rs).map (Value.int .i64) ++ [Value.int .i64 (j : Int)] = (toI (rs ++ [j])).map (Value.int .i64) by simp [toI]] at h
            exact Rd.of_own h
          have OW2 : Ow w2 ob 9 P := hO.out.keeps (X := fun _ => False) (Keeps.of_all HB2.out) (fun h => h)
          refine (IH.out (m + 1) (by omega) (rs ++ [j]) P (j + 1) (by rw [List.length_append, HL.out]; rfl) (fun x hx => by
            rcases List.mem_append.1 hx with hx | hx
            · exact HB.out x hx
            · have : x = j := by simpa using hx
              omega) (by omega) (fun h => by omega) (fun _ => by
                have e : (rs ++ [j]).getD (m + 1 - 1) 0 = j := by
                  have hl := HL.out
                  simp [List.getD, hl]
                rw [e]) hP9.out w2 a2 d2 R2 OW2 (fun b off e => by
                  have h := (HO2.out.lt b (by rw [e]; rfl)).1
                  omega) HB3.out).mono ?_
          rintro e w3 ⟨rfl, hK3, hO3⟩
          have HK3 : Hid (Keeps (fun k => k = ob) w w3) := hide ((hK.out.trans (Keeps.of_all HB2.out)).trans hK3)
          have HO3 := hide hO3
          clear hK3 hO3 R2 OW2
          go_wp2
          refine ⟨⟨j, _, rfl, by omega, HO3.out, HP9.out, HF2.out, HB4.out, HK3.out⟩, by simp [intOf]⟩

end Go.Proofs.Ytdhacmcdbpojlaa
