/-
  The document's dice that are thrown again: all throws, one by one. No conditions beyond those that each theorem bears.
-/
import Derived.Test.YtonmgbepkdlklaaExplY
import Derived.Test.YtonmgbepkdlklaaKeepW
namespace Go.Proofs.Ytonmgbepkdlklaa
open Go.RowKit

theorem ex_digs (s m y : Nat) : exS s (digs s (m + 1) y) = if y % s + 1 < s then y % s + 1 else y % s + 1 + exS s (digs s m (y / s)) := rfl

set_option maxRecDepth 100000 in
set_option maxHeartbeats 8000000 in
theorem ExplodeWays_any (s d n : Nat) (w : World) (hdn : d + 1 = n) (hn : n ≤ 5) (hs1 : 1 ≤ s) (hs : s ≤ 20) (hw : s ^ n ≤ 100000) (M : Nat) (hM : s * n = M) :
    Calls Try.prog 18 #[.int .i64 s, .int .i64 d] w fun e w' => ∃ b, e = .returned (.slice (some ⟨b, 0, none⟩) M M) ∧ Blk w' b (tl (exF s) 1 M (List.replicate n s)) ∧ Below w.heap.size w w' := by
  obtain ⟨i0, hi, hz0, hz1, hz2⟩ := info_parts Try.info3
  have hne : (d : Int) + 1 = (n : Int) := by omega
  have hn1 : 1 ≤ n := by omega
  have hn10 : n ≤ 10 := by omega
  have hQe : (s : Int) * (n : Int) = (M : Int) := by rw [← hM]; simp
  have hM1 : 1 ≤ M := by rw [← hM]; exact Nat.mul_pos hs1 hn1
  have hM2 : M ≤ 100 := by rw [← hM]; exact Nat.le_trans (Nat.mul_le_mul hs hn) (by omega)
  have HM := hide hM
  have HDN := hide hdn
  have hmm : M ≤ maxLen := by unfold maxLen; omega
  have hby : i0.bytes * M ≤ 281474976710656 := by rw [hz2]; omega
  obtain ⟨A, hA⟩ : ∃ A, s ^ n = A := ⟨_, rfl⟩
  rw [hA] at hw
  have HA := hide hA
  have HAW : Hid (awN s n = A) := hide (by unfold awN; rw [hA, if_neg (by omega)])
  clear hM hA hdn
  go_enter Try.func18, Try.ntmps18
  go_wp2_with (at_make; refine wpList_make_full w rfl _ _ 22 rfl w.heap.size 3 i0 (.int .i64 0) 1 Try.underlying22 hi hz0 hz1 _ _ _ _ M rfl rfl (by omega) (by omega) hby hmm (Nat.le_refl _) ?_)
  intro w1 hown hgrow
  have hb1 : Below w.heap.size w w1 := (Below.refl _ _).grown hgrow (Nat.le_refl _) (fun k hk => by simp at hk)
  rw [made_ints] at hown
  have HN1 := hide (Blk.of_own hown)
  have HB1 := hide hb1
  clear hown hgrow hb1 hmm hby
  go_wp2_with fail
  refine (allWays_any s n w1 hn10 hs1 hs).mono ?_
  rintro e w2 ⟨rfl, hw2⟩
  subst w2
  rw [HAW.out]
  obtain ⟨G, hG⟩ : ∃ G, w.heap.size = G := ⟨_, rfl⟩
  rw [hG] at HN1
  simp only [hG]
  go_wp2_with fail
  go_loopw [7] (fun v wr => ∃ (x : Nat) (T : List Nat), x ≤ A ∧ v = .int .i64 x ∧ Hid (Blk wr G T) ∧ Hid (T.length = M) ∧ Hid (∀ p, p < M → T.getD p 0 = sumTo (fun w => hit (exF s) 1 p (digs s n w)) x) ∧ Hid (Below w.heap.size w wr)) (fun v _ => A - (intOf v).toNat)
  case atStart => exact ⟨0, _, by omega, rfl, HN1, hide (by simp), hide (fun p _ => by rw [rep0]; rfl), HB1⟩
  case round =>
    clear HN1 HB1
    obtain ⟨x, T, hx, rfl, HT, HTl, HTe, HB⟩ := hrel
    by_cases hxA : x < A
    · have hxA' : (x : Int) < (A : Int) := by omega
      have hbt := exS_between s (digs s n x) (by rw [digs_length]; exact hn1) (digs_bound s n hs1 x)
      rw [digs_length, HM.out] at hbt
      obtain ⟨E, hE⟩ : ∃ E, exS s (digs s n x) = E := ⟨_, rfl⟩
      rw [hE] at hbt
      obtain ⟨hE1, hE2⟩ := hbt
      have HEE := hide hE
      clear hE
      go_wp2_with fail
      go_loopw [8, 9, 10] (fun u v z wr => ∃ (i y S : Nat), i ≤ n ∧ z = .int .i64 i ∧ u = .int .i64 y ∧ v = .int .i64 S ∧ Hid (y ≤ 100000) ∧ Hid (S + exS s (digs s (n - i) y) = E) ∧ Hid (Blk wr G T) ∧ Hid (Below w.heap.size w wr)) (fun _ _ z _ => n - (intOf z).toNat)
      case atStart => exact ⟨0, x, 0, by omega, rfl, rfl, rfl, hide (by omega), hide (by rw [Nat.sub_zero, HEE.out]; omega), HT, HB⟩
      case round =>
        clear HT HB
        obtain ⟨i, y, S, hin, rfl, rfl, rfl, HY, HS, HT, HB⟩ := hrel
        have hyb : y ≤ 100000 := HY.out
        have hSb : S ≤ 100 := by have := HS.out; omega
        by_cases hlt : i < n
        · have hlt' : (i : Int) ≤ (d : Int) := by omega
          have hmd := modN y s
          have hdv := divN y s
          have hml : y % s < s := Nat.mod_lt _ hs1
          have hdl : y / s ≤ y := Nat.div_le_self _ _
          obtain ⟨j, hj⟩ : ∃ j, n - i = j + 1 := ⟨n - i - 1, by omega⟩
          have hj2 : n - (i + 1) = j := by omega
          have hed := ex_digs s j y
          rw [← hj] at hed
          have hs0 : ¬ (s : Int) = 0 := by omega
          generalize hr : y % s = r at *
          generalize hq : y / s = q at *
          clear hr hq
          obtain ⟨z, hz⟩ : ∃ z, r + 1 = z := ⟨_, rfl⟩
          have hze : (r : Int) + 1 = (z : Int) := by omega
          rw [hz] at hed
          obtain ⟨S2, hS2⟩ : ∃ S2, S + z = S2 := ⟨_, rfl⟩
          have hS2e : (S : Int) + (z : Int) = (S2 : Int) := by omega
          by_cases hzs : z < s
          · have hzs' : (z : Int) < (s : Int) := by omega
            rw [if_pos hzs] at hed
            have HSE : Hid (S2 = exS s (digs s n x)) := hide (by rw [HEE.out, ← HS.out, hed, hS2])
            have hSE1 : 1 ≤ S2 := by rw [HSE.out, HEE.out]; exact hE1
            have hSE2 : S2 ≤ M := by rw [HSE.out, HEE.out]; exact hE2
            clear hed hj hj2 hz hS2 HS HY
            obtain ⟨p, hp⟩ : ∃ p, S2 - 1 = p := ⟨_, rfl⟩
            have hpe : (S2 : Int) - 1 = (p : Int) := by omega
            have hpM : p < M := by omega
            have hpM' : (p : Int) < (M : Int) := by omega
            have r1 := HT.out.cell (i := p) (by rw [HTl.out]; exact hpM)
            have f1 := HT.out.frozen p
            obtain ⟨t, ht⟩ : ∃ t, T.getD p 0 = t := ⟨_, rfl⟩
            rw [ht] at r1
            have htb : t ≤ 100000 := by rw [← ht, HTe.out p hpM]; have := hit_sum (exF s) 1 s n p x; omega
            have HT2 := hide (HT.out.set p (t + 1))
            have HTl2 : Hid ((T.set p (t + 1)).length = M) := hide (by rw [List.length_set]; exact HTl.out)
            have HTe2 : Hid (∀ p', p' < M → (T.set p (t + 1)).getD p' 0 = sumTo (fun w => hit (exF s) 1 p' (digs s n w)) (x + 1)) := hide (fun p' hp' => by
              rw [getD_setN _ _ _ _ (by rw [HTl.out]; exact hpM)]
              show _ = sumTo (fun w => hit (exF s) 1 p' (digs s n w)) x + hit (exF s) 1 p' (digs s n x)
              rw [hit, exF, ← HSE.out]
              by_cases hpp : p' = p
              · rw [if_pos hpp, if_pos (by omega), hpp, ← HTe.out p hpM, ht]
              · rw [if_neg hpp, if_neg (by omega), HTe.out p' hp']; rfl)
            have HB2 := hide (HB.out.setCell (p := ⟨G, p, none⟩) (by show w.heap.size ≤ G; omega) (.int .i64 ((t + 1 : Nat) : Int)))
            obtain ⟨t1, ht1⟩ : ∃ t1, t + 1 = t1 := ⟨_, rfl⟩
            rw [ht1] at HT2 HTl2 HTe2 HB2
            have hte : (t : Int) + 1 = (t1 : Int) := by omega
            clear ht ht1 hp HT HB HSE
            go_wp2_with fail
            go_roundw
            case rel => exact ⟨x + 1, _, by omega, by go_num, HT2, HTl2, HTe2, HB2⟩
            case measure => simp [intOf]; omega
          · have hzs' : ¬ (z : Int) < (s : Int) := by omega
            rw [if_neg hzs] at hed
            have HS2 : Hid (S2 + exS s (digs s (n - (i + 1)) q) = E) := hide (by rw [hj2, ← HS.out, hed, ← hS2]; omega)
            clear hed hj hj2 hz hS2 HS HY
            go_wp2_with fail
            go_roundw
            case rel => exact ⟨i + 1, q, S2, by omega, by go_num, rfl, rfl, hide (by omega), HS2, HT, HB⟩
            case measure => simp [intOf]; omega
        · have hlt' : ¬ (i : Int) ≤ (d : Int) := by omega
          obtain rfl : i = n := by omega
          obtain ⟨S2, hS2⟩ : ∃ S2, S = S2 := ⟨_, rfl⟩
          subst hS2
          have HSE : Hid (S = exS s (digs s i x)) := hide (by
            have h1 := HS.out
            rw [Nat.sub_self, digs, exS] at h1
            rw [HEE.out, ← h1]; rfl)
          have hSE1 : 1 ≤ S := by rw [HSE.out, HEE.out]; exact hE1
          have hSE2 : S ≤ M := by rw [HSE.out, HEE.out]; exact hE2
          clear HS HY
          obtain ⟨p, hp⟩ : ∃ p, S - 1 = p := ⟨_, rfl⟩
          have hpe : (S : Int) - 1 = (p : Int) := by omega
          have hpM : p < M := by omega
          have hpM' : (p : Int) < (M : Int) := by omega
          have r1 := HT.out.cell (i := p) (by rw [HTl.out]; exact hpM)
          have f1 := HT.out.frozen p
          obtain ⟨t, ht⟩ : ∃ t, T.getD p 0 = t := ⟨_, rfl⟩
          rw [ht] at r1
          have htb : t ≤ 100000 := by rw [← ht, HTe.out p hpM]; have := hit_sum (exF s) 1 s i p x; omega
          have HT2 := hide (HT.out.set p (t + 1))
          have HTl2 : Hid ((T.set p (t + 1)).length = M) := hide (by rw [List.length_set]; exact HTl.out)
          have HTe2 : Hid (∀ p', p' < M → (T.set p (t + 1)).getD p' 0 = sumTo (fun w => hit (exF s) 1 p' (digs s i w)) (x + 1)) := hide (fun p' hp' => by
            rw [getD_setN _ _ _ _ (by rw [HTl.out]; exact hpM)]
            show _ = sumTo (fun w => hit (exF s) 1 p' (digs s i w)) x + hit (exF s) 1 p' (digs s i x)
            rw [hit, exF, ← HSE.out]
            by_cases hpp : p' = p
            · rw [if_pos hpp, if_pos (by omega), hpp, ← HTe.out p hpM, ht]
            · rw [if_neg hpp, if_neg (by omega), HTe.out p' hp']; rfl)
          have HB2 := hide (HB.out.setCell (p := ⟨G, p, none⟩) (by show w.heap.size ≤ G; omega) (.int .i64 ((t + 1 : Nat) : Int)))
          obtain ⟨t1, ht1⟩ : ∃ t1, t + 1 = t1 := ⟨_, rfl⟩
          rw [ht1] at HT2 HTl2 HTe2 HB2
          have hte : (t : Int) + 1 = (t1 : Int) := by omega
          clear ht ht1 hp HT HB HSE
          go_wp2_with fail
          go_roundw
          case rel => exact ⟨x + 1, _, by omega, by go_num, HT2, HTl2, HTe2, HB2⟩
          case measure => simp [intOf]; omega
    · have hxA' : ¬ (x : Int) < (A : Int) := by omega
      obtain rfl : x = A := by omega
      have HTF : Hid (T = tl (exF s) 1 M (List.replicate n s)) := hide (ext_getD (by rw [HTl.out, tl_length]) (fun p hp => by
        rw [HTl.out] at hp
        rw [HTe.out p hp, tl_get _ _ _ _ _ hp, ← HA.out, digs_all s hs1 n (fun t => hit (exF s) 1 p t)]))
      go_wp2_with fail
      go_ret
      rw [HTF.out] at HT
      exact ⟨_, rfl, HT.out, by rw [← hG]; exact HB.out⟩

end Go.Proofs.Ytonmgbepkdlklaa
