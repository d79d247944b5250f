/-
  The document's ways of the greatest of some: all throws, one by one. No conditions beyond those that each theorem bears.
-/
import Derived.Test.YtonmgbepkdlklaaKeepY
namespace Go.Proofs.Ytonmgbepkdlklaa
open Go.RowKit

/-- The greatest k by how often each number is shown. -/
def gF (s k : Nat) (L : List Nat) : Int := (gr (fun x => L.count x) s k : Nat)

theorem gF_ke (n s k : Nat) (L : List Nat) (hl : L.length = n) (hk : k ≤ n) (h : ∀ x ∈ L, 1 ≤ x ∧ x ≤ s) : gF s k L = keF n k L := by
  unfold gF keF
  have h1 := gr_sorted s (isort L) k (isort_sorted L) (fun x hx => h x ((isort_perm L).mem_iff.1 hx)) (by rw [isort_length]; omega)
  rw [isort_length, hl] at h1
  rw [← h1]
  congr 1
  exact gr_congr s (fun x _ _ => ((isort_perm L).count_eq x).symm) k

theorem hit_sum (F : List Nat → Int) (least : Int) (s n p W : Nat) : sumTo (fun w => hit F least p (digs s n w)) W ≤ W := by
  have := sumTo_le (g := fun w => hit F least p (digs s n w)) 1 W (fun _ _ => hit_le _ _ _ _)
  omega

theorem modN (a b : Nat) : (a : Int) % (b : Int) = ((a % b : Nat) : Int) := by simp
theorem divN (a b : Nat) : (a : Int) / (b : Int) = ((a / b : Nat) : Int) := by simp

theorem count_snocN (A : List Nat) (d v : Nat) : (A ++ [d]).count v = if v = d then A.count v + 1 else A.count v := by
  rw [List.count_append]
  by_cases h : v = d
  · subst h; simp
  · rw [if_neg h, List.count_singleton, if_neg (by simp; exact fun e => h e.symm)]; rfl

theorem gr_step (c : Nat → Nat) (s k i : Nat) (hi : i ≤ c (s + 1)) (hk : i ≤ k) (he : i = c (s + 1) ∨ i = k) : gr c (s + 1) k = i * (s + 1) + gr c s (k - i) := by
  have : min (c (s + 1)) k = i := by omega
  rw [gr, this]

theorem gr_le (c : Nat → Nat) (s : Nat) : ∀ k, gr c s k ≤ k * s := by
  induction s with
  | zero => intro k; simp [gr]
  | succ s ih =>
    intro k
    rw [gr]
    have h1 := ih (k - min (c (s + 1)) k)
    have h2 : min (c (s + 1)) k ≤ k := Nat.min_le_right _ _
    generalize min (c (s + 1)) k = m at *
    obtain ⟨q, rfl⟩ : ∃ q, k = m + q := ⟨k - m, by omega⟩
    rw [Nat.add_sub_cancel_left] at h1 ⊢
    rw [Nat.add_mul, Nat.mul_succ q s]
    omega

set_option maxRecDepth 100000 in
set_option maxHeartbeats 8000000 in
theorem KeepWays_any (n s k : Nat) (w : World) (hn1 : 1 ≤ n) (hn : n ≤ 10) (hs1 : 1 ≤ s) (hs : s ≤ 20) (hk1 : 1 ≤ k) (hkn : k ≤ n) (hw : s ^ n ≤ 100000) (M : Nat) (hM : k * s - k + 1 = M) :
    Calls Try.prog 16 #[.int .i64 n, .int .i64 s, .int .i64 k] w fun e w' => ∃ b, e = .returned (.slice (some ⟨b, 0, none⟩) M M) ∧ Blk w' b (tl (keF n k) k M (List.replicate n s)) ∧ Below w.heap.size w w' := by
  obtain ⟨i0, hi, hz0, hz1, hz2⟩ := info_parts Try.info3
  obtain ⟨Q, hQ⟩ : ∃ Q, k * s = Q := ⟨_, rfl⟩
  have hQe : (k : Int) * (s : Int) = (Q : Int) := by rw [← hQ]; simp
  have hQ1 : k ≤ Q := by rw [← hQ]; exact Nat.le_mul_of_pos_right k hs1
  have hQ2 : Q ≤ 200 := by rw [← hQ]; exact Nat.le_trans (Nat.mul_le_mul (show k ≤ 10 by omega) hs) (by omega)
  rw [hQ] at hM
  have HQ := hide hQ
  have HM := hide hM
  have hMe : (Q : Int) - (k : Int) + 1 = (M : Int) := by omega
  have hM1 : M ≤ 201 := by omega
  have hmm : M ≤ maxLen := by unfold maxLen; omega
  have hby : i0.bytes * M ≤ 281474976710656 := by rw [hz2]; omega
  obtain ⟨A, hA⟩ : ∃ A, s ^ n = A := ⟨_, rfl⟩
  rw [hA] at hw
  have HA := hide hA
  have HAW : Hid (awN s n = A) := hide (by unfold awN; rw [hA, if_neg (by omega)])
  clear hQ hM hA
  go_enter Try.func16, Try.ntmps16
  go_wp2_with (at_make; refine wpList_make_full w rfl _ _ 22 rfl w.heap.size 3 i0 (.int .i64 0) 1 Try.underlying22 hi hz0 hz1 _ _ _ _ M rfl rfl (by omega) (by omega) hby hmm (Nat.le_refl _) ?_)
  intro w1 hown hgrow
  have hb1 : Below w.heap.size w w1 := (Below.refl _ _).grown hgrow (Nat.le_refl _) (fun k hk => by simp at hk)
  rw [made_ints] at hown
  have HN1 := hide (Blk.of_own hown)
  have HB1 := hide hb1
  clear hown hgrow hb1 hmm hby
  go_wp2_with fail
  refine (allWays_any s n w1 hn hs1 hs).mono ?_
  rintro e w2 ⟨rfl, hw2⟩
  subst w2
  rw [HAW.out]
  obtain ⟨G, hG⟩ : ∃ G, w.heap.size = G := ⟨_, rfl⟩
  rw [hG] at HN1
  simp only [hG]
  go_wp2_with fail
  go_loopw [9] (fun v wr => ∃ (x : Nat) (T : List Nat), x ≤ A ∧ v = .int .i64 x ∧ Hid (Blk wr G T) ∧ Hid (T.length = M) ∧ Hid (∀ p, p < M → T.getD p 0 = sumTo (fun w => hit (gF s k) k p (digs s n w)) x) ∧ Hid (Below w.heap.size w wr)) (fun v _ => A - (intOf v).toNat)
  case atStart => exact ⟨0, _, by omega, rfl, HN1, hide (by simp), hide (fun p _ => by rw [rep0]; rfl), HB1⟩
  case round =>
    clear HN1 HB1
    obtain ⟨x, T, hx, rfl, HT, HTl, HTe, HB⟩ := hrel
    by_cases hxA : x < A
    · have hxA' : (x : Int) < (A : Int) := by omega
      obtain ⟨m, hm⟩ : ∃ m, s + 1 = m := ⟨_, rfl⟩
      have hme : (s : Int) + 1 = (m : Int) := by omega
      have hmm : m ≤ maxLen := by unfold maxLen; omega
      have hby : i0.bytes * m ≤ 281474976710656 := by rw [hz2]; omega
      have HMM := hide hm
      clear hm
      go_wp2_with (at_make; refine wpList_make_full wr rfl _ _ 22 rfl w.heap.size 3 i0 (.int .i64 0) 1 Try.underlying22 hi hz0 hz1 _ _ _ _ m rfl rfl (by omega) (by omega) hby hmm HB.out.size ?_)
      intro w3 hown hgrow
      have hb3 : Below wr.heap.size wr w3 := (Below.refl _ _).grown hgrow (Nat.le_refl _) (fun k hk => by simp at hk)
      rw [made_ints] at hown
      have HC3 := hide (Blk.of_own hown)
      have HT3 := hide (HT.out.below hb3 HT.out.lt)
      have HB3 := hide (HB.out.trans (hb3.mono HB.out.size))
      have hGR : G < wr.heap.size := HT.out.lt
      have hww : w.heap.size ≤ wr.heap.size := HB.out.size
      generalize hR : wr.heap.size = R at *
      clear hown hgrow hb3 hmm hby HT HB hR
      go_wp2_with fail
      go_loopw [10, 12] (fun u v wr => ∃ (i y : Nat) (D C : List Nat), i ≤ n ∧ v = .int .i64 i ∧ u = .int .i64 y ∧ Hid (y ≤ 100000) ∧ Hid (D.length = i) ∧ Hid (D ++ digs s (n - i) y = digs s n x) ∧ Hid (Blk wr R C) ∧ Hid (C.length = m) ∧ Hid (∀ v, v < m → C.getD v 0 = D.count v) ∧ Hid (Blk wr G T) ∧ Hid (Below w.heap.size w wr)) (fun _ v _ => n - (intOf v).toNat)
      case atStart => exact ⟨0, x, [], _, by omega, rfl, rfl, hide (by omega), hide rfl, hide (by simp), HC3, hide (by simp), hide (fun v _ => by rw [rep0]; rfl), HT3, HB3⟩
      case round =>
        clear HC3 HT3 HB3
        obtain ⟨i, y, D, C, hin, rfl, rfl, HY, HDl, HDe, HC, HCl, HCe, HT, HB⟩ := hrel
        have hyb : y ≤ 100000 := HY.out
        by_cases hlt : i < n
        · have hlt' : (i : Int) < (n : Int) := by omega
          have hmd := modN y s
          have hdv := divN y s
          have hml : y % s < s := Nat.mod_lt _ hs1
          have hdl : y / s ≤ y := Nat.div_le_self _ _
          have HDG : Hid ((D ++ [y % s + 1]) ++ digs s (n - (i + 1)) (y / s) = digs s n x) := hide (by
            rw [← HDe.out, List.append_assoc]
            congr 1
            obtain ⟨j, hj⟩ : ∃ j, n - i = j + 1 := ⟨n - i - 1, by omega⟩
            rw [hj, show n - (i + 1) = j by omega]
            rfl)
          have hs0 : ¬ (s : Int) = 0 := by omega
          generalize hr : y % s = r at *
          generalize hq : y / s = q at *
          clear hr hq
          obtain ⟨z, hz⟩ : ∃ z, r + 1 = z := ⟨_, rfl⟩
          have hze : (r : Int) + 1 = (z : Int) := by omega
          have hzm : z < m := by have := HMM.out; omega
          have hzm' : (z : Int) < (m : Int) := by omega
          rw [hz] at HDG
          have r1 := HC.out.cell (i := z) (by rw [HCl.out]; exact hzm)
          have f1 := HC.out.frozen z
          obtain ⟨t, ht⟩ : ∃ t, C.getD z 0 = t := ⟨_, rfl⟩
          rw [ht] at r1
          have htb : t ≤ 10 := by
            rw [← ht, HCe.out z hzm]
            have := List.count_le_length (a := z) (l := D)
            rw [HDl.out] at this
            omega
          have HC2 := hide (HC.out.set z (t + 1))
          have HCl2 : Hid ((C.set z (t + 1)).length = m) := hide (by rw [List.length_set]; exact HCl.out)
          have HCe2 : Hid (∀ v, v < m → (C.set z (t + 1)).getD v 0 = (D ++ [z]).count v) := hide (fun v hv => by
            rw [getD_setN _ _ _ _ (by rw [HCl.out]; exact hzm), count_snocN]
            by_cases hvz : v = z
            · rw [if_pos hvz, if_pos hvz, hvz, ← HCe.out z hzm, ht]
            · rw [if_neg hvz, if_neg hvz, HCe.out v hv])
          have HT2 := hide (HT.out.other (g := R) (by omega) z (.int .i64 ((t + 1 : Nat) : Int)))
          have HB2 := hide (HB.out.setCell (p := ⟨R, z, none⟩) (by show w.heap.size ≤ R; omega) (.int .i64 ((t + 1 : Nat) : Int)))
          have HDl2 : Hid ((D ++ [z]).length = i + 1) := hide (by rw [List.length_append, HDl.out]; rfl)
          obtain ⟨t1, ht1⟩ : ∃ t1, t + 1 = t1 := ⟨_, rfl⟩
          rw [ht1] at HC2 HCl2 HCe2 HT2 HB2
          have hte : (t : Int) + 1 = (t1 : Int) := by omega
          clear ht ht1 hz HC HCl HCe HT HB HDl HDe HY
          go_wp2_with fail
          go_roundw
          case rel => exact ⟨i + 1, q, D ++ [z], _, by omega, by go_num, rfl, hide (by omega), HDl2, HDG, HC2, HCl2, HCe2, HT2, HB2⟩
          case measure => simp [intOf]; omega
        · have hlt' : ¬ (i : Int) < (n : Int) := by omega
          obtain rfl : i = n := by omega
          have hDx : D = digs s i x := by have := HDe.out; rw [Nat.sub_self, digs, List.append_nil] at this; exact this
          obtain ⟨GG, hGG⟩ : ∃ GG, gr (fun v => D.count v) s k = GG := ⟨_, rfl⟩
          have hGF : gF s k (digs s i x) = (GG : Int) := by rw [← hDx, ← hGG]; rfl
          have hbt := keF_between i k s D HDl.out hkn (by rw [hDx]; exact digs_bound s i hs1 x)
          rw [← gF_ke i s k D HDl.out hkn (by rw [hDx]; exact digs_bound s i hs1 x), hDx, hGF, HQ.out] at hbt
          obtain ⟨hb1, hb2⟩ := hbt
          have HGF := hide hGF
          have HGG := hide hGG
          clear hGF hGG hDx
          go_wp2_with fail
          go_loopw [13, 14, 15] (fun u v z wr => ∃ (S L q : Nat), q ≤ s ∧ L ≤ k ∧ u = .int .i64 S ∧ v = .int .i64 L ∧ z = .int .i64 q ∧ Hid (S + gr (fun v => D.count v) q L = GG) ∧ Hid (Blk wr R C) ∧ Hid (Blk wr G T) ∧ Hid (Below w.heap.size w wr)) (fun _ _ z _ => (intOf z).toNat)
          case atStart => exact ⟨0, k, s, by omega, by omega, rfl, rfl, rfl, hide (by rw [HGG.out]; omega), HC, HT, HB⟩
          case round =>
            clear HC HT HB
            obtain ⟨S, L, q, hq, hL, rfl, rfl, rfl, HE, HC, HT, HB⟩ := hrel
            have hSb : S ≤ 200 := by have := HE.out; omega
            cases q with
            | zero =>
              have hSG : S = GG := by have := HE.out; rw [gr] at this; omega
              obtain ⟨p, hp⟩ : ∃ p, S - k = p := ⟨_, rfl⟩
              have hpe : (S : Int) - (k : Int) = (p : Int) := by omega
              have hpM : p < M := by have := HM.out; omega
              have hpM' : (p : Int) < (M : Int) := by omega
              have r1 := HT.out.cell (i := p) (by rw [HTl.out]; exact hpM)
              have f1 := HT.out.frozen p
              obtain ⟨t, ht⟩ : ∃ t, T.getD p 0 = t := ⟨_, rfl⟩
              rw [ht] at r1
              have htb : t ≤ 100000 := by rw [← ht, HTe.out p hpM]; have := hit_sum (gF s k) k s i p x; omega
              have HT2 := hide (HT.out.set p (t + 1))
              have HTl2 : Hid ((T.set p (t + 1)).length = M) := hide (by rw [List.length_set]; exact HTl.out)
              have HTe2 : Hid (∀ p', p' < M → (T.set p (t + 1)).getD p' 0 = sumTo (fun w => hit (gF s k) k p' (digs s i w)) (x + 1)) := hide (fun p' hp' => by
                rw [getD_setN _ _ _ _ (by rw [HTl.out]; exact hpM)]
                show _ = sumTo (fun w => hit (gF s k) k p' (digs s i w)) x + hit (gF s k) k p' (digs s i x)
                rw [hit, HGF.out]
                by_cases hpp : p' = p
                · rw [if_pos hpp, if_pos (by omega), hpp, ← HTe.out p hpM, ht]
                · rw [if_neg hpp, if_neg (by omega), HTe.out p' hp']; rfl)
              have HB2 := hide (HB.out.setCell (p := ⟨G, p, none⟩) (by show w.heap.size ≤ G; omega) (.int .i64 ((t + 1 : Nat) : Int)))
              obtain ⟨t1, ht1⟩ : ∃ t1, t + 1 = t1 := ⟨_, rfl⟩
              rw [ht1] at HT2 HTl2 HTe2 HB2
              have hte : (t : Int) + 1 = (t1 : Int) := by omega
              clear ht ht1 hp HC HT HB HE hSG
              go_wp2_with fail
              go_roundw
              case rel => exact ⟨x + 1, _, by omega, by go_num, HT2, HTl2, HTe2, HB2⟩
              case measure => simp [intOf]; omega
            | succ q =>
              obtain ⟨q1, hq1⟩ : ∃ q1, q + 1 = q1 := ⟨_, rfl⟩
              rw [hq1] at HE hq ⊢
              have hq0 : (0 : Int) < (q1 : Int) := by omega
              have hqm : q1 < m := by have := HMM.out; omega
              have hqm' : (q1 : Int) < (m : Int) := by omega
              have r1 := HC.out.cell (i := q1) (by rw [HCl.out]; exact hqm)
              obtain ⟨c, hc⟩ : ∃ c, C.getD q1 0 = c := ⟨_, rfl⟩
              rw [hc] at r1
              have HCC : Hid (D.count q1 = c) := hide (by rw [← HCe.out q1 hqm, hc])
              have HC1 : Hid (∀ W, Blk W R C → W.cell? ⟨R, q1, none⟩ = some (.int .i64 (c : Int))) := hide (fun W hW => by have := hW.cell (i := q1) (by rw [HCl.out]; exact hqm); rw [hc] at this; exact this)
              have HQ1 := hide hq1
              have hqq : (q1 : Int) - 1 = (q : Int) := by omega
              clear hc hq1 r1
              go_wp2_with fail
              go_loopw [13, 14, 16] (fun u v z wr => ∃ (i' S' L' : Nat), i' ≤ c ∧ i' ≤ L ∧ u = .int .i64 S' ∧ v = .int .i64 L' ∧ z = .int .i64 i' ∧ Hid (S' = S + i' * q1) ∧ Hid (L' = L - i') ∧ Hid (Blk wr R C) ∧ Hid (Blk wr G T) ∧ Hid (Below w.heap.size w wr)) (fun _ _ z _ => L - (intOf z).toNat)
              case atStart => exact ⟨0, S, L, by omega, by omega, rfl, rfl, rfl, hide (by omega), hide rfl, HC, HT, HB⟩
              case round =>
                clear HC HT HB
                obtain ⟨j, S', L', hj1, hj2, rfl, rfl, rfl, HS', HL', HC, HT, HB⟩ := hrel
                have r1 := HC1.out _ HC.out
                have hjq : j * q1 ≤ 10 * 20 := Nat.mul_le_mul (by omega) (by omega)
                have hS1 : S' ≤ 400 := by have := HS'.out; omega
                have hL1 : L' ≤ 10 := by have := HL'.out; omega
                by_cases hgo : j < c ∧ j < L
                · have hg1 : (j : Int) < (c : Int) := by omega
                  have hg1' : decide ((j : Int) < (c : Int)) = true := by simpa using hgo.1
                  have hg2 : (0 : Int) < (L' : Int) := by have := HL'.out; omega
                  obtain ⟨S2, hS2⟩ : ∃ S2, S' + q1 = S2 := ⟨_, rfl⟩
                  have hS2e : (S' : Int) + (q1 : Int) = (S2 : Int) := by omega
                  obtain ⟨L2, hL2⟩ : ∃ L2, L' - 1 = L2 := ⟨_, rfl⟩
                  have hL2e : (L' : Int) - 1 = (L2 : Int) := by omega
                  have HS2 : Hid (S2 = S + (j + 1) * q1) := hide (by rw [← hS2, HS'.out, Nat.succ_mul]; omega)
                  have HL2 : Hid (L2 = L - (j + 1)) := hide (by rw [← hL2, HL'.out]; omega)
                  clear hS2 hL2
                  go_wp2_with fail
                  go_roundw
                  case rel => exact ⟨j + 1, S2, L2, by omega, by omega, rfl, rfl, by go_num, HS2, HL2, HC, HT, HB⟩
                  case measure => simp [intOf]; omega
                · have HEE : Hid (S' + gr (fun v => D.count v) q L' = GG) := hide (by
                    have h1 := gr_step (fun v => D.count v) q L j (by show j ≤ D.count (q + 1); rw [HQ1.out, HCC.out]; exact hj1) hj2 (by show j = D.count (q + 1) ∨ _; rw [HQ1.out, HCC.out]; omega)
                    rw [HQ1.out] at h1
                    rw [← HE.out, h1, HS'.out, HL'.out]
                    omega)
                  by_cases hg : j < c
                  · have hg1 : (j : Int) < (c : Int) := by omega
                    have hg1' : decide ((j : Int) < (c : Int)) = true := by simpa using hg
                    have hg2 : ¬ (0 : Int) < (L' : Int) := by have := HL'.out; omega
                    go_wp2_with fail
                    go_roundw
                    case rel => exact ⟨S', L', q, by omega, by have := HL'.out; omega, rfl, rfl, rfl, HEE, HC, HT, HB⟩
                    case measure => simp [intOf]; omega
                  · have hg1 : ¬ (j : Int) < (c : Int) := by omega
                    have hg1' : decide ((j : Int) < (c : Int)) = false := by simpa using hg
                    go_wp2_with fail
                    go_roundw
                    case rel => exact ⟨S', L', q, by omega, by have := HL'.out; omega, rfl, rfl, rfl, HEE, HC, HT, HB⟩
                    case measure => simp [intOf]; omega
    · have hxA' : ¬ (x : Int) < (A : Int) := by omega
      obtain rfl : x = A := by omega
      have HTF : Hid (T = tl (keF n k) k M (List.replicate n s)) := hide (ext_getD (by rw [HTl.out, tl_length]) (fun p hp => by
        rw [HTl.out] at hp
        rw [HTe.out p hp, tl_get _ _ _ _ _ hp, ← HA.out, digs_all s hs1 n (fun t => hit (gF s k) k p t)]
        refine cntT_congr _ (fun t ht hr => ?_)
        rw [List.length_replicate] at ht hr
        have hall : ∀ y ∈ t, 1 ≤ y ∧ y ≤ s := ok_rep n s t ht hr
        rw [hit, hit, gF_ke n s k t ht hkn hall]))
      go_wp2_with fail
      go_ret
      rw [HTF.out] at HT
      exact ⟨_, rfl, HT.out, by rw [← hG]; exact HB.out⟩

end Go.Proofs.Ytonmgbepkdlklaa
