/-
  What the reference's countRanks does with a whole row of ranks. No conditions beyond those that each theorem bears.
-/
import Derived.Test.YtdhacmcdbpojlaaCntMath
import Derived.Test.YtdhacmcdbpojlaaRef1
import Derived.Test.YtdhacmcdbpojlaaNew
import Derived.BigRegion
import Derived.OrdersHeld
import Derived.Deep.RegionHeld3
namespace Go.Proofs.Ytdhacmcdbpojlaa
open Go.RowKit Go.Shelf

/-- A slice of n numbers that fills its own block. -/
def Ow (w : World) (b n : Nat) (L : List Nat) : Prop := w.ownsRow b 3 1 (.slice (some ⟨b, 0, none⟩) n n) n ((toI L).map (Value.int .i64))

theorem Ow.cell {w : World} {b n : Nat} {L : List Nat} (h : Ow w b n L) {i : Nat} (hi : i < n) : w.cell? ⟨b, i, none⟩ = some (.int .i64 (L.getD i 0)) := by
  have := (own_cell h i hi).1
  rwa [toI_getD] at this
theorem Ow.frozen {w : World} {b n : Nat} {L : List Nat} (h : Ow w b n L) (i : Nat) : w.frozen? ⟨b, i, none⟩ = false := World.ownsRow.frozenAt h i
theorem Ow.set {w : World} {b n : Nat} {L : List Nat} (h : Ow w b n L) (i x : Nat) : Ow (w.setCell ⟨b, i, none⟩ (.int .i64 x)) b n (L.set i x) := by
  have := own_set h i (x : Int)
  rwa [toI_set] at this
theorem Ow.keeps {X : Nat → Prop} {w w' : World} {b n : Nat} {L : List Nat} (h : Ow w b n L) (hk : Keeps X w w') (hb : ¬ X b) : Ow w' b n L := by
  obtain ⟨h1, h2⟩ := h
  refine ⟨h1, ?_⟩
  rcases h2 with ⟨h2, _⟩ | ⟨g, cap, cur, hv, hbb, hg, h3⟩
  · simp at h2
  · simp only [Value.slice.injEq, Option.some.injEq, Addr.mk.injEq] at hv
    obtain ⟨⟨rfl, _⟩, _⟩ := hv
    refine .inr ⟨b, cap, cur, by simp_all, hbb, ?_, h3⟩
    rw [hk.block b (Array.getElem?_eq_some_iff.1 hg).1 hb]
    exact hg
theorem Ow.lt {w : World} {b n : Nat} {L : List Nat} (h : Ow w b n L) (hn : 0 < n) : b < w.heap.size := World.block_lt_of_cell? w _ (h.cell hn)

def mixL (t : List Nat) (k : Nat) : List Nat := (List.range k).map (fun i => 4 * t.getD i 0 + i % 4)
def oneL (t : List Nat) (k : Nat) : List Nat := (List.range k).map (fun i => 4 * t.getD i 0)

theorem mixL_succ (t : List Nat) (k : Nat) : mixL t (k + 1) = mixL t k ++ [4 * t.getD k 0 + k % 4] := by simp [mixL, List.range_succ]
theorem oneL_succ (t : List Nat) (k : Nat) : oneL t (k + 1) = oneL t k ++ [4 * t.getD k 0] := by simp [oneL, List.range_succ]
theorem count_snoc (l : List Nat) (c r : Nat) : (l ++ [c]).count r = if c = r then l.count r + 1 else l.count r := by
  simp only [List.count_append, List.count_singleton]
  by_cases h : c = r
  · subst h; simp
  · simp [h]

/-- The value of the hand of these ranks that is no flush. -/
theorem mix_value (x : Option Addr) (cp : Nat) (t : List Nat) (h5 : t.length = 5) (hb : ∀ x ∈ t, x < 13) (hG : GoodT (mnyR t)) (w : World) (hR : Rd w x 5 cp (toI (mixL t 5))) :
    Calls Try.prog 26 #[.slice x 5 cp] w fun r w' => r = .returned (.int .i64 (refF false (mnyR t))) ∧ Below w.heap.size w w' := by
  match t, h5 with
  | [a, b, c, d, e], _ =>
    have ha := hb a (by simp)
    have hb' := hb b (by simp)
    have hc := hb c (by simp)
    have hd := hb d (by simp)
    have he := hb e (by simp)
    have e1 : mny [4 * a, 4 * b + 1, 4 * c + 2, 4 * d + 3, 4 * e] = mnyR [a, b, c, d, e] := by
      have : [4 * a, 4 * b + 1, 4 * c + 2, 4 * d + 3, 4 * e].map (· / 4) = [a, b, c, d, e] := by
        simp only [List.map_cons, List.map_nil]
        rw [show 4 * a / 4 = a by omega, show (4 * b + 1) / 4 = b by omega, show (4 * c + 2) / 4 = c by omega, show (4 * d + 3) / 4 = d by omega, show 4 * e / 4 = e by omega]
      show mnyR ([4 * a, 4 * b + 1, 4 * c + 2, 4 * d + 3, 4 * e].map (· / 4)) = _
      rw [this]
    have e2 : flN (4 * a) (4 * b + 1) (4 * c + 2) (4 * d + 3) (4 * e) = false := by
      simp only [flN, decide_eq_false_iff_not]
      omega
    have h := HandValue_any x cp (4 * a) (4 * b + 1) (4 * c + 2) (4 * d + 3) (4 * e) (by simp; omega) (by rw [e1]; exact hG) w hR
    rw [e1, e2] at h
    exact h

/-- The value of the hand of these ranks that is a flush. -/
theorem one_value (x : Option Addr) (cp : Nat) (t : List Nat) (h5 : t.length = 5) (hb : ∀ x ∈ t, x < 13) (hG : GoodT (mnyR t)) (w : World) (hR : Rd w x 5 cp (toI (oneL t 5))) :
    Calls Try.prog 26 #[.slice x 5 cp] w fun r w' => r = .returned (.int .i64 (refF true (mnyR t))) ∧ Below w.heap.size w w' := by
  match t, h5 with
  | [a, b, c, d, e], _ =>
    have ha := hb a (by simp)
    have hb' := hb b (by simp)
    have hc := hb c (by simp)
    have hd := hb d (by simp)
    have he := hb e (by simp)
    have e1 : mny [4 * a, 4 * b, 4 * c, 4 * d, 4 * e] = mnyR [a, b, c, d, e] := by
      have : [4 * a, 4 * b, 4 * c, 4 * d, 4 * e].map (· / 4) = [a, b, c, d, e] := by
        simp only [List.map_cons, List.map_nil]
        rw [show 4 * a / 4 = a by omega, show 4 * b / 4 = b by omega, show 4 * c / 4 = c by omega, show 4 * d / 4 = d by omega, show 4 * e / 4 = e by omega]
      show mnyR ([4 * a, 4 * b, 4 * c, 4 * d, 4 * e].map (· / 4)) = _
      rw [this]
    have e2 : flN (4 * a) (4 * b) (4 * c) (4 * d) (4 * e) = true := by
      simp only [flN, decide_eq_true_eq]
      omega
    have h := HandValue_any x cp (4 * a) (4 * b) (4 * c) (4 * d) (4 * e) (by simp; omega) (by rw [e1]; exact hG) w hR
    rw [e1, e2] at h
    exact h

set_option maxRecDepth 100000 in
set_option maxHeartbeats 8000000 in
theorem leaf_walk (a : Option Addr) (cp ob : Nat) (z : Int) (t O : List Nat) (h5 : t.length = 5) (hb : ∀ x ∈ t, x < 13) (hO9 : O.length = 9) (w : World) (hRd : Rd w a 5 cp (toI t)) (hOw : Ow w ob 9 O) (hne : ∀ b off, a = some ⟨b, off, none⟩ → b ≠ ob) (hbd : ∀ x, O.getD x 0 + 13060694016 ≤ 4000000000000000000) :
    Calls Try.prog 30 #[.slice a 5 cp, .int .i64 z, .slice (some ⟨ob, 0, none⟩) 9 9] w fun e w' => e = .returned (.tuple #[]) ∧ Keeps (fun k => k = ob) w w' ∧ Ow w' ob 9 (leafUp t O) := by
  obtain ⟨i0, hi, hz0, hz1, hz2⟩ := info_parts Try.info3
  have hmm : 13 ≤ maxLen := by unfold maxLen; omega
  have hby : i0.bytes * 13 ≤ 281474976710656 := by rw [hz2]; omega
  obtain ⟨bx, ox, rfl, hcx⟩ := hRd.cells (by omega)
  have hbl : bx < w.heap.size := World.block_lt_of_cell? w _ (hcx 0 (by omega))
  have hnb : bx ≠ ob := hne bx ox rfl
  have hol : ob < w.heap.size := hOw.lt (by omega)
  have hcp := hRd.cap
  have hcm := hRd.max
  unfold maxLen at hcm
  have hq13 : ∀ k, k < 5 → t.getD k 0 < 13 := fun k hk => hb _ (by simp [List.getD, h5, hk])
  have HCX := hide hcx
  have HB := hide hb
  have HQ := hide hq13
  have H5 := hide h5
  have HO9 := hide hO9
  have HOW := hide hOw
  have HBD := hide hbd
  obtain ⟨OO, hOO⟩ : ∃ OO, leafUp t O = OO := ⟨_, rfl⟩
  rw [hOO]
  have HOO := hide hOO
  clear hcx hRd hb hq13 h5 hO9 hOw hbd hne hOO
  go_enter Try.func30, Try.ntmps30
  go_wp2_with (at_make; refine wpList_make_full w rfl _ _ 22 rfl w.heap.size 3 i0 (.int .i64 0) 1 Try.underlying22 hi hz0 hz1 _ _ _ _ 13 rfl rfl (by omega) (by omega) hby hmm (Nat.le_refl _) ?_)
  intro w1 hown hgrow
  have hb1 : Below w.heap.size w w1 := (Below.refl _ _).grown hgrow (Nat.le_refl _) (fun k hk => by simp at hk)
  rw [made_ints] at hown
  have hr0 : List.replicate 13 (0 : Int) = toI (List.replicate 13 0) := rfl
  rw [hr0] at hown
  have HO1 : Hid (Ow w1 w.heap.size 13 (List.replicate 13 0)) := hide hown
  have HB1 := hide hb1
  clear hgrow hown hb1 hr0 hmm hby hi hz0 hz1 hz2
  go_wp2
  go_loopw [9] (fun v wr => ∃ (k : Nat) (T : List Nat), v = .int .i64 k ∧ k ≤ 5 ∧ Hid (Ow wr w.heap.size 13 T) ∧ Hid (T.length = 13) ∧ Hid (∀ r, r < 13 → T.getD r 0 = (t.take k).count r) ∧ Hid (Below w.heap.size w wr)) (fun v _ => 5 - (intOf v).toNat)
  case atStart => exact ⟨0, _, rfl, by omega, HO1.out, rfl, fun r hr => by rw [rep0]; simp, HB1.out⟩
  case round =>
    obtain ⟨k, T, rfl, hk, hO, hTl, hTc, hB⟩ := hrel
    by_cases hk5 : k < 5
    · obtain ⟨r, hr⟩ : ∃ r, t.getD k 0 = r := ⟨_, rfl⟩
      have hr13 : r < 13 := by rw [← hr]; exact HQ.out k hk5
      have c1 : wr.cell? ⟨bx, ox + k, none⟩ = some (.int .i64 r) := by
        rw [hB.out.cell (p := ⟨bx, ox + k, none⟩) hbl, HCX.out k hk5, toI_getD, hr]
      have c2 := hO.out.cell hr13
      have f2 := hO.out.frozen r
      obtain ⟨m, hm⟩ : ∃ m, T.getD r 0 = m := ⟨_, rfl⟩
      have hm5 : m ≤ 5 := by
        rw [← hm, hTc.out r hr13]
        refine Nat.le_trans List.count_le_length ?_
        rw [List.length_take]
        exact Nat.le_trans (Nat.min_le_left _ _) hk
      rw [hm] at c2
      have hneb : ¬ bx = w.heap.size := by omega
      have HO2 : Hid (∀ m', Ow ((wr.setCell ⟨w.heap.size, r, none⟩ (.int .i64 ((m : Int) + 1))).drewN m') w.heap.size 13 (T.set r (m + 1))) := by
        intro m'
        have h1 := hO.out.set r (m + 1)
        rw [show ((m + 1 : Nat) : Int) = (m : Int) + 1 by omega] at h1
        exact h1.keeps (X := fun _ => False) (Keeps.of_all (drewN_below _ _ m')) (fun h => h.elim)
      have HB2 : Hid (∀ m', Below w.heap.size w ((wr.setCell ⟨w.heap.size, r, none⟩ (.int .i64 ((m : Int) + 1))).drewN m')) := fun m' => (hB.out.setCell (p := ⟨w.heap.size, r, none⟩) (Nat.le_refl _) _).trans (drewN_below _ _ _)
      have HT2 : Hid (∀ r', r' < 13 → (T.set r (m + 1)).getD r' 0 = (t.take (k + 1)).count r') := by
        intro r' hr'
        rw [getD_setN _ _ _ _ (by rw [hTl.out]; exact hr13), take_snoc _ _ (by rw [H5.out]; omega), hr, count_snoc]
        by_cases e' : r' = r
        · subst e'; rw [if_pos rfl, if_pos rfl, ← hTc.out _ hr13, hm]
        · rw [if_neg e', if_neg (fun h => e' h.symm)]; exact hTc.out r' hr'
      have HTL2 : Hid ((T.set r (m + 1)).length = 13) := by show _ = _; rw [List.length_set]; exact hTl.out
      have hlt' : (k : Int) < 5 := by omega
      clear hr hm hTl hTc hO
      go_wp2
      refine ⟨⟨k + 1, _, by go_num, by omega, HO2.out 0, HTL2.out, HT2.out, HB2.out 0⟩, by simp [intOf]; omega⟩
    · obtain rfl : k = 5 := by omega
      have eT : T = mnyR t := by
        apply list_ext
        · rw [hTl.out]; simp [mnyR]
        · intro r hr
          rw [hTl.out] at hr
          rw [hTc.out r hr, List.take_of_length_le (by rw [H5.out]; exact Nat.le_refl _)]
          simp [mnyR, List.getD, hr]
      have HCT : Hid (∀ r, r < 13 → T.getD r 0 = t.count r) := fun r hr => by rw [hTc.out r hr, List.take_of_length_le (by rw [H5.out]; exact Nat.le_refl _)]
      have HTE := hide eT
      have MC : Hid (∀ r, r < 13 → wr.cell? ⟨w.heap.size, r, none⟩ = some (.int .i64 (T.getD r 0))) := fun r hr => hO.out.cell hr
      have HSZ2 : Hid (w.heap.size < wr.heap.size) := hO.out.lt (by omega)
      obtain ⟨w2, rfl⟩ : ∃ w2, w2 = wr := ⟨_, rfl⟩
      clear eT hO hTl hTc HO1 HB1 hk hk5
      rw [show (((5 : Nat)) : Int) = (5 : Int) from rfl]
      go_wp2
      go_loopw [10, 11, 12] (fun x y v wr => ∃ (r : Nat), v = .int .i64 r ∧ r ≤ 13 ∧ x = .int .i64 (wpN r t) ∧ y = .int .i64 (unl r t) ∧ Hid (∀ q, q < r → t.count q ≤ 4) ∧ Hid (Below w2.heap.size w2 wr)) (fun _ _ v _ => 13 - (intOf v).toNat)
      case atStart => exact ⟨0, rfl, by omega, rfl, rfl, fun q hq => by omega, Below.refl _ _⟩
      case round =>
        obtain ⟨r, rfl, hr, rfl, rfl, hq4, hBB⟩ := hrel
        have HBW : Hid (Below w.heap.size w wr) := hide (hB.out.trans (hBB.out.mono (Nat.le_of_lt HSZ2.out)))
        by_cases hr13 : r < 13
        · have c1 : wr.cell? ⟨w.heap.size, r, none⟩ = some (.int .i64 (T.getD r 0)) := (hBB.out.cell (p := ⟨w.heap.size, r, none⟩) HSZ2.out).trans (MC.out r hr13)
          obtain ⟨m, hm⟩ : ∃ m, T.getD r 0 = m := ⟨_, rfl⟩
          rw [hm] at c1
          have hmc : t.count r = m := by rw [← HCT.out r hr13, hm]
          have hU := unl_bd t r
          have hW : wpN r t ≤ 13060694016 := Nat.le_trans (wp_le t r) (Nat.le_trans (Nat.pow_le_pow_right (by omega) hr) (by decide))
          have HWS : Hid (wpN (r + 1) t = wpN r t * c4 m) := by show _ = _; rw [wpN, hmc]
          have HUS : Hid (unl (r + 1) t = unl r t + (if 0 < m then 1 else 0)) := by show _ = _; rw [unl, hmc]
          obtain ⟨W, hWn⟩ : ∃ W, wpN r t = W := ⟨_, rfl⟩
          obtain ⟨U, hUn⟩ : ∃ U, unl r t = U := ⟨_, rfl⟩
          rw [hWn] at hW HWS ⊢
          rw [hUn] at hU HUS ⊢
          clear hm hWn hUn
          by_cases hm4 : 4 < m
          · have hm4' : (4 : Int) < (m : Int) := by omega
            have HZ : Hid (OO = O) := by
              show _ = _
              rw [← HOO.out, leafUp, if_pos (wp_zero t r (by omega) 13 hr13)]
            clear hmc
            go_wp2
            refine bodyPost_ret (results_none rfl _ _ _) rfl ⟨rfl, Keeps.of_all HBW.out, ?_⟩
            rw [HZ.out]
            exact HOW.out.keeps (X := fun _ => False) (Keeps.of_all HBW.out) (fun h => h)
          · have hm4' : ¬ (4 : Int) < (m : Int) := by omega
            have HQ4 : Hid (∀ q, q < r + 1 → t.count q ≤ 4) := by
              intro q hq
              by_cases e : q = r
              · subst e; omega
              · exact hq4.out q (by omega)
            have c1' := fun o => old_cell o c1
            clear hmc
            rcases (by omega : m = 0 ∨ m = 1 ∨ m = 2 ∨ m = 3 ∨ m = 4) with rfl | rfl | rfl | rfl | rfl
            · go_wp2
              refine ⟨⟨r + 1, by go_num, by omega, by rw [HWS.out, show c4 0 = 1 from rfl, Nat.mul_one], by rw [HUS.out, if_neg (by omega)]; rfl, HQ4.out, hBB.out.alloc hBB.out.size _⟩, by simp [intOf]; omega⟩
            · go_wp2
              refine ⟨⟨r + 1, by go_num, by omega, by rw [HWS.out, show c4 1 = 4 from rfl]; congr 1, by rw [HUS.out, if_pos (by omega)]; rfl, HQ4.out, hBB.out.alloc hBB.out.size _⟩, by simp [intOf]; omega⟩
            · go_wp2
              refine ⟨⟨r + 1, by go_num, by omega, by rw [HWS.out, show c4 2 = 6 from rfl]; congr 1, by rw [HUS.out, if_pos (by omega)]; rfl, HQ4.out, hBB.out.alloc hBB.out.size _⟩, by simp [intOf]; omega⟩
            · go_wp2
              refine ⟨⟨r + 1, by go_num, by omega, by rw [HWS.out, show c4 3 = 4 from rfl]; congr 1, by rw [HUS.out, if_pos (by omega)]; rfl, HQ4.out, hBB.out.alloc hBB.out.size _⟩, by simp [intOf]; omega⟩
            · go_wp2
              refine ⟨⟨r + 1, by go_num, by omega, by rw [HWS.out, show c4 4 = 1 from rfl, Nat.mul_one], by rw [HUS.out, if_pos (by omega)]; rfl, HQ4.out, hBB.out.alloc hBB.out.size _⟩, by simp [intOf]; omega⟩
        · obtain rfl : r = 13 := by omega
          have HQ4 : Hid (∀ q, q < 13 → t.count q ≤ 4) := hq4
          obtain ⟨w3, rfl⟩ : ∃ w3, w3 = wr := ⟨_, rfl⟩
          have hbl3 : w.heap.size ≤ w3.heap.size := HBW.out.size
          clear hr hr13 MC HSZ2 hBB hB hq4
          obtain ⟨W, hWn⟩ : ∃ W, wpN 13 t = W := ⟨_, rfl⟩
          obtain ⟨U, hUn⟩ : ∃ U, unl 13 t = U := ⟨_, rfl⟩
          rw [hWn, hUn, show (((13 : Nat)) : Int) = (13 : Int) from rfl]
          have hW : W ≤ 13060694016 := by rw [← hWn]; exact Nat.le_trans (wp_le t 13) (by decide)
          have HWN := hide hWn
          have HUN := hide hUn
          clear hWn hUn
          go_wp2_with fail
          go_loopw [13, 14, 15] (fun x y v wr => ∃ (k : Nat), v = .int .i64 k ∧ k ≤ 5 ∧ (∃ ad cc, x = .slice ad k cc) ∧ (∃ ad cc, y = .slice ad k cc) ∧ Hid (wr.ownsRow w3.heap.size 3 1 x k ((toI (mixL t k)).map (Value.int .i64))) ∧ Hid (wr.ownsRow w3.heap.size 3 1 y k ((toI (oneL t k)).map (Value.int .i64))) ∧ Hid (x.ownBlock = none ∧ y.ownBlock = none ∨ x.ownBlock ≠ y.ownBlock) ∧ Hid (Below w3.heap.size w3 wr)) (fun _ _ v _ => 5 - (intOf v).toNat)
          case atStart => exact ⟨0, rfl, by omega, ⟨_, _, rfl⟩, ⟨_, _, rfl⟩, World.ownsRow_nil _ _ _ _, World.ownsRow_nil _ _ _ _, .inl ⟨rfl, rfl⟩, Below.refl _ _⟩
          case round =>
            obtain ⟨k, rfl, hk, ⟨ad, cc, rfl⟩, ⟨ad2, cc2, rfl⟩, hO, hP, hD, hBB⟩ := hrel
            by_cases hk5 : k < 5
            · obtain ⟨q, hq⟩ : ∃ q, t.getD k 0 = q := ⟨_, rfl⟩
              have hq13 : q < 13 := by rw [← hq]; exact HQ.out k hk5
              have c1 : wr.cell? ⟨bx, ox + k, none⟩ = some (.int .i64 q) := by
                rw [hBB.out.cell (p := ⟨bx, ox + k, none⟩) (Nat.lt_of_lt_of_le hbl hbl3), HBW.out.cell (p := ⟨bx, ox + k, none⟩) hbl, HCX.out k hk5, toI_getD, hq]
              obtain ⟨km, hkm⟩ : ∃ km, k % 4 = km := ⟨_, rfl⟩
              have e1 := mod4 k
              rw [hkm] at e1
              have hkm4 : km < 4 := by omega
              have HM : Hid (mixL t (k + 1) = mixL t k ++ [4 * q + km]) := by show _ = _; rw [mixL_succ, hq, hkm]
              have HN : Hid (oneL t (k + 1) = oneL t k ++ [4 * q]) := by show _ = _; rw [oneL_succ, hq]
              have hlt' : (k : Int) < 5 := by omega
              have HC3 : Hid (w3.cell? ⟨bx, ox + k, none⟩ = some (.int .i64 q)) := by
                show _ = _
                rw [HBW.out.cell (p := ⟨bx, ox + k, none⟩) hbl, HCX.out k hk5, toI_getD, hq]
              clear hq hkm
              go_wp2_with (at_builtin; refine wpList_append_new _ rfl (.tmp 84) (.tmp 93) rfl w3.heap.size _ k (toI (mixL t k)) rfl (hO.out.alloc _) _ 1 [4 * (q : Int) + (km : Int)] rfl (Rd_one _ _) (by omega) (by have := hBB.out.size; simp; omega) ?_)
              intro v1 w4 hO1 hG1 hL1
              obtain ⟨a1, d1, hv1⟩ := slice_form hO1
              rw [hv1] at hO1 hL1 ⊢
              have hA : (wr.alloc (.cells #[.int .i64 (4 * (q : Int) + (km : Int))] 3)).ownsRow w3.heap.size 3 1 (.slice ad2 k cc2) k ((toI (oneL t k)).map (Value.int .i64)) := hP.out.alloc _
              have hDn : (Value.slice ad2 k cc2).ownBlock = none ∨ (Value.slice ad2 k cc2).ownBlock ≠ (Value.slice ad k cc).ownBlock := by
                rcases hD.out with h | h
                · exact .inl h.2
                · exact .inr (fun e => h e.symm)
              have HP1 := hide (hA.kept hG1 hDn)
              have hb0 : Below w3.heap.size w3 (wr.alloc (.cells #[.int .i64 (4 * (q : Int) + (km : Int))] 3)) := hBB.out.alloc hBB.out.size _
              have HB4 := hide (hb0.grown hG1 hb0.size (fun j hj => (hO.out.lt j hj).1))
              have HD1 : Hid ((Value.slice a1 (k + 1) d1).ownBlock ≠ (Value.slice ad2 k cc2).ownBlock) := by
                intro e
                rcases hL1 with h | h
                · rcases hD.out with h' | h'
                  · have h2 := h'.1
                    rw [← h] at h2
                    rcases hO1.2 with ⟨h3, h4⟩ | ⟨g, cap, cur, h3, _⟩
                    · omega
                    · rw [h3] at h2; simp [Value.ownBlock] at h2
                  · exact h' (h.symm.trans e)
                · have := (hP.out.lt (wr.heap.size + 1) (e.symm.trans h)).2
                  omega
              have HO1 := hide hO1
              clear hO1 hG1 hL1 hA hDn hb0 hv1 hO hP hD c1
              have c1 : w4.cell? ⟨bx, ox + k, none⟩ = some (.int .i64 q) := by
                rw [HB4.out.cell (p := ⟨bx, ox + k, none⟩) (Nat.lt_of_lt_of_le hbl hbl3), HC3.out]
              go_wp2_with (at_builtin; refine wpList_append_new _ rfl (.tmp 95) (.tmp 101) rfl w3.heap.size _ k (toI (oneL t k)) rfl (HP1.out.alloc _) _ 1 [4 * (q : Int)] rfl (Rd_one _ _) (by omega) (by have := HB4.out.size; simp; omega) ?_)
              intro v2 w5 hO2 hG2 hL2
              obtain ⟨a2, d2, hv2⟩ := slice_form hO2
              rw [hv2] at hO2 hL2 ⊢
              have hA : (w4.alloc (.cells #[.int .i64 (4 * (q : Int))] 3)).ownsRow w3.heap.size 3 1 (.slice a1 (k + 1) d1) (k + 1) ((toI (mixL t k)).map (Value.int .i64) ++ [Value.int .i64 (4 * (q : Int) + (km : Int))]) := HO1.out.alloc _
              have HO3 := hide (hA.kept hG2 (.inr HD1.out))
              have hb0 : Below w3.heap.size w3 (w4.alloc (.cells #[.int .i64 (4 * (q : Int))] 3)) := HB4.out.alloc HB4.out.size _
              have HB5 := hide (hb0.grown hG2 hb0.size (fun j hj => (HP1.out.lt j hj).1))
              have HD2 : Hid ((Value.slice a1 (k + 1) d1).ownBlock ≠ (Value.slice a2 (k + 1) d2).ownBlock) := by
                intro e
                rcases hL2 with h | h
                · exact HD1.out (e.trans h)
                · have := (HO1.out.lt (w4.heap.size + 1) (e.trans h)).2
                  omega
              have HP2 := hide hO2
              clear hO2 hG2 hL2 hA hb0 hv2
              go_wp2
              refine ⟨⟨k + 1, by go_num, by omega, ⟨_, _, rfl⟩, ⟨_, _, rfl⟩, ?_, ?_, .inr HD2.out, HB5.out⟩, by simp [intOf]; omega⟩
              · rw [HM.out]
                have e : (toI (mixL t k ++ [4 * q + km])).map (Value.int .i64) = (toI (mixL t k)).map (Value.int .i64) ++ [Value.int .i64 (4 * (q : Int) + (km : Int))] := by simp [toI]
                rw [e]
                exact HO3.out
              · rw [HN.out]
                have e : (toI (oneL t k ++ [4 * q])).map (Value.int .i64) = (toI (oneL t k)).map (Value.int .i64) ++ [Value.int .i64 (4 * (q : Int))] := by simp [toI]
                rw [e]
                exact HP2.out
            · obtain rfl : k = 5 := by omega
              obtain ⟨w4, rfl⟩ : ∃ w4, w4 = wr := ⟨_, rfl⟩
              have RM := hide (Rd.of_own hO.out)
              have RN := hide (Rd.of_own hP.out)
              have hPb := hide hP.out.lt
              have HB4 : Hid (Below w.heap.size w w4) := hide (HBW.out.trans (hBB.out.mono hbl3))
              have HOW4 : Hid (Ow w4 ob 9 O) := hide (HOW.out.keeps (X := fun _ => False) (Keeps.of_all HB4.out) (fun h => h))
              obtain ⟨hG, hF, hT⟩ := row_facts t H5.out HB.out HQ4.out
              have HG := hide hG
              have HT := hide hT
              clear hO hP hD hBB HBW HCX hk hk5 hG hT HOW
              obtain ⟨V, hV⟩ : ∃ V, refF false (mnyR t) = V := ⟨_, rfl⟩
              rw [hV] at hF
              have hKc : clsK false t = V / 371293 := by rw [clsK, hV]
              obtain ⟨c, hc⟩ : ∃ c, V / 371293 = c := ⟨_, rfl⟩
              rw [hc] at hKc
              have hc9 : c < 9 := by omega
              have hdv : (V : Int) / 371293 = (c : Int) := by omega
              obtain ⟨y, hy⟩ : ∃ y, O.getD c 0 = y := ⟨_, rfl⟩
              have hyb : y + 13060694016 ≤ 4000000000000000000 := by rw [← hy]; exact HBD.out c
              have HV := hide hV
              have HK := hide hKc
              have HY := hide hy
              clear hV hKc hc hy
              have hbl4 := HB4.out.size
              rw [show (((5 : Nat)) : Int) = (5 : Int) from rfl]
              by_cases hU5 : U = 5
              · have hbb : ((U : Int) == 5) = true := by simp; omega
                have hnd : t.Nodup := (unl_nodup t H5.out HB.out).1 (by rw [HUN.out]; exact hU5)
                have hw4 : 4 ≤ W := by
                  rw [← HWN.out]
                  have hx : t.count (t.getD 0 0) = 1 := by
                    have a1 := count_le_one t hnd (t.getD 0 0)
                    have a2 : t.getD 0 0 ∈ t := by
                      have := H5.out
                      cases t with
                      | nil => simp at this
                      | cons x t => simp
                    have a3 := List.count_pos_iff.2 a2
                    omega
                  exact wp_four t _ hx 13 (HQ.out 0 (by omega)) (fun r hr => HQ4.out r hr)
                have hF2 := HT.out hnd
                obtain ⟨V2, hV2⟩ : ∃ V2, refF true (mnyR t) = V2 := ⟨_, rfl⟩
                rw [hV2] at hF2
                have hKc2 : clsK true t = V2 / 371293 := by rw [clsK, hV2]
                obtain ⟨c2, hc2⟩ : ∃ c2, V2 / 371293 = c2 := ⟨_, rfl⟩
                rw [hc2] at hKc2
                have hc29 : c2 < 9 := by omega
                have hdv2 : (V2 : Int) / 371293 = (c2 : Int) := by omega
                obtain ⟨O1, hO1⟩ : ∃ O1, upC c (W - 4) O = O1 := ⟨_, rfl⟩
                have hO1l : O1.length = 9 := by rw [← hO1, upC_len]; exact HO9.out
                obtain ⟨y2, hy2⟩ : ∃ y2, O1.getD c2 0 = y2 := ⟨_, rfl⟩
                have hy2b : y2 ≤ 4000000000000000000 := by
                  rw [← hy2, ← hO1, upC_get _ _ _ (by rw [HO9.out]; exact hc9)]
                  have b1 := HBD.out c2
                  have b2 : (W - 4) * one (c == c2) ≤ (W - 4) * 1 := Nat.mul_le_mul_left _ (by cases (c == c2) <;> simp [one])
                  omega
                have HEND : Hid (OO = upC c2 4 O1) := by
                  show _ = _
                  rw [← HOO.out, leafUp, if_neg (by rw [HWN.out]; omega), if_pos (by rw [HUN.out]; exact hU5), HWN.out, hKc2, HK.out, hO1]
                have HV2 := hide hV2
                have HY2 := hide hy2
                have HO1 := hide hO1
                have HO1L := hide hO1l
                have hwi : (4 : Int) ≤ (W : Int) := by omega
                clear hV2 hKc2 hc2 hy2 hO1 hO1l hnd
                go_wp2_with fail
                refine (mix_value ad cc t H5.out HB.out HG.out w4 RM.out).mono ?_
                rintro e w5 ⟨rfl, hB5⟩
                rw [HV.out]
                have HOW5 := hide (HOW4.out.keeps (X := fun _ => False) (Keeps.of_all hB5) (fun h => h))
                have r5 := HOW5.out.cell (i := c) hc9
                rw [HY.out] at r5
                have f5 := HOW5.out.frozen c
                have HB5 := hide hB5
                have HOW6 : Hid (Ow (w5.setCell ⟨ob, c, none⟩ (.int .i64 ((y : Int) + ((W : Int) - 4)))) ob 9 O1) := by
                  have h := HOW5.out.set c (y + (W - 4))
                  rw [show ((y + (W - 4) : Nat) : Int) = (y : Int) + ((W : Int) - 4) by omega] at h
                  rw [← HO1.out, upC, HY.out]
                  exact h
                obtain ⟨w6, hw6⟩ : ∃ w6, w5.setCell ⟨ob, c, none⟩ (.int .i64 ((y : Int) + ((W : Int) - 4))) = w6 := ⟨_, rfl⟩
                have HK6 : Hid (Keeps (fun k => k = ob) w w6) := by
                  rw [← hw6]
                  exact hide (((Keeps.of_all (X := fun k => k = ob) HB4.out).trans (Keeps.of_all hB5)).setCell (p := ⟨ob, c, none⟩) rfl _)
                have HK46 : Hid (Keeps (fun k => k = ob) w4 w6) := by
                  rw [← hw6]
                  exact hide ((Keeps.of_all (X := fun k => k = ob) hB5).setCell (p := ⟨ob, c, none⟩) rfl _)
                rw [hw6] at HOW6
                have RN6 : Hid (Rd w6 ad2 5 cc2 (toI (oneL t 5))) := hide (RN.out.keeps HK46.out (fun b off e => by
                  have h := (hPb.out b (by rw [e]; rfl)).1
                  intro e'
                  omega))
                clear hB5
                go_wp2_with fail
                clear hw6 r5 f5
                refine (one_value ad2 cc2 t H5.out HB.out HG.out w6 RN6.out).mono ?_
                rintro e w7 ⟨rfl, hB7⟩
                rw [HV2.out]
                have HOW7 := hide (HOW6.out.keeps (X := fun _ => False) (Keeps.of_all hB7) (fun h => h))
                have r7 := HOW7.out.cell (i := c2) hc29
                rw [HY2.out] at r7
                have f7 := HOW7.out.frozen c2
                have HOW8 : Hid (Ow (w7.setCell ⟨ob, c2, none⟩ (.int .i64 ((y2 : Int) + 4))) ob 9 OO) := by
                  have h := HOW7.out.set c2 (y2 + 4)
                  rw [show ((y2 + 4 : Nat) : Int) = (y2 : Int) + 4 by omega] at h
                  rw [HEND.out, upC, HY2.out]
                  exact h
                have HK8 : Hid (Keeps (fun k => k = ob) w (w7.setCell ⟨ob, c2, none⟩ (.int .i64 ((y2 : Int) + 4)))) := hide ((HK6.out.trans (Keeps.of_all hB7)).setCell (p := ⟨ob, c2, none⟩) rfl _)
                clear hB7
                go_wp2
                exact bodyPost_end (results_none rfl _ _ _) rfl ⟨rfl, HK8.out, HOW8.out⟩
              · have hbb : ((U : Int) == 5) = false := by simp; omega
                have hw0 : ¬ W = 0 := by
                  rw [← HWN.out]
                  have := wp_pos t 13 HQ4.out
                  omega
                have HEND : Hid (OO = upC c W O) := by
                  show _ = _
                  rw [← HOO.out, leafUp, HWN.out, HUN.out, if_neg hw0, if_neg hU5, HK.out]
                go_wp2_with fail
                refine (mix_value ad cc t H5.out HB.out HG.out w4 RM.out).mono ?_
                rintro e w5 ⟨rfl, hB5⟩
                rw [HV.out]
                have HOW5 := hide (HOW4.out.keeps (X := fun _ => False) (Keeps.of_all hB5) (fun h => h))
                have r5 := HOW5.out.cell (i := c) hc9
                rw [HY.out] at r5
                have f5 := HOW5.out.frozen c
                have HOW6 : Hid (Ow (w5.setCell ⟨ob, c, none⟩ (.int .i64 ((y : Int) + (W : Int)))) ob 9 OO) := by
                  have h := HOW5.out.set c (y + W)
                  rw [show ((y + W : Nat) : Int) = (y : Int) + (W : Int) by omega] at h
                  rw [HEND.out, upC, HY.out]
                  exact h
                have HK6 : Hid (Keeps (fun k => k = ob) w (w5.setCell ⟨ob, c, none⟩ (.int .i64 ((y : Int) + (W : Int))))) := hide (((Keeps.of_all (X := fun k => k = ob) HB4.out).trans (Keeps.of_all hB5)).setCell (p := ⟨ob, c, none⟩) rfl _)
                clear hB5
                go_wp2
                exact bodyPost_end (results_none rfl _ _ _) rfl ⟨rfl, HK6.out, HOW6.out⟩

end Go.Proofs.Ytdhacmcdbpojlaa
