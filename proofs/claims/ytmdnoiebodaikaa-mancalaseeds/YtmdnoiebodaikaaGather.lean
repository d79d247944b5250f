/-
  What is in pits is gathered. No conditions beyond those that each theorem bears.
-/
import Derived.Test.YtmdnoiebodaikaaGMath
namespace Go.Proofs.Ytmdnoiebodaikaa
open Go.RowKit

attribute [local irreducible] gk gx in
set_option maxHeartbeats 4000000 in
theorem gather_any (S : List Int) (hS : S.length = 14) (p t : Nat) (hp : p ≤ 6) (hf : Fit p S) (w : World) (b : Nat) (hb : Blk w b 46 (bdL S p t)) :
    Calls Try.prog 40 #[.pointer (some ⟨b, 0, none⟩)] w fun e w' => e = .returned (.tuple #[]) ∧ Blk w' b 46 (bdL (gth p S) p t) ∧ Keeps (fun j => j = b) w w' := by
  have HG : Hid (gx p 2 S = gth p S) := hide (gx_gth (by omega))
  have HF := hide hf
  have HB := hide hb
  clear hb hf
  go_enter Try.func40, Try.ntmps40
  go_wp2
  go_loopw [4] (fun v wr => ∃ x : Nat, v = .int .i64 x ∧ x ≤ 2 ∧ Hid (Blk wr b 46 (bdL (gx p x S) p t)) ∧ Hid (Keeps (fun j => j = b) w wr)) (fun v _ => 2 - (intOf v).toNat)
  case atStart => exact ⟨0, rfl, by omega, by rw [gx_zero]; exact HB, Keeps.refl _ _⟩
  case round =>
    obtain ⟨x, rfl, hx2, hB, hK⟩ := hrel
    clear HB
    by_cases hlt : x < 2
    · have hlt' : (x : Int) < 2 := by omega
      have hx : x ≤ 1 := by omega
      have c14 := hB.out.pits (by rw [gx_length]; exact hS)
      have HGL : Hid ((gx p x S).length = 14) := hide (by rw [gx_length]; exact hS)
      have HGF : Hid (Fit p (gx p x S)) := hide (gx_fit (by omega) HF.out x (by omega))
      have HGS : Hid (gk p x p (gx p x S) = gx p (x + 1) S) := hide (gx_succ p x S).symm
      have HG0 : Hid (gk p x 0 (gx p x S) = gx p x S) := hide (gk_zero _ _ _)
      generalize gx p x S = X at *
      go_wp2
      go_loopw [11] (fun v wr => ∃ k : Nat, v = .int .i64 k ∧ k ≤ p ∧ Hid (Blk wr b 46 (bdL (gk p x k X) p t)) ∧ Hid (Keeps (fun j => j = b) w wr)) (fun v _ => p - (intOf v).toNat)
      case atStart =>
        refine ⟨0, rfl, by omega, ?_, hK.out⟩
        show Blk _ _ _ _
        rw [HG0.out]
        exact hB.out
      case round =>
        obtain ⟨k, rfl, hk, hB2, hK2⟩ := hrel
        clear hB hK c14
        by_cases hkp : k < p
        · have hkp' : (k : Int) < (p : Int) := by omega
          have HE : Hid (∀ W, Blk W b 46 (bdL (mvS (gk p x k X) (pl p x k) (pl p x p)) p t) → Hid (Blk W b 46 (bdL (gk p x (k + 1) X) p t))) := hide (fun W h => by rw [gk_succ]; exact h)
          have hT : Hid ((gk p x k X).length = 14) := hide (by rw [gk_length]; exact HGL.out)
          have HTF := hide (gk_fit (x := x) hx (by rw [HGL.out]; omega) HGF.out k hk)
          generalize gk p x k X = T at *
          have hq := pl_lt (p := p) hx (show k ≤ p by omega)
          have hs := pl_lt (p := p) hx (Nat.le_refl p)
          have hne := pl_ne (x := x) hkp
          obtain ⟨q, hqe⟩ : ∃ q, pl p x k = q := ⟨_, rfl⟩
          obtain ⟨s, hse⟩ : ∃ s, pl p x p = s := ⟨_, rfl⟩
          have HQ := hide hqe
          have HST := hide hse
          rw [hqe] at hq hne HE
          rw [hse] at hs hne HE
          clear hqe hse
          obtain ⟨z, hz⟩ : ∃ z, T.getD q 0 = z := ⟨_, rfl⟩
          obtain ⟨v, hv⟩ : ∃ v, T.getD s 0 = v := ⟨_, rfl⟩
          have z1 := HTF.out.pos q hq
          have z2 := HTF.out.le hq
          have v1 := HTF.out.pos s hs
          have v2 := HTF.out.le hs
          rw [hz] at z1 z2
          rw [hv] at v1 v2
          have HZ := hide hz
          have HV := hide hv
          have HV2 : Hid ((T.set q 0).getD s 0 = v) := hide (by rw [getD_set _ _ _ _ (by rw [hT.out]; omega), if_neg (fun e => hne e.symm)]; exact hv)
          have hT2 : Hid ((T.set q 0).length = 14) := hide (by rw [List.length_set]; exact hT.out)
          rw [show mvS T q s = (T.set q 0).set s (v + z) by rw [mvS, hv, hz]] at HE
          clear hz hv
          have HBc : Hid (Blk wr.drew b 46 (bdL T p t)) := hB2
          have HKc := hide hK2.out.drew
          clear hB2 hK2
          go_wp2_with fail
          refine wp_region_held (S := fun _ => True) (by kernel_rfl) ?_
          change wpAnyH _ _ _ _ _ _ _ _ (World.drew _)
          refine wpAnyH_take (i := 0) (v := .pointer (some ⟨b, 0, none⟩)) rfl (by kernel_rfl) (by kernel_rfl) (by kernel_rfl) (fun _ _ _ h => h) (Or.inl ⟨by rfl, ?_⟩) trivial ?_
          · intro W _
            go_simp <;> first | done | rfl | (rw [IntKind.wrap_i64]; omega) | (intro hh; exfalso; omega) | (refine Eq.trans ?_ rfl; omega)
          go_simp
          refine wpAnyH_take (i := 1) (v := .pointer (some ⟨b, 0, none⟩)) rfl (by kernel_rfl) (by kernel_rfl) (by kernel_rfl) (fun _ _ _ h => h) (Or.inl ⟨by rfl, ?_⟩) trivial ?_
          · intro W _
            go_simp <;> first | done | rfl | (rw [IntKind.wrap_i64]; omega) | (intro hh; exfalso; omega) | (refine Eq.trans ?_ rfl; omega)
          go_simp
          refine wpAnyH_take (i := 2) (v := .pointer (some ⟨b, 0, none⟩)) rfl (by kernel_rfl) (by kernel_rfl) (by kernel_rfl) (fun _ _ _ h => h) (Or.inl ⟨by rfl, ?_⟩) trivial ?_
          · intro W _
            go_simp <;> first | done | rfl | (rw [IntKind.wrap_i64]; omega) | (intro hh; exfalso; omega) | (refine Eq.trans ?_ rfl; omega)
          go_simp
          refine wpAnyH_take (i := 4) (v := .int .i64 x) rfl (by kernel_rfl) (by kernel_rfl) (by kernel_rfl) (fun _ _ _ h => h) (Or.inl ⟨by rfl, ?_⟩) trivial ?_
          · intro W _
            go_simp <;> first | done | rfl | (rw [IntKind.wrap_i64]; omega) | (intro hh; exfalso; omega) | (refine Eq.trans ?_ rfl; omega)
          go_simp
          refine wpAnyH_take (i := 6) (v := .pointer (some ⟨b, 0, none⟩)) rfl (by kernel_rfl) (by kernel_rfl) (by kernel_rfl) (fun _ _ _ h => h) (Or.inl ⟨by rfl, ?_⟩) trivial ?_
          · intro W _
            go_simp <;> first | done | rfl | (rw [IntKind.wrap_i64]; omega) | (intro hh; exfalso; omega) | (refine Eq.trans ?_ rfl; omega)
          go_simp
          refine wpAnyH_take (i := 7) (v := .pointer (some ⟨b, 0, none⟩)) rfl (by kernel_rfl) (by kernel_rfl) (by kernel_rfl) (fun _ _ _ h => h) (Or.inl ⟨by rfl, ?_⟩) trivial ?_
          · intro W _
            go_simp <;> first | done | rfl | (rw [IntKind.wrap_i64]; omega) | (intro hh; exfalso; omega) | (refine Eq.trans ?_ rfl; omega)
          go_simp
          refine wpAnyH_take (i := 10) (v := .pointer (some ⟨b, 0, none⟩)) rfl (by kernel_rfl) (by kernel_rfl) (by kernel_rfl) (fun _ _ _ h => h) (Or.inl ⟨by rfl, ?_⟩) trivial ?_
          · intro W _
            go_simp <;> first | done | rfl | (rw [IntKind.wrap_i64]; omega) | (intro hh; exfalso; omega) | (refine Eq.trans ?_ rfl; omega)
          go_simp
          refine wpAnyH_take (i := 11) (v := .pointer (some ⟨b, 0, none⟩)) rfl (by kernel_rfl) (by kernel_rfl) (by kernel_rfl) (fun _ _ _ h => h) (Or.inl ⟨by rfl, ?_⟩) trivial ?_
          · intro W _
            go_simp <;> first | done | rfl | (rw [IntKind.wrap_i64]; omega) | (intro hh; exfalso; omega) | (refine Eq.trans ?_ rfl; omega)
          go_simp
          refine wpAnyH_take (i := 12) (v := .pointer (some ⟨b, 0, none⟩)) rfl (by kernel_rfl) (by kernel_rfl) (by kernel_rfl) (fun _ _ _ h => h) (Or.inl ⟨by rfl, ?_⟩) trivial ?_
          · intro W _
            go_simp <;> first | done | rfl | (rw [IntKind.wrap_i64]; omega) | (intro hh; exfalso; omega) | (refine Eq.trans ?_ rfl; omega)
          go_simp
          refine wpAnyH_take (i := 14) (v := .int .i64 x) rfl (by kernel_rfl) (by kernel_rfl) (by kernel_rfl) (fun _ _ _ h => h) (Or.inl ⟨by rfl, ?_⟩) trivial ?_
          · intro W _
            go_simp <;> first | done | rfl | (rw [IntKind.wrap_i64]; omega) | (intro hh; exfalso; omega) | (refine Eq.trans ?_ rfl; omega)
          go_simp
          refine wpAnyH_take (i := 15) (v := .int .i64 k) rfl (by kernel_rfl) (by kernel_rfl) (by kernel_rfl) (fun _ _ _ h => h) (Or.inl ⟨by rfl, ?_⟩) trivial ?_
          · intro W _
            go_simp <;> first | done | rfl | (rw [IntKind.wrap_i64]; omega) | (intro hh; exfalso; omega) | (refine Eq.trans ?_ rfl; omega)
          go_simp
          refine wpAnyH_take (i := 19) (v := .pointer (some ⟨b, 0, none⟩)) rfl (by kernel_rfl) (by kernel_rfl) (by kernel_rfl) (fun _ _ _ h => h) (Or.inl ⟨by rfl, ?_⟩) trivial ?_
          · intro W _
            go_simp <;> first | done | rfl | (rw [IntKind.wrap_i64]; omega) | (intro hh; exfalso; omega) | (refine Eq.trans ?_ rfl; omega)
          go_simp
          refine wpAnyH_take (i := 20) (v := .pointer (some ⟨b, 0, none⟩)) rfl (by kernel_rfl) (by kernel_rfl) (by kernel_rfl) (fun _ _ _ h => h) (Or.inl ⟨by rfl, ?_⟩) trivial ?_
          · intro W _
            go_simp <;> first | done | rfl | (rw [IntKind.wrap_i64]; omega) | (intro hh; exfalso; omega) | (refine Eq.trans ?_ rfl; omega)
          go_simp
          refine wpAnyH_ready (rs := [3, 13]) (by kernel_rfl) (by simp) ?_
          refine AllReadyH.cons rfl (fun K1 hK1 => ?_) ?_
          · rw [if_pos (by rfl)]
            refine wp_load_mid 46 _ rfl b 0 (by rfl) (ivs (bdL T p t)) _ HBc.out.range Try.underlying46 rfl (by rw [ivs_length, bdL_length _ _ _ hT.out]; exact size46) ?_
            refine hK1.out _ _ trivial (fun _ => ?_)
            clear hK1 K1
            go_simp
            refine wpAnyH_ready (rs := [5, 13]) (by kernel_rfl) (by simp) ?_
            refine AllReadyH.cons rfl (fun K1 hK1 => ?_) ?_
            · go_simp
              refine (store_any T hT.out p t x hp hx _).mono ?_
              rintro e W ⟨rfl, hw⟩
              have HBn := hide (HBc.out.below hw HBc.out.lt)
              have HKn := hide (HKc.out.grow hw)
              clear HBc HKc hw
              have HBc := HBn
              have HKc := HKn
              clear HBn HKn
              rw [HST.out]
              refine hK1.out _ _ trivial (fun _ => ?_)
              clear hK1 K1
              go_simp
              refine wpAnyH_take (i := 8) (v := .pointer (some ⟨b, s, none⟩)) rfl (by kernel_rfl) (by kernel_rfl) (by kernel_rfl) (fun _ _ _ h => h) (Or.inl ⟨by rfl, ?_⟩) trivial ?_
              · intro W _
                go_simp <;> first | done | rfl | (rw [IntKind.wrap_i64]; omega) | (intro hh; exfalso; omega) | (refine Eq.trans ?_ rfl; omega)
              go_simp
              refine wpAnyH_ready (rs := [9, 13]) (by kernel_rfl) (by simp) ?_
              refine AllReadyH.cons rfl (fun K1 hK1 => ?_) ?_
              · have c9 := HBc.out.seed hT.out (i := s) (by omega)
                rw [HV.out] at c9
                go_simp
                refine hK1.out _ _ trivial (fun _ => ?_)
                clear hK1 K1
                go_simp
                clear c9
                refine wpAnyH_ready (rs := [13]) (by kernel_rfl) (by simp) ?_
                refine AllReadyH.cons rfl (fun K1 hK1 => ?_) AllReadyH.nil
                rw [if_pos (by rfl)]
                refine wp_load_mid 46 _ rfl b 0 (by rfl) (ivs (bdL T p t)) _ HBc.out.range Try.underlying46 rfl (by rw [ivs_length, bdL_length _ _ _ hT.out]; exact size46) ?_
                refine hK1.out _ _ trivial (fun _ => ?_)
                clear hK1 K1
                go_simp
                refine wpAnyH_ready (rs := [16]) (by kernel_rfl) (by simp) ?_
                refine AllReadyH.cons rfl (fun K1 hK1 => ?_) AllReadyH.nil
                go_simp
                refine (place_any T hT.out p t x k hp hx (by omega) _).mono ?_
                rintro e W ⟨rfl, hw⟩
                have HBn := hide (HBc.out.below hw HBc.out.lt)
                have HKn := hide (HKc.out.grow hw)
                clear HBc HKc hw
                have HBc := HBn
                have HKc := HKn
                clear HBn HKn
                rw [HQ.out]
                refine hK1.out _ _ trivial (fun _ => ?_)
                clear hK1 K1
                go_simp
                refine wpAnyH_ready (rs := [17]) (by kernel_rfl) (by simp) ?_
                refine AllReadyH.cons rfl (fun K1 hK1 => ?_) AllReadyH.nil
                go_simp
                refine (take_any T hT.out p t q (by omega) _ b HBc.out).mono ?_
                rintro e W ⟨rfl, hb', hk'⟩
                have HBn := hide hb'
                have HKn := hide (HKc.out.trans hk')
                clear HBc HKc hb' hk'
                have HBc := HBn
                have HKc := HKn
                clear HBn HKn
                rw [HZ.out]
                refine hK1.out _ _ trivial (fun _ => ?_)
                clear hK1 K1
                go_simp
                refine wpAnyH_take (i := 18) (v := .int .i64 (v + z)) rfl (by kernel_rfl) (by kernel_rfl) (by kernel_rfl) (fun _ _ _ h => h) (Or.inl ⟨by rfl, ?_⟩) trivial ?_
                · intro W _
                  go_simp <;> first | done | rfl | (rw [IntKind.wrap_i64]; omega) | (intro hh; exfalso; omega) | (refine Eq.trans ?_ rfl; omega)
                go_simp
                refine wpAnyH_take (i := 21) (v := .pointer (some ⟨b, s, none⟩)) rfl (by kernel_rfl) (by kernel_rfl) (by kernel_rfl) (fun _ _ _ h => h) (Or.inl ⟨by rfl, ?_⟩) trivial ?_
                · intro W _
                  go_simp <;> first | done | rfl | (rw [IntKind.wrap_i64]; omega) | (intro hh; exfalso; omega) | (refine Eq.trans ?_ rfl; omega)
                go_simp
                refine wpAnyH_ready (rs := [22]) (by kernel_rfl) (by simp) ?_
                refine AllReadyH.cons rfl (fun K1 hK1 => ?_) AllReadyH.nil
                have c22 := HBc.out.seed hT2.out (i := s) (by omega)
                have f22 := HBc.out.frozen s
                have HBn : Hid (∀ y : Int, Blk (World.setCell _ ⟨b, s, none⟩ (.int .i64 y)) b 46 (bdL ((T.set q 0).set s y) p t)) := hide (fun y => by rw [← bdL_set _ _ _ _ _ hT2.out (by omega)]; exact HBc.out.set s y)
                have HKn : Hid (∀ v, Keeps (fun j => j = b) w (World.setCell _ ⟨b, s, none⟩ v)) := hide (fun v => HKc.out.setCell rfl v)
                clear HBc HKc
                have HBc := hide (HBn.out (v + z))
                have HKc := hide (HKn.out (.int .i64 (v + z)))
                clear HBn HKn
                go_simp
                refine hK1.out _ _ trivial (fun _ => ?_)
                clear hK1 K1
                go_simp
                clear c22 f22
                refine wpAnyH_done (by kernel_rfl) ?_ _
                go_wp2
                exact ⟨⟨k + 1, by go_num, by omega, HE.out _ HBc.out, HKc⟩, by simp [intOf]; omega⟩
              refine AllReadyH.cons rfl (fun K1 hK1 => ?_) AllReadyH.nil
              rw [if_pos (by rfl)]
              refine wp_load_mid 46 _ rfl b 0 (by rfl) (ivs (bdL T p t)) _ HBc.out.range Try.underlying46 rfl (by rw [ivs_length, bdL_length _ _ _ hT.out]; exact size46) ?_
              refine hK1.out _ _ trivial (fun _ => ?_)
              clear hK1 K1
              go_simp
              refine wpAnyH_ready (rs := [9, 16]) (by kernel_rfl) (by simp) ?_
              refine AllReadyH.cons rfl (fun K1 hK1 => ?_) ?_
              · have c9 := HBc.out.seed hT.out (i := s) (by omega)
                rw [HV.out] at c9
                go_simp
                refine hK1.out _ _ trivial (fun _ => ?_)
                clear hK1 K1
                go_simp
                clear c9
                refine wpAnyH_ready (rs := [16]) (by kernel_rfl) (by simp) ?_
                refine AllReadyH.cons rfl (fun K1 hK1 => ?_) AllReadyH.nil
                go_simp
                refine (place_any T hT.out p t x k hp hx (by omega) _).mono ?_
                rintro e W ⟨rfl, hw⟩
                have HBn := hide (HBc.out.below hw HBc.out.lt)
                have HKn := hide (HKc.out.grow hw)
                clear HBc HKc hw
                have HBc := HBn
                have HKc := HKn
                clear HBn HKn
                rw [HQ.out]
                refine hK1.out _ _ trivial (fun _ => ?_)
                clear hK1 K1
                go_simp
                refine wpAnyH_ready (rs := [17]) (by kernel_rfl) (by simp) ?_
                refine AllReadyH.cons rfl (fun K1 hK1 => ?_) AllReadyH.nil
                go_simp
                refine (take_any T hT.out p t q (by omega) _ b HBc.out).mono ?_
                rintro e W ⟨rfl, hb', hk'⟩
                have HBn := hide hb'
                have HKn := hide (HKc.out.trans hk')
                clear HBc HKc hb' hk'
                have HBc := HBn
                have HKc := HKn
                clear HBn HKn
                rw [HZ.out]
                refine hK1.out _ _ trivial (fun _ => ?_)
                clear hK1 K1
                go_simp
                refine wpAnyH_take (i := 18) (v := .int .i64 (v + z)) rfl (by kernel_rfl) (by kernel_rfl) (by kernel_rfl) (fun _ _ _ h => h) (Or.inl ⟨by rfl, ?_⟩) trivial ?_
                · intro W _
                  go_simp <;> first | done | rfl | (rw [IntKind.wrap_i64]; omega) | (intro hh; exfalso; omega) | (refine Eq.trans ?_ rfl; omega)
                go_simp
                refine wpAnyH_take (i := 21) (v := .pointer (some ⟨b, s, none⟩)) rfl (by kernel_rfl) (by kernel_rfl) (by kernel_rfl) (fun _ _ _ h => h) (Or.inl ⟨by rfl, ?_⟩) trivial ?_
                · intro W _
                  go_simp <;> first | done | rfl | (rw [IntKind.wrap_i64]; omega) | (intro hh; exfalso; omega) | (refine Eq.trans ?_ rfl; omega)
                go_simp
                refine wpAnyH_ready (rs := [22]) (by kernel_rfl) (by simp) ?_
                refine AllReadyH.cons rfl (fun K1 hK1 => ?_) AllReadyH.nil
                have c22 := HBc.out.seed hT2.out (i := s) (by omega)
                have f22 := HBc.out.frozen s
                have HBn : Hid (∀ y : Int, Blk (World.setCell _ ⟨b, s, none⟩ (.int .i64 y)) b 46 (bdL ((T.set q 0).set s y) p t)) := hide (fun y => by rw [← bdL_set _ _ _ _ _ hT2.out (by omega)]; exact HBc.out.set s y)
                have HKn : Hid (∀ v, Keeps (fun j => j = b) w (World.setCell _ ⟨b, s, none⟩ v)) := hide (fun v => HKc.out.setCell rfl v)
                clear HBc HKc
                have HBc := hide (HBn.out (v + z))
                have HKc := hide (HKn.out (.int .i64 (v + z)))
                clear HBn HKn
                go_simp
                refine hK1.out _ _ trivial (fun _ => ?_)
                clear hK1 K1
                go_simp
                clear c22 f22
                refine wpAnyH_done (by kernel_rfl) ?_ _
                go_wp2
                exact ⟨⟨k + 1, by go_num, by omega, HE.out _ HBc.out, HKc⟩, by simp [intOf]; omega⟩
              refine AllReadyH.cons rfl (fun K1 hK1 => ?_) AllReadyH.nil
              go_simp
              refine (place_any T hT.out p t x k hp hx (by omega) _).mono ?_
              rintro e W ⟨rfl, hw⟩
              have HBn := hide (HBc.out.below hw HBc.out.lt)
              have HKn := hide (HKc.out.grow hw)
              clear HBc HKc hw
              have HBc := HBn
              have HKc := HKn
              clear HBn HKn
              rw [HQ.out]
              refine hK1.out _ _ trivial (fun _ => ?_)
              clear hK1 K1
              go_simp
              refine wpAnyH_ready (rs := [9, 17]) (by kernel_rfl) (by simp) ?_
              refine AllReadyH.cons rfl (fun K1 hK1 => ?_) ?_
              · have c9 := HBc.out.seed hT.out (i := s) (by omega)
                rw [HV.out] at c9
                go_simp
                refine hK1.out _ _ trivial (fun _ => ?_)
                clear hK1 K1
                go_simp
                clear c9
                refine wpAnyH_ready (rs := [17]) (by kernel_rfl) (by simp) ?_
                refine AllReadyH.cons rfl (fun K1 hK1 => ?_) AllReadyH.nil
                go_simp
                refine (take_any T hT.out p t q (by omega) _ b HBc.out).mono ?_
                rintro e W ⟨rfl, hb', hk'⟩
                have HBn := hide hb'
                have HKn := hide (HKc.out.trans hk')
                clear HBc HKc hb' hk'
                have HBc := HBn
                have HKc := HKn
                clear HBn HKn
                rw [HZ.out]
                refine hK1.out _ _ trivial (fun _ => ?_)
                clear hK1 K1
                go_simp
                refine wpAnyH_take (i := 18) (v := .int .i64 (v + z)) rfl (by kernel_rfl) (by kernel_rfl) (by kernel_rfl) (fun _ _ _ h => h) (Or.inl ⟨by rfl, ?_⟩) trivial ?_
                · intro W _
                  go_simp <;> first | done | rfl | (rw [IntKind.wrap_i64]; omega) | (intro hh; exfalso; omega) | (refine Eq.trans ?_ rfl; omega)
                go_simp
                refine wpAnyH_take (i := 21) (v := .pointer (some ⟨b, s, none⟩)) rfl (by kernel_rfl) (by kernel_rfl) (by kernel_rfl) (fun _ _ _ h => h) (Or.inl ⟨by rfl, ?_⟩) trivial ?_
                · intro W _
                  go_simp <;> first | done | rfl | (rw [IntKind.wrap_i64]; omega) | (intro hh; exfalso; omega) | (refine Eq.trans ?_ rfl; omega)
                go_simp
                refine wpAnyH_ready (rs := [22]) (by kernel_rfl) (by simp) ?_
                refine AllReadyH.cons rfl (fun K1 hK1 => ?_) AllReadyH.nil
                have c22 := HBc.out.seed hT2.out (i := s) (by omega)
                have f22 := HBc.out.frozen s
                have HBn : Hid (∀ y : Int, Blk (World.setCell _ ⟨b, s, none⟩ (.int .i64 y)) b 46 (bdL ((T.set q 0).set s y) p t)) := hide (fun y => by rw [← bdL_set _ _ _ _ _ hT2.out (by omega)]; exact HBc.out.set s y)
                have HKn : Hid (∀ v, Keeps (fun j => j = b) w (World.setCell _ ⟨b, s, none⟩ v)) := hide (fun v => HKc.out.setCell rfl v)
                clear HBc HKc
                have HBc := hide (HBn.out (v + z))
                have HKc := hide (HKn.out (.int .i64 (v + z)))
                clear HBn HKn
                go_simp
                refine hK1.out _ _ trivial (fun _ => ?_)
                clear hK1 K1
                go_simp
                clear c22 f22
                refine wpAnyH_done (by kernel_rfl) ?_ _
                go_wp2
                exact ⟨⟨k + 1, by go_num, by omega, HE.out _ HBc.out, HKc⟩, by simp [intOf]; omega⟩
              refine AllReadyH.cons rfl (fun K1 hK1 => ?_) AllReadyH.nil
              go_simp
              refine (take_any T hT.out p t q (by omega) _ b HBc.out).mono ?_
              rintro e W ⟨rfl, hb', hk'⟩
              have HBn := hide hb'
              have HKn := hide (HKc.out.trans hk')
              clear HBc HKc hb' hk'
              have HBc := HBn
              have HKc := HKn
              clear HBn HKn
              rw [HZ.out]
              refine hK1.out _ _ trivial (fun _ => ?_)
              clear hK1 K1
              go_simp
              refine wpAnyH_ready (rs := [9]) (by kernel_rfl) (by simp) ?_
              refine AllReadyH.cons rfl (fun K1 hK1 => ?_) AllReadyH.nil
              have c9 := HBc.out.seed hT2.out (i := s) (by omega)
              rw [HV2.out] at c9
              go_simp
              refine hK1.out _ _ trivial (fun _ => ?_)
              clear hK1 K1
              go_simp
              clear c9
              refine wpAnyH_take (i := 18) (v := .int .i64 (v + z)) rfl (by kernel_rfl) (by kernel_rfl) (by kernel_rfl) (fun _ _ _ h => h) (Or.inl ⟨by rfl, ?_⟩) trivial ?_
              · intro W _
                go_simp <;> first | done | rfl | (rw [IntKind.wrap_i64]; omega) | (intro hh; exfalso; omega) | (refine Eq.trans ?_ rfl; omega)
              go_simp
              refine wpAnyH_take (i := 21) (v := .pointer (some ⟨b, s, none⟩)) rfl (by kernel_rfl) (by kernel_rfl) (by kernel_rfl) (fun _ _ _ h => h) (Or.inl ⟨by rfl, ?_⟩) trivial ?_
              · intro W _
                go_simp <;> first | done | rfl | (rw [IntKind.wrap_i64]; omega) | (intro hh; exfalso; omega) | (refine Eq.trans ?_ rfl; omega)
              go_simp
              refine wpAnyH_ready (rs := [22]) (by kernel_rfl) (by simp) ?_
              refine AllReadyH.cons rfl (fun K1 hK1 => ?_) AllReadyH.nil
              have c22 := HBc.out.seed hT2.out (i := s) (by omega)
              have f22 := HBc.out.frozen s
              have HBn : Hid (∀ y : Int, Blk (World.setCell _ ⟨b, s, none⟩ (.int .i64 y)) b 46 (bdL ((T.set q 0).set s y) p t)) := hide (fun y => by rw [← bdL_set _ _ _ _ _ hT2.out (by omega)]; exact HBc.out.set s y)
              have HKn : Hid (∀ v, Keeps (fun j => j = b) w (World.setCell _ ⟨b, s, none⟩ v)) := hide (fun v => HKc.out.setCell rfl v)
              clear HBc HKc
              have HBc := hide (HBn.out (v + z))
              have HKc := hide (HKn.out (.int .i64 (v + z)))
              clear HBn HKn
              go_simp
              refine hK1.out _ _ trivial (fun _ => ?_)
              clear hK1 K1
              go_simp
              clear c22 f22
              refine wpAnyH_done (by kernel_rfl) ?_ _
              go_wp2
              exact ⟨⟨k + 1, by go_num, by omega, HE.out _ HBc.out, HKc⟩, by simp [intOf]; omega⟩
            refine AllReadyH.cons rfl (fun K1 hK1 => ?_) AllReadyH.nil
            rw [if_pos (by rfl)]
            refine wp_load_mid 46 _ rfl b 0 (by rfl) (ivs (bdL T p t)) _ HBc.out.range Try.underlying46 rfl (by rw [ivs_length, bdL_length _ _ _ hT.out]; exact size46) ?_
            refine hK1.out _ _ trivial (fun _ => ?_)
            clear hK1 K1
            go_simp
            refine wpAnyH_ready (rs := [5]) (by kernel_rfl) (by simp) ?_
            refine AllReadyH.cons rfl (fun K1 hK1 => ?_) AllReadyH.nil
            go_simp
            refine (store_any T hT.out p t x hp hx _).mono ?_
            rintro e W ⟨rfl, hw⟩
            have HBn := hide (HBc.out.below hw HBc.out.lt)
            have HKn := hide (HKc.out.grow hw)
            clear HBc HKc hw
            have HBc := HBn
            have HKc := HKn
            clear HBn HKn
            rw [HST.out]
            refine hK1.out _ _ trivial (fun _ => ?_)
            clear hK1 K1
            go_simp
            refine wpAnyH_take (i := 8) (v := .pointer (some ⟨b, s, none⟩)) rfl (by kernel_rfl) (by kernel_rfl) (by kernel_rfl) (fun _ _ _ h => h) (Or.inl ⟨by rfl, ?_⟩) trivial ?_
            · intro W _
              go_simp <;> first | done | rfl | (rw [IntKind.wrap_i64]; omega) | (intro hh; exfalso; omega) | (refine Eq.trans ?_ rfl; omega)
            go_simp
            refine wpAnyH_ready (rs := [9, 16]) (by kernel_rfl) (by simp) ?_
            refine AllReadyH.cons rfl (fun K1 hK1 => ?_) ?_
            · have c9 := HBc.out.seed hT.out (i := s) (by omega)
              rw [HV.out] at c9
              go_simp
              refine hK1.out _ _ trivial (fun _ => ?_)
              clear hK1 K1
              go_simp
              clear c9
              refine wpAnyH_ready (rs := [16]) (by kernel_rfl) (by simp) ?_
              refine AllReadyH.cons rfl (fun K1 hK1 => ?_) AllReadyH.nil
              go_simp
              refine (place_any T hT.out p t x k hp hx (by omega) _).mono ?_
              rintro e W ⟨rfl, hw⟩
              have HBn := hide (HBc.out.below hw HBc.out.lt)
              have HKn := hide (HKc.out.grow hw)
              clear HBc HKc hw
              have HBc := HBn
              have HKc := HKn
              clear HBn HKn
              rw [HQ.out]
              refine hK1.out _ _ trivial (fun _ => ?_)
              clear hK1 K1
              go_simp
              refine wpAnyH_ready (rs := [17]) (by kernel_rfl) (by simp) ?_
              refine AllReadyH.cons rfl (fun K1 hK1 => ?_) AllReadyH.nil
              go_simp
              refine (take_any T hT.out p t q (by omega) _ b HBc.out).mono ?_
              rintro e W ⟨rfl, hb', hk'⟩
              have HBn := hide hb'
              have HKn := hide (HKc.out.trans hk')
              clear HBc HKc hb' hk'
              have HBc := HBn
              have HKc := HKn
              clear HBn HKn
              rw [HZ.out]
              refine hK1.out _ _ trivial (fun _ => ?_)
              clear hK1 K1
              go_simp
              refine wpAnyH_take (i := 18) (v := .int .i64 (v + z)) rfl (by kernel_rfl) (by kernel_rfl) (by kernel_rfl) (fun _ _ _ h => h) (Or.inl ⟨by rfl, ?_⟩) trivial ?_
              · intro W _
                go_simp <;> first | done | rfl | (rw [IntKind.wrap_i64]; omega) | (intro hh; exfalso; omega) | (refine Eq.trans ?_ rfl; omega)
              go_simp
              refine wpAnyH_take (i := 21) (v := .pointer (some ⟨b, s, none⟩)) rfl (by kernel_rfl) (by kernel_rfl) (by kernel_rfl) (fun _ _ _ h => h) (Or.inl ⟨by rfl, ?_⟩) trivial ?_
              · intro W _
                go_simp <;> first | done | rfl | (rw [IntKind.wrap_i64]; omega) | (intro hh; exfalso; omega) | (refine Eq.trans ?_ rfl; omega)
              go_simp
              refine wpAnyH_ready (rs := [22]) (by kernel_rfl) (by simp) ?_
              refine AllReadyH.cons rfl (fun K1 hK1 => ?_) AllReadyH.nil
              have c22 := HBc.out.seed hT2.out (i := s) (by omega)
              have f22 := HBc.out.frozen s
              have HBn : Hid (∀ y : Int, Blk (World.setCell _ ⟨b, s, none⟩ (.int .i64 y)) b 46 (bdL ((T.set q 0).set s y) p t)) := hide (fun y => by rw [← bdL_set _ _ _ _ _ hT2.out (by omega)]; exact HBc.out.set s y)
              have HKn : Hid (∀ v, Keeps (fun j => j = b) w (World.setCell _ ⟨b, s, none⟩ v)) := hide (fun v => HKc.out.setCell rfl v)
              clear HBc HKc
              have HBc := hide (HBn.out (v + z))
              have HKc := hide (HKn.out (.int .i64 (v + z)))
              clear HBn HKn
              go_simp
              refine hK1.out _ _ trivial (fun _ => ?_)
              clear hK1 K1
              go_simp
              clear c22 f22
              refine wpAnyH_done (by kernel_rfl) ?_ _
              go_wp2
              exact ⟨⟨k + 1, by go_num, by omega, HE.out _ HBc.out, HKc⟩, by simp [intOf]; omega⟩
            refine AllReadyH.cons rfl (fun K1 hK1 => ?_) AllReadyH.nil
            go_simp
            refine (place_any T hT.out p t x k hp hx (by omega) _).mono ?_
            rintro e W ⟨rfl, hw⟩
            have HBn := hide (HBc.out.below hw HBc.out.lt)
            have HKn := hide (HKc.out.grow hw)
            clear HBc HKc hw
            have HBc := HBn
            have HKc := HKn
            clear HBn HKn
            rw [HQ.out]
            refine hK1.out _ _ trivial (fun _ => ?_)
            clear hK1 K1
            go_simp
            refine wpAnyH_ready (rs := [9, 17]) (by kernel_rfl) (by simp) ?_
            refine AllReadyH.cons rfl (fun K1 hK1 => ?_) ?_
            · have c9 := HBc.out.seed hT.out (i := s) (by omega)
              rw [HV.out] at c9
              go_simp
              refine hK1.out _ _ trivial (fun _ => ?_)
              clear hK1 K1
              go_simp
              clear c9
              refine wpAnyH_ready (rs := [17]) (by kernel_rfl) (by simp) ?_
              refine AllReadyH.cons rfl (fun K1 hK1 => ?_) AllReadyH.nil
              go_simp
              refine (take_any T hT.out p t q (by omega) _ b HBc.out).mono ?_
              rintro e W ⟨rfl, hb', hk'⟩
              have HBn := hide hb'
              have HKn := hide (HKc.out.trans hk')
              clear HBc HKc hb' hk'
              have HBc := HBn
              have HKc := HKn
              clear HBn HKn
              rw [HZ.out]
              refine hK1.out _ _ trivial (fun _ => ?_)
              clear hK1 K1
              go_simp
              refine wpAnyH_take (i := 18) (v := .int .i64 (v + z)) rfl (by kernel_rfl) (by kernel_rfl) (by kernel_rfl) (fun _ _ _ h => h) (Or.inl ⟨by rfl, ?_⟩) trivial ?_
              · intro W _
                go_simp <;> first | done | rfl | (rw [IntKind.wrap_i64]; omega) | (intro hh; exfalso; omega) | (refine Eq.trans ?_ rfl; omega)
              go_simp
              refine wpAnyH_take (i := 21) (v := .pointer (some ⟨b, s, none⟩)) rfl (by kernel_rfl) (by kernel_rfl) (by kernel_rfl) (fun _ _ _ h => h) (Or.inl ⟨by rfl, ?_⟩) trivial ?_
              · intro W _
                go_simp <;> first | done | rfl | (rw [IntKind.wrap_i64]; omega) | (intro hh; exfalso; omega) | (refine Eq.trans ?_ rfl; omega)
              go_simp
              refine wpAnyH_ready (rs := [22]) (by kernel_rfl) (by simp) ?_
              refine AllReadyH.cons rfl (fun K1 hK1 => ?_) AllReadyH.nil
              have c22 := HBc.out.seed hT2.out (i := s) (by omega)
              have f22 := HBc.out.frozen s
              have HBn : Hid (∀ y : Int, Blk (World.setCell _ ⟨b, s, none⟩ (.int .i64 y)) b 46 (bdL ((T.set q 0).set s y) p t)) := hide (fun y => by rw [← bdL_set _ _ _ _ _ hT2.out (by omega)]; exact HBc.out.set s y)
              have HKn : Hid (∀ v, Keeps (fun j => j = b) w (World.setCell _ ⟨b, s, none⟩ v)) := hide (fun v => HKc.out.setCell rfl v)
              clear HBc HKc
              have HBc := hide (HBn.out (v + z))
              have HKc := hide (HKn.out (.int .i64 (v + z)))
              clear HBn HKn
              go_simp
              refine hK1.out _ _ trivial (fun _ => ?_)
              clear hK1 K1
              go_simp
              clear c22 f22
              refine wpAnyH_done (by kernel_rfl) ?_ _
              go_wp2
              exact ⟨⟨k + 1, by go_num, by omega, HE.out _ HBc.out, HKc⟩, by simp [intOf]; omega⟩
            refine AllReadyH.cons rfl (fun K1 hK1 => ?_) AllReadyH.nil
            go_simp
            refine (take_any T hT.out p t q (by omega) _ b HBc.out).mono ?_
            rintro e W ⟨rfl, hb', hk'⟩
            have HBn := hide hb'
            have HKn := hide (HKc.out.trans hk')
            clear HBc HKc hb' hk'
            have HBc := HBn
            have HKc := HKn
            clear HBn HKn
            rw [HZ.out]
            refine hK1.out _ _ trivial (fun _ => ?_)
            clear hK1 K1
            go_simp
            refine wpAnyH_ready (rs := [9]) (by kernel_rfl) (by simp) ?_
            refine AllReadyH.cons rfl (fun K1 hK1 => ?_) AllReadyH.nil
            have c9 := HBc.out.seed hT2.out (i := s) (by omega)
            rw [HV2.out] at c9
            go_simp
            refine hK1.out _ _ trivial (fun _ => ?_)
            clear hK1 K1
            go_simp
            clear c9
            refine wpAnyH_take (i := 18) (v := .int .i64 (v + z)) rfl (by kernel_rfl) (by kernel_rfl) (by kernel_rfl) (fun _ _ _ h => h) (Or.inl ⟨by rfl, ?_⟩) trivial ?_
            · intro W _
              go_simp <;> first | done | rfl | (rw [IntKind.wrap_i64]; omega) | (intro hh; exfalso; omega) | (refine Eq.trans ?_ rfl; omega)
            go_simp
            refine wpAnyH_take (i := 21) (v := .pointer (some ⟨b, s, none⟩)) rfl (by kernel_rfl) (by kernel_rfl) (by kernel_rfl) (fun _ _ _ h => h) (Or.inl ⟨by rfl, ?_⟩) trivial ?_
            · intro W _
              go_simp <;> first | done | rfl | (rw [IntKind.wrap_i64]; omega) | (intro hh; exfalso; omega) | (refine Eq.trans ?_ rfl; omega)
            go_simp
            refine wpAnyH_ready (rs := [22]) (by kernel_rfl) (by simp) ?_
            refine AllReadyH.cons rfl (fun K1 hK1 => ?_) AllReadyH.nil
            have c22 := HBc.out.seed hT2.out (i := s) (by omega)
            have f22 := HBc.out.frozen s
            have HBn : Hid (∀ y : Int, Blk (World.setCell _ ⟨b, s, none⟩ (.int .i64 y)) b 46 (bdL ((T.set q 0).set s y) p t)) := hide (fun y => by rw [← bdL_set _ _ _ _ _ hT2.out (by omega)]; exact HBc.out.set s y)
            have HKn : Hid (∀ v, Keeps (fun j => j = b) w (World.setCell _ ⟨b, s, none⟩ v)) := hide (fun v => HKc.out.setCell rfl v)
            clear HBc HKc
            have HBc := hide (HBn.out (v + z))
            have HKc := hide (HKn.out (.int .i64 (v + z)))
            clear HBn HKn
            go_simp
            refine hK1.out _ _ trivial (fun _ => ?_)
            clear hK1 K1
            go_simp
            clear c22 f22
            refine wpAnyH_done (by kernel_rfl) ?_ _
            go_wp2
            exact ⟨⟨k + 1, by go_num, by omega, HE.out _ HBc.out, HKc⟩, by simp [intOf]; omega⟩
          refine AllReadyH.cons rfl (fun K1 hK1 => ?_) AllReadyH.nil
          rw [if_pos (by rfl)]
          refine wp_load_mid 46 _ rfl b 0 (by rfl) (ivs (bdL T p t)) _ HBc.out.range Try.underlying46 rfl (by rw [ivs_length, bdL_length _ _ _ hT.out]; exact size46) ?_
          refine hK1.out _ _ trivial (fun _ => ?_)
          clear hK1 K1
          go_simp
          refine wpAnyH_ready (rs := [3]) (by kernel_rfl) (by simp) ?_
          refine AllReadyH.cons rfl (fun K1 hK1 => ?_) AllReadyH.nil
          rw [if_pos (by rfl)]
          refine wp_load_mid 46 _ rfl b 0 (by rfl) (ivs (bdL T p t)) _ HBc.out.range Try.underlying46 rfl (by rw [ivs_length, bdL_length _ _ _ hT.out]; exact size46) ?_
          refine hK1.out _ _ trivial (fun _ => ?_)
          clear hK1 K1
          go_simp
          refine wpAnyH_ready (rs := [5]) (by kernel_rfl) (by simp) ?_
          refine AllReadyH.cons rfl (fun K1 hK1 => ?_) AllReadyH.nil
          go_simp
          refine (store_any T hT.out p t x hp hx _).mono ?_
          rintro e W ⟨rfl, hw⟩
          have HBn := hide (HBc.out.below hw HBc.out.lt)
          have HKn := hide (HKc.out.grow hw)
          clear HBc HKc hw
          have HBc := HBn
          have HKc := HKn
          clear HBn HKn
          rw [HST.out]
          refine hK1.out _ _ trivial (fun _ => ?_)
          clear hK1 K1
          go_simp
          refine wpAnyH_take (i := 8) (v := .pointer (some ⟨b, s, none⟩)) rfl (by kernel_rfl) (by kernel_rfl) (by kernel_rfl) (fun _ _ _ h => h) (Or.inl ⟨by rfl, ?_⟩) trivial ?_
          · intro W _
            go_simp <;> first | done | rfl | (rw [IntKind.wrap_i64]; omega) | (intro hh; exfalso; omega) | (refine Eq.trans ?_ rfl; omega)
          go_simp
          refine wpAnyH_ready (rs := [9, 16]) (by kernel_rfl) (by simp) ?_
          refine AllReadyH.cons rfl (fun K1 hK1 => ?_) ?_
          · have c9 := HBc.out.seed hT.out (i := s) (by omega)
            rw [HV.out] at c9
            go_simp
            refine hK1.out _ _ trivial (fun _ => ?_)
            clear hK1 K1
            go_simp
            clear c9
            refine wpAnyH_ready (rs := [16]) (by kernel_rfl) (by simp) ?_
            refine AllReadyH.cons rfl (fun K1 hK1 => ?_) AllReadyH.nil
            go_simp
            refine (place_any T hT.out p t x k hp hx (by omega) _).mono ?_
            rintro e W ⟨rfl, hw⟩
            have HBn := hide (HBc.out.below hw HBc.out.lt)
            have HKn := hide (HKc.out.grow hw)
            clear HBc HKc hw
            have HBc := HBn
            have HKc := HKn
            clear HBn HKn
            rw [HQ.out]
            refine hK1.out _ _ trivial (fun _ => ?_)
            clear hK1 K1
            go_simp
            refine wpAnyH_ready (rs := [17]) (by kernel_rfl) (by simp) ?_
            refine AllReadyH.cons rfl (fun K1 hK1 => ?_) AllReadyH.nil
            go_simp
            refine (take_any T hT.out p t q (by omega) _ b HBc.out).mono ?_
            rintro e W ⟨rfl, hb', hk'⟩
            have HBn := hide hb'
            have HKn := hide (HKc.out.trans hk')
            clear HBc HKc hb' hk'
            have HBc := HBn
            have HKc := HKn
            clear HBn HKn
            rw [HZ.out]
            refine hK1.out _ _ trivial (fun _ => ?_)
            clear hK1 K1
            go_simp
            refine wpAnyH_take (i := 18) (v := .int .i64 (v + z)) rfl (by kernel_rfl) (by kernel_rfl) (by kernel_rfl) (fun _ _ _ h => h) (Or.inl ⟨by rfl, ?_⟩) trivial ?_
            · intro W _
              go_simp <;> first | done | rfl | (rw [IntKind.wrap_i64]; omega) | (intro hh; exfalso; omega) | (refine Eq.trans ?_ rfl; omega)
            go_simp
            refine wpAnyH_take (i := 21) (v := .pointer (some ⟨b, s, none⟩)) rfl (by kernel_rfl) (by kernel_rfl) (by kernel_rfl) (fun _ _ _ h => h) (Or.inl ⟨by rfl, ?_⟩) trivial ?_
            · intro W _
              go_simp <;> first | done | rfl | (rw [IntKind.wrap_i64]; omega) | (intro hh; exfalso; omega) | (refine Eq.trans ?_ rfl; omega)
            go_simp
            refine wpAnyH_ready (rs := [22]) (by kernel_rfl) (by simp) ?_
            refine AllReadyH.cons rfl (fun K1 hK1 => ?_) AllReadyH.nil
            have c22 := HBc.out.seed hT2.out (i := s) (by omega)
            have f22 := HBc.out.frozen s
            have HBn : Hid (∀ y : Int, Blk (World.setCell _ ⟨b, s, none⟩ (.int .i64 y)) b 46 (bdL ((T.set q 0).set s y) p t)) := hide (fun y => by rw [← bdL_set _ _ _ _ _ hT2.out (by omega)]; exact HBc.out.set s y)
            have HKn : Hid (∀ v, Keeps (fun j => j = b) w (World.setCell _ ⟨b, s, none⟩ v)) := hide (fun v => HKc.out.setCell rfl v)
            clear HBc HKc
            have HBc := hide (HBn.out (v + z))
            have HKc := hide (HKn.out (.int .i64 (v + z)))
            clear HBn HKn
            go_simp
            refine hK1.out _ _ trivial (fun _ => ?_)
            clear hK1 K1
            go_simp
            clear c22 f22
            refine wpAnyH_done (by kernel_rfl) ?_ _
            go_wp2
            exact ⟨⟨k + 1, by go_num, by omega, HE.out _ HBc.out, HKc⟩, by simp [intOf]; omega⟩
          refine AllReadyH.cons rfl (fun K1 hK1 => ?_) AllReadyH.nil
          go_simp
          refine (place_any T hT.out p t x k hp hx (by omega) _).mono ?_
          rintro e W ⟨rfl, hw⟩
          have HBn := hide (HBc.out.below hw HBc.out.lt)
          have HKn := hide (HKc.out.grow hw)
          clear HBc HKc hw
          have HBc := HBn
          have HKc := HKn
          clear HBn HKn
          rw [HQ.out]
          refine hK1.out _ _ trivial (fun _ => ?_)
          clear hK1 K1
          go_simp
          refine wpAnyH_ready (rs := [9, 17]) (by kernel_rfl) (by simp) ?_
          refine AllReadyH.cons rfl (fun K1 hK1 => ?_) ?_
          · have c9 := HBc.out.seed hT.out (i := s) (by omega)
            rw [HV.out] at c9
            go_simp
            refine hK1.out _ _ trivial (fun _ => ?_)
            clear hK1 K1
            go_simp
            clear c9
            refine wpAnyH_ready (rs := [17]) (by kernel_rfl) (by simp) ?_
            refine AllReadyH.cons rfl (fun K1 hK1 => ?_) AllReadyH.nil
            go_simp
            refine (take_any T hT.out p t q (by omega) _ b HBc.out).mono ?_
            rintro e W ⟨rfl, hb', hk'⟩
            have HBn := hide hb'
            have HKn := hide (HKc.out.trans hk')
            clear HBc HKc hb' hk'
            have HBc := HBn
            have HKc := HKn
            clear HBn HKn
            rw [HZ.out]
            refine hK1.out _ _ trivial (fun _ => ?_)
            clear hK1 K1
            go_simp
            refine wpAnyH_take (i := 18) (v := .int .i64 (v + z)) rfl (by kernel_rfl) (by kernel_rfl) (by kernel_rfl) (fun _ _ _ h => h) (Or.inl ⟨by rfl, ?_⟩) trivial ?_
            · intro W _
              go_simp <;> first | done | rfl | (rw [IntKind.wrap_i64]; omega) | (intro hh; exfalso; omega) | (refine Eq.trans ?_ rfl; omega)
            go_simp
            refine wpAnyH_take (i := 21) (v := .pointer (some ⟨b, s, none⟩)) rfl (by kernel_rfl) (by kernel_rfl) (by kernel_rfl) (fun _ _ _ h => h) (Or.inl ⟨by rfl, ?_⟩) trivial ?_
            · intro W _
              go_simp <;> first | done | rfl | (rw [IntKind.wrap_i64]; omega) | (intro hh; exfalso; omega) | (refine Eq.trans ?_ rfl; omega)
            go_simp
            refine wpAnyH_ready (rs := [22]) (by kernel_rfl) (by simp) ?_
            refine AllReadyH.cons rfl (fun K1 hK1 => ?_) AllReadyH.nil
            have c22 := HBc.out.seed hT2.out (i := s) (by omega)
            have f22 := HBc.out.frozen s
            have HBn : Hid (∀ y : Int, Blk (World.setCell _ ⟨b, s, none⟩ (.int .i64 y)) b 46 (bdL ((T.set q 0).set s y) p t)) := hide (fun y => by rw [← bdL_set _ _ _ _ _ hT2.out (by omega)]; exact HBc.out.set s y)
            have HKn : Hid (∀ v, Keeps (fun j => j = b) w (World.setCell _ ⟨b, s, none⟩ v)) := hide (fun v => HKc.out.setCell rfl v)
            clear HBc HKc
            have HBc := hide (HBn.out (v + z))
            have HKc := hide (HKn.out (.int .i64 (v + z)))
            clear HBn HKn
            go_simp
            refine hK1.out _ _ trivial (fun _ => ?_)
            clear hK1 K1
            go_simp
            clear c22 f22
            refine wpAnyH_done (by kernel_rfl) ?_ _
            go_wp2
            exact ⟨⟨k + 1, by go_num, by omega, HE.out _ HBc.out, HKc⟩, by simp [intOf]; omega⟩
          refine AllReadyH.cons rfl (fun K1 hK1 => ?_) AllReadyH.nil
          go_simp
          refine (take_any T hT.out p t q (by omega) _ b HBc.out).mono ?_
          rintro e W ⟨rfl, hb', hk'⟩
          have HBn := hide hb'
          have HKn := hide (HKc.out.trans hk')
          clear HBc HKc hb' hk'
          have HBc := HBn
          have HKc := HKn
          clear HBn HKn
          rw [HZ.out]
          refine hK1.out _ _ trivial (fun _ => ?_)
          clear hK1 K1
          go_simp
          refine wpAnyH_ready (rs := [9]) (by kernel_rfl) (by simp) ?_
          refine AllReadyH.cons rfl (fun K1 hK1 => ?_) AllReadyH.nil
          have c9 := HBc.out.seed hT2.out (i := s) (by omega)
          rw [HV2.out] at c9
          go_simp
          refine hK1.out _ _ trivial (fun _ => ?_)
          clear hK1 K1
          go_simp
          clear c9
          refine wpAnyH_take (i := 18) (v := .int .i64 (v + z)) rfl (by kernel_rfl) (by kernel_rfl) (by kernel_rfl) (fun _ _ _ h => h) (Or.inl ⟨by rfl, ?_⟩) trivial ?_
          · intro W _
            go_simp <;> first | done | rfl | (rw [IntKind.wrap_i64]; omega) | (intro hh; exfalso; omega) | (refine Eq.trans ?_ rfl; omega)
          go_simp
          refine wpAnyH_take (i := 21) (v := .pointer (some ⟨b, s, none⟩)) rfl (by kernel_rfl) (by kernel_rfl) (by kernel_rfl) (fun _ _ _ h => h) (Or.inl ⟨by rfl, ?_⟩) trivial ?_
          · intro W _
            go_simp <;> first | done | rfl | (rw [IntKind.wrap_i64]; omega) | (intro hh; exfalso; omega) | (refine Eq.trans ?_ rfl; omega)
          go_simp
          refine wpAnyH_ready (rs := [22]) (by kernel_rfl) (by simp) ?_
          refine AllReadyH.cons rfl (fun K1 hK1 => ?_) AllReadyH.nil
          have c22 := HBc.out.seed hT2.out (i := s) (by omega)
          have f22 := HBc.out.frozen s
          have HBn : Hid (∀ y : Int, Blk (World.setCell _ ⟨b, s, none⟩ (.int .i64 y)) b 46 (bdL ((T.set q 0).set s y) p t)) := hide (fun y => by rw [← bdL_set _ _ _ _ _ hT2.out (by omega)]; exact HBc.out.set s y)
          have HKn : Hid (∀ v, Keeps (fun j => j = b) w (World.setCell _ ⟨b, s, none⟩ v)) := hide (fun v => HKc.out.setCell rfl v)
          clear HBc HKc
          have HBc := hide (HBn.out (v + z))
          have HKc := hide (HKn.out (.int .i64 (v + z)))
          clear HBn HKn
          go_simp
          refine hK1.out _ _ trivial (fun _ => ?_)
          clear hK1 K1
          go_simp
          clear c22 f22
          refine wpAnyH_done (by kernel_rfl) ?_ _
          go_wp2
          exact ⟨⟨k + 1, by go_num, by omega, HE.out _ HBc.out, HKc⟩, by simp [intOf]; omega⟩
        · obtain rfl : k = p := by omega
          have hkp' : ¬ (k : Int) < (k : Int) := by omega
          have HB3 : Hid (Blk wr b 46 (bdL (gx k (x + 1) S) k t)) := hide (by rw [← HGS.out]; exact hB2.out)
          go_wp2
          exact ⟨⟨x + 1, by go_num, by omega, HB3, hK2⟩, by simp [intOf]; omega⟩
    · obtain rfl : x = 2 := by omega
      rw [HG.out] at hB
      go_wp2
      exact bodyPost_end (by simp [results, Try.results40, go_sem]) rfl ⟨rfl, hB.out, hK.out⟩

end Go.Proofs.Ytmdnoiebodaikaa
