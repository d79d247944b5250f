/-
  Steps, walked: what stepFrom hands out. No conditions beyond those that each theorem bears.
-/
import Derived.Test.YtnbaangnpoblfaaDoorJo
namespace Go.Proofs.YtnbaangnpoblfaaDoor
open Go.RowKit Go.Shelf

def stO (b : Bm) (fi d : Nat) : Option Wy := if stD b fi d = 0 then none else some ([fi, stD b fi d], 0)
def stT (b : Bm) (fi k : Nat) : List Wy := (List.range k).filterMap (stO b fi)
theorem stT_four (b : Bm) (fi : Nat) : stF b fi = stT b fi 4 := rfl
theorem stT_no {b : Bm} {fi k : Nat} (h : stD b fi k = 0) : stT b fi (k + 1) = stT b fi k := by
  unfold stT; rw [List.range_succ, List.filterMap_append]; simp [stO, h]
theorem stT_yes {b : Bm} {fi k : Nat} (h : stD b fi k ≠ 0) : stT b fi (k + 1) = stT b fi k ++ [([fi, stD b fi k], 0)] := by
  unfold stT; rw [List.range_succ, List.filterMap_append]; simp [stO, h]
theorem stT_pre {b : Bm} {fi : Nat} {i j : Nat} (h : i ≤ j) : stT b fi i <+: stT b fi j := by
  induction j with
  | zero => obtain rfl : i = 0 := by omega
            exact List.prefix_refl _
  | succ j ih =>
    by_cases e : i = j + 1
    · subst e; exact List.prefix_refl _
    · refine (ih (by omega)).trans ?_
      by_cases hh : stD b fi j = 0
      · rw [stT_no hh]; exact List.prefix_refl _
      · rw [stT_yes hh]; exact List.prefix_append _ _

/-- What stepFrom does. -/
def SFr (b : Bm) (fi : Nat) : Prop :=
  ∀ (l : Nat) (J : (Nat → Prop) → List Wy → World → Prop) (Jx : (Nat → Prop) → World → Prop) (N0 : Nat) (T : Nat → Prop) (w : World) (O0 : Nat → Prop) (pre xs : List Wy), DTab w → T 0 → N0 ≤ w.heap.size → Cons J Jx N0 T → Rnd Tryd.prog l J Jx N0 WyG xs →
    (pre ++ stF b fi) <+: xs → J O0 pre w →
    Calls Tryd.prog 61 #[.agg (bdL b).toArray, .agg (wyL [fi] 0).toArray, .func (.yield l) #[] #[]] w fun e w' => Keeps O0 w w' ∧ ∃ O', (∀ k, k < w.heap.size → O' k → O0 k) ∧
      ((e = .returned (.bool true) ∧ J O' (pre ++ stF b fi) w') ∨ (e = .returned (.bool false) ∧ Jx O' w'))

attribute [local irreducible] stp shi Bm.goe Bm.emp stD stT stF wyL bdL
attribute [local go_sem] run_dir wide_fn wide_fn0 wide_depth Oper.semAt_some

set_option maxRecDepth 100000 in
set_option maxHeartbeats 8000000 in
theorem stepFrom_all (b : Bm) (hb : BOk b) (fi : Nat) (hfi : Sub fi ALL) : SFr b fi := by
  intro l J Jx N0 T w O0 pre xs hD hT0 hN hC hR hpre hJ
  have HW13 : Hid ([fi].length ≤ 13) := hide (by simp)
  have hOlt := hC.lt _ _ _ hJ
  have HGO := hide (fun d (hd : d < 4) W => goers_any b hb d hd W)
  have HST := hide (fun d p (hd : d < 4) (hp : Sub p ALL) W => step_any d p hd hp W)
  have HEM := hide (fun W => empty_any b hb W)
  have HFI : Hid (∀ W' : World, Calls Tryd.prog 69 #[.agg (wyL [fi] 0).toArray] W' fun e w' => e = .returned (.int .u64 (fi : Nat)) ∧ Below W'.heap.size W' w') := hide (fun W' => first_any [fi] 0 (by simp) (by simp) W')
  have HGA := hide (goe_all hb)
  have HEA := hide (emp_all b)
  have HFA := hide hfi
  have HSD : Hid (∀ d, stp d (fi &&& b.goe d) &&& b.emp = stD b fi d) := hide (fun d => by unfold stD; rfl)
  have HNO : Hid (∀ k, stD b fi k = 0 → stT b fi (k + 1) = stT b fi k) := hide (fun k h => stT_no h)
  have HYES : Hid (∀ k, stD b fi k ≠ 0 → stT b fi (k + 1) = stT b fi k ++ [([fi, stD b fi k], 0)]) := hide (fun k h => stT_yes h)
  have HPR := hide hpre
  obtain ⟨RS, hRS⟩ : ∃ RS, stF b fi = RS := ⟨_, rfl⟩
  have HEND : Hid (RS = stT b fi 4) := hide (by rw [← hRS, stT_four])
  have HPK : Hid (∀ k, k ≤ 4 → (pre ++ stT b fi k) <+: xs) := hide (fun k hk => by
    refine ((List.prefix_append_right_inj pre).2 (stT_pre hk)).trans ?_
    rw [← stT_four]; exact hpre)
  have HNIL : Hid (pre ++ stT b fi 0 = pre) := hide (by unfold stT; simp)
  rw [hRS]
  have HON : Hid (∀ (tz : Nat) (W' : World), Calls Tryd.prog 82 #[.agg (wyL [fi] 0).toArray, .int .u64 (tz : Nat), .int .u64 0] W' fun e w' => e = .returned (.agg (wyL [fi, tz] 0).toArray) ∧ Below W'.heap.size W' w') := hide (fun tz W' => on_any [fi] 0 tz 0 (by simp) (by decide) (by decide) W')
  obtain ⟨w1, hw1⟩ : ∃ w1, (w.alloc (.cells (bdL b).toArray 60)).alloc (.cells (wyL [fi] 0).toArray 65) = w1 := ⟨_, rfl⟩
  have hs1 : w1.heap.size = w.heap.size + 2 := by rw [← hw1]; simp
  have B1 : Below w.heap.size w w1 := by rw [← hw1]; exact ((Below.refl _ _).alloc (Nat.le_refl _) _).alloc (by simp) _
  have HB1 := hide B1
  have HV1 : Hid (Vb w1 w.heap.size 60 (bdL b)) := hide (by rw [← hw1]; exact (Vb.new _ _ _).old _)
  have HVW1 : Hid (Vb w1 (w.heap.size + 1) 65 (wyL [fi] 0)) := hide (by
    rw [← hw1]
    have := Vb.new (w.alloc (.cells (bdL b).toArray 60)) 65 (wyL [fi] 0)
    rw [World.size_alloc] at this
    exact this)
  have HR0 := hD.mono B1
  have HO0 : Hid (∀ k, O0 k → k < w.heap.size ∧ k ≠ 0) := hide (fun k hk => ⟨(hOlt k hk).1, fun e => (hOlt k hk).2 (e ▸ hT0)⟩)
  have HJ1 : Hid (∃ O, J O pre w1 ∧ ∀ k, k < w1.heap.size → O k → O0 k) := hide ⟨O0, hC.keep _ _ _ _ hJ (Keeps.of_all B1), fun _ _ h => h⟩
  have HC := hide hC
  have HR := hide hR
  have HN := hide hN
  have HS1 := hide hs1
  clear hOlt hJ hD hC hR hN hT0 hpre hs1 B1 hb hfi hRS
  go_enter Tryd.func61, Tryd.ntmps61
  go_upto_region 1 with fail
  clear hw1
  go_wp2_with (refine wpList_load_mid rfl 105 _ rfl 0 0 rfl dirV _ HR0 Tryd.underlying105 rfl size105 ?_)
  clear HR0
  go_loopw [11] (fun v wr => ∃ j : Nat, v = .int .i64 j ∧ j ≤ 4 ∧ Hid (∃ O, J O (pre ++ stT b fi j) wr ∧ ∀ k, k < w1.heap.size → O k → O0 k) ∧ Hid (Keeps O0 w1 wr)) (fun v _ => 4 - (intOf v).toNat)
  case atStart => exact ⟨0, rfl, by omega, hide (by rw [HNIL.out]; exact HJ1.out), hide (Keeps.refl _ _)⟩
  case round =>
    obtain ⟨j, rfl, hj, hJr, hK⟩ := hrel
    clear HJ1 HNIL
    have HV : Hid (Vb wr w.heap.size 60 (bdL b)) := hide (HV1.out.keeps hK.out (fun h => by have := (HO0.out _ h).1; omega))
    have HVW : Hid (Vb wr (w.heap.size + 1) 65 (wyL [fi] 0)) := hide (HVW1.out.keeps hK.out (fun h => by have := (HO0.out _ h).1; omega))
    have HSZ : Hid (w.heap.size + 2 ≤ wr.heap.size) := hide (by have := hK.out.size; have := HS1.out; omega)
    by_cases hj4 : j < 4
    · have hj4' : (j : Int) < 4 := by omega
      obtain ⟨g, hg⟩ : ∃ g, b.goe j = g := ⟨_, rfl⟩
      have HG := hide (hg ▸ HGO.out j hj4)
      have eg := and_nat HFA.out.lt64 (hg ▸ HGA.out j).lt64
      have hgS : Sub (fi &&& g) ALL := Sub.and_left HFA.out
      obtain ⟨fg, hfg⟩ : ∃ fg, fi &&& g = fg := ⟨_, rfl⟩
      rw [hfg] at eg hgS
      obtain ⟨s, hs⟩ : ∃ s, stp j fg = s := ⟨_, rfl⟩
      have HS2 := hide (hs ▸ HST.out j fg hj4 hgS)
      have ea := and_nat (hs ▸ Sub.stp j fg).lt64 HEA.out.lt64
      obtain ⟨tz, htz⟩ : ∃ tz, stD b fi j = tz := ⟨_, rfl⟩
      have htt : s &&& b.emp = tz := by rw [← hs, ← hfg, ← hg, ← htz]; exact HSD.out j
      rw [htt] at ea
      have HTZ := hide htz
      clear hg hfg hs htz htt hgS
      go_upto_region 4 with fail
      refine wp_region_held (S := fun W4 => Below wr.heap.size wr W4) (by kernel_rfl) ?_
      change wpAnyH _ _ _ _ _ _ _ _ (World.drew _)
      have SW : Below wr.heap.size wr wr.drew := (Below.refl _ wr).drew
      refine wpAnyH_take (i := 0) (v := .agg (wyL [fi] 0).toArray) rfl (by kernel_rfl) (by kernel_rfl) (by kernel_rfl) (fun _ _ _ h => h) (yieldsIf_load_mid (by rfl) 65 _ rfl (w.heap.size + 1) 0 (by rfl) (wyL [fi] 0) _ (fun W hW => (HVW.out.mono hW).range) Tryd.underlying65 rfl (size65w HW13.out)) SW ?_
      go_simp
      refine wpAnyH_take (i := 2) (v := .agg (bdL b).toArray) rfl (by kernel_rfl) (by kernel_rfl) (by kernel_rfl) (fun _ _ _ h => h) (yieldsIf_load_mid (by rfl) 60 _ rfl w.heap.size 0 (by rfl) (bdL b) _ (fun W hW => (HV.out.mono hW).range) Tryd.underlying60 rfl (by unfold bdL; exact size60)) SW ?_
      go_simp
      refine wpAnyH_take (i := 3) (v := .int .i64 (shi j)) rfl (by kernel_rfl) (by kernel_rfl) (by kernel_rfl) (fun _ _ _ h => h) (Or.inl ⟨by rfl, ?_⟩) SW ?_
      · intro W4 hW4
        go_simp <;> first | done | rfl | (rw [IntKind.wrap_i64]; omega) | omega
      go_simp
      refine wpAnyH_take (i := 6) (v := .int .i64 (shi j)) rfl (by kernel_rfl) (by kernel_rfl) (by kernel_rfl) (fun _ _ _ h => h) (Or.inl ⟨by rfl, ?_⟩) SW ?_
      · intro W4 hW4
        go_simp <;> first | done | rfl | (rw [IntKind.wrap_i64]; omega) | omega
      go_simp
      refine wpAnyH_take (i := 8) (v := .agg (bdL b).toArray) rfl (by kernel_rfl) (by kernel_rfl) (by kernel_rfl) (fun _ _ _ h => h) (yieldsIf_load_mid (by rfl) 60 _ rfl w.heap.size 0 (by rfl) (bdL b) _ (fun W hW => (HV.out.mono hW).range) Tryd.underlying60 rfl (by unfold bdL; exact size60)) SW ?_
      go_simp
      refine wpAnyH_ready (rs := [1]) (by kernel_rfl) (by simp) ?_
      refine AllReadyH.cons rfl (fun K1 hK1 => ?_) AllReadyH.nil
      go_simp
      refine (HFI.out _).mono ?_
      rintro r w5 ⟨rfl, hb5⟩
      have B5 := SW.trans (hb5.mono SW.size)
      refine hK1.out _ _ B5 (fun SW => ?_)
      clear hK1 K1 hb5
      go_simp
      refine wpAnyH_ready (rs := [4]) (by kernel_rfl) (by simp) ?_
      refine AllReadyH.cons rfl (fun K1 hK1 => ?_) AllReadyH.nil
      go_simp
      refine (HG.out _).mono ?_
      rintro r w6 ⟨rfl, hb6⟩
      have B6 := SW.trans (hb6.mono SW.size)
      refine hK1.out _ _ B6 (fun SW => ?_)
      clear hK1 K1 hb6
      go_simp
      refine wpAnyH_take (i := 5) (v := .int .u64 (fg : Nat)) rfl (by kernel_rfl) (by kernel_rfl) (by kernel_rfl) (fun _ _ _ h => h) (Or.inl ⟨by rfl, ?_⟩) SW ?_
      · intro W4 hW4
        have x0 := eg
        go_simp <;> first | done | rfl | (rw [IntKind.wrap_i64]; omega) | omega
      go_simp
      refine wpAnyH_ready (rs := [7]) (by kernel_rfl) (by simp) ?_
      refine AllReadyH.cons rfl (fun K1 hK1 => ?_) AllReadyH.nil
      go_simp
      refine (HS2.out _).mono ?_
      rintro r w7 ⟨rfl, hw7⟩
      subst w7
      refine hK1.out _ _ SW (fun SW => ?_)
      clear hK1 K1
      go_simp
      refine wpAnyH_ready (rs := [9]) (by kernel_rfl) (by simp) ?_
      refine AllReadyH.cons rfl (fun K1 hK1 => ?_) AllReadyH.nil
      go_simp
      refine (HEM.out _).mono ?_
      rintro r w8 ⟨rfl, hb8⟩
      have B8 := SW.trans (hb8.mono SW.size)
      refine hK1.out _ _ B8 (fun SW => ?_)
      clear hK1 K1 hb8
      go_simp
      refine wpAnyH_take (i := 10) (v := .int .u64 (tz : Nat)) rfl (by kernel_rfl) (by kernel_rfl) (by kernel_rfl) (fun _ _ _ h => h) (Or.inl ⟨by rfl, ?_⟩) SW ?_
      · intro W4 hW4
        have x0 := ea
        go_simp <;> first | done | rfl | (rw [IntKind.wrap_i64]; omega) | omega
      go_simp
      refine wpAnyH_ready (rs := [11]) (by kernel_rfl) (by simp) ?_
      refine AllReadyH.cons rfl (fun K1 hK1 => ?_) AllReadyH.nil
      go_simp
      refine hK1.out _ _ SW (fun SW => ?_)
      clear hK1 K1
      go_simp
      refine wpAnyH_done (by kernel_rfl) ?_ _
      have HB8 := hide B8
      clear SW B8 B6 B5 eg ea
      by_cases hq : tz = 0
      · have hz : ((tz : Int) != 0) = false := by rw [hq]; rfl
        have n1 := HNO.out j (by rw [HTZ.out]; exact hq)
        have HJ6 : Hid (∃ O, J O (pre ++ stT b fi (j + 1)) w8 ∧ ∀ k, k < w1.heap.size → O k → O0 k) := hide (by
          obtain ⟨O, h1, h2⟩ := hJr.out
          exact ⟨O, by rw [n1]; exact HC.out.keep _ _ _ _ h1 (Keeps.of_all HB8.out), h2⟩)
        have HK6 : Hid (Keeps O0 w1 w8) := hide (hK.out.trans (Keeps.of_all HB8.out))
        clear hq n1 hJr hK
        go_wp2_with fail
        refine ⟨⟨j + 1, by go_num, by omega, HJ6, HK6⟩, by simp [intOf]; omega⟩
      · have hz : ((tz : Int) != 0) = true := u64_ne hq
        have n1 := HYES.out j (by rw [HTZ.out]; exact hq)
        rw [HTZ.out] at n1
        have HN1 := hide n1
        have HPX : Hid ((pre ++ stT b fi j ++ [([fi, tz], 0)]) <+: xs) := hide (by
          have := HPK.out (j + 1) (by omega)
          rw [n1, ← List.append_assoc] at this; exact this)
        have HVW8 := hide (HVW.out.mono HB8.out)
        clear n1 hq
        go_upto_region 5 with fail
        refine (wpIn_wide (n := 1)).1 ?_
        gi_wp2_with (refine wpListIn_load_wy rfl (.tmp 4) rfl (w.heap.size + 1) rfl HW13.out HVW8.out ?_)
        refine (callsIn_wide.2 (HON.out tz _)).mono ?_
        rintro e w9 ⟨rfl, hb9⟩
        have B9 : Below wr.heap.size wr w9 := HB8.out.trans (hb9.mono HB8.out.size)
        obtain ⟨O, hJO, hOm⟩ := hJr.out
        have K9 : Keeps O0 w1 w9 := hK.out.trans (Keeps.of_all B9)
        have hJ9 := HC.out.keep _ _ _ _ hJO (Keeps.of_all B9)
        have s9 := K9.size
        obtain ⟨fn, tmps, assign, body, hy, hRR⟩ := YieldAt.anyD (m' := 0) (HR.out O _ ([fi, tz], 0) #[.agg (wyL [fi, tz] 0).toArray] w9 hJ9 HPX.out rfl (by have := HN.out; have := HS1.out; omega))
        have HK9 := hide K9
        have HOM := hide hOm
        have HS9 := hide s9
        clear hJO hOm hJ9 K9 B9 hb9 s9 hJr hK
        gi_wp2
        refine hRR.mono ?_
        rintro e w11 ⟨hk11, O', hO', h11⟩
        have HK11 : Hid (Keeps O0 w1 w11) := hide (HK9.out.chain hk11 HOM.out)
        have HOM' : Hid (∀ k, k < w1.heap.size → O' k → O0 k) := hide (fun k hk h => HOM.out k hk (hO' k (by have := HS9.out; omega) h))
        clear hy hRR hk11 hO'
        rcases h11 with ⟨rfl, h11⟩ | ⟨rfl, h11⟩
        · have HJN : Hid (∃ O, J O (pre ++ stT b fi (j + 1)) w11 ∧ ∀ k, k < w1.heap.size → O k → O0 k) := hide ⟨O', by rw [HN1.out, ← List.append_assoc]; exact h11, HOM'.out⟩
          clear h11
          gi_wp2
          go_wp2_with fail
          refine ⟨⟨j + 1, by go_num, by omega, HJN, HK11⟩, by simp [intOf]; omega⟩
        · have H11 := hide h11
          clear h11
          gi_wp2
          go_wp2_with fail
          go_ret
          refine ⟨(Keeps.of_all HB1.out).chain HK11.out (fun _ _ h => h), O', fun k hk h => HOM'.out k (by have := HS1.out; omega) h, .inr ⟨rfl, H11.out⟩⟩
    · obtain rfl : j = 4 := by omega
      obtain ⟨O, hJO, hOm⟩ := hJr.out
      have HJO := hide hJO
      have HOM := hide hOm
      clear hJO hOm hJr hj hj4
      go_wp2_with fail
      go_ret
      exact ⟨(Keeps.of_all HB1.out).chain hK.out (fun _ _ h => h), O, fun k hk h => HOM.out k (by have := HS1.out; omega) h, .inl ⟨rfl, by rw [HEND.out]; exact HJO.out⟩⟩

end Go.Proofs.YtnbaangnpoblfaaDoor
