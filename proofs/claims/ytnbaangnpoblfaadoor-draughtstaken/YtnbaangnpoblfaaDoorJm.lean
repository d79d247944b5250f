/-
  Whether the mover can jump, walked. No conditions beyond those that each theorem bears.
-/
import Derived.Test.YtnbaangnpoblfaaDoorWb
namespace Go.Proofs.YtnbaangnpoblfaaDoor
open Go.RowKit

theorem goe_sub (b : Bm) (d : Nat) : Sub (b.goe d) b.own := by
  unfold Bm.goe
  split
  · exact Sub.refl _
  · exact Sub.and_left (Sub.refl _)
theorem goe_all {b : Bm} (h : BOk b) (d : Nat) : Sub (b.goe d) ALL := (goe_sub b d).trans h.own
theorem emp_all (b : Bm) : Sub b.emp ALL := Sub.anot (Sub.refl _)

/-- No jump in the first so many directions. -/
def noJ (b : Bm) (k : Nat) : Prop := ∀ d, d < k → b.jmD d = 0
theorem jms_false {b : Bm} (h : noJ b 4) : b.jms = false := by
  unfold Bm.jms
  simp [h 0 (by omega), h 1 (by omega), h 2 (by omega), h 3 (by omega)]
theorem jms_true {b : Bm} {d : Nat} (hd : d < 4) (h : b.jmD d ≠ 0) : b.jms = true := by
  unfold Bm.jms
  rw [List.any_eq_true]
  exact ⟨d, by simp; omega, by simpa using h⟩

attribute [local irreducible] stp shi Bm.goe Bm.emp Bm.jmD Bm.jms
attribute [local go_sem] run_dir

set_option maxRecDepth 100000 in
set_option maxHeartbeats 4000000 in
theorem jumps_any (b : Bm) (hb : BOk b) (w : World) (hT : DTab w) :
    Calls Tryd.prog 62 #[.agg (bdL b).toArray] w fun e w' => e = .returned (.bool b.jms) ∧ Below w.heap.size w w' := by
  have HGO := hide (fun d (hd : d < 4) W => goers_any b hb d hd W)
  have HST := hide (fun d p (hd : d < 4) (hp : Sub p ALL) W => step_any d p hd hp W)
  have HEM := hide (fun W => empty_any b hb W)
  have HGA := hide (goe_all hb)
  have HEA := hide (emp_all b)
  have HOT := hide hb.oth
  have HJD : Hid (∀ d, stp d (stp d (b.goe d) &&& b.oth) &&& b.emp = b.jmD d) := hide (fun d => by unfold Bm.jmD; rfl)
  obtain ⟨w1, hw1⟩ : ∃ w1, w.alloc (.cells (bdL b).toArray 60) = w1 := ⟨_, rfl⟩
  have HB1 : Hid (Below w.heap.size w w1) := hide (by rw [← hw1]; exact (Below.refl _ _).alloc (Nat.le_refl _) _)
  have HV1 : Hid (Vb w1 w.heap.size 60 (bdL b)) := hide (by rw [← hw1]; exact Vb.new _ _ _)
  have HR0 := hT.mono HB1.out
  clear hT
  go_enter Tryd.func62, Tryd.ntmps62
  go_upto_region 1 with fail
  clear hw1
  go_wp2_with (refine wpList_load_mid rfl 105 _ rfl 0 0 rfl dirV _ HR0 Tryd.underlying105 rfl size105 ?_)
  clear HR0
  go_loopw [7] (fun v wr => ∃ j : Nat, v = .int .i64 j ∧ j ≤ 4 ∧ Hid (noJ b j) ∧ Hid (Below w1.heap.size w1 wr)) (fun v _ => 4 - (intOf v).toNat)
  case atStart => exact ⟨0, rfl, by omega, hide (fun d hd => absurd hd (by omega)), hide (Below.refl _ _)⟩
  case round =>
    obtain ⟨j, rfl, hj, hN, hB⟩ := hrel
    by_cases hj4 : j < 4
    · have hj4' : (j : Int) < 4 := by omega
      have HJ4 := hide hj4
      have HV : Hid (Vb wr w.heap.size 60 (bdL b)) := hide (HV1.out.mono hB.out)
      obtain ⟨g, hg⟩ : ∃ g, b.goe j = g := ⟨_, rfl⟩
      have HG := hide (hg ▸ HGO.out j hj4)
      have HGS : Hid (Sub g ALL) := hide (hg ▸ HGA.out j)
      obtain ⟨s, hs⟩ : ∃ s, stp j g = s := ⟨_, rfl⟩
      have HS1 := hide (hs ▸ HST.out j g hj4 HGS.out)
      have hsS : Sub s ALL := hs ▸ Sub.stp j g
      have ea := and_nat hsS.lt64 HOT.out.lt64
      have hoS : Sub (s &&& b.oth) ALL := Sub.and_right HOT.out
      obtain ⟨o, ho⟩ : ∃ o, s &&& b.oth = o := ⟨_, rfl⟩
      rw [ho] at ea hoS
      obtain ⟨s2, hs2⟩ : ∃ s2, stp j o = s2 := ⟨_, rfl⟩
      have HS2 := hide (hs2 ▸ HST.out j o hj4 hoS)
      have eb := and_nat (hs2 ▸ (Sub.stp j o)).lt64 HEA.out.lt64
      have HJ : Hid (s2 &&& b.emp = b.jmD j) := hide (by rw [← hs2, ← ho, ← hs, ← hg]; exact HJD.out j)
      rw [HJ.out] at eb
      clear hg hs ho hs2 hsS hoS HJ
      go_upto_region 4 with fail
      have HC1 : Hid (∀ W4, Below wr.heap.size wr W4 → W4.cell? ⟨w.heap.size, 1, none⟩ = some (.int .u64 (b.oth : Nat))) := hide (fun W4 h => (HV.out.mono h).cell (i := 1) rfl)
      refine wp_region_held (S := fun W4 => Below wr.heap.size wr W4) (by kernel_rfl) ?_
      change wpAnyH _ _ _ _ _ _ _ _ (World.drew _)
      have SW : Below wr.heap.size wr wr.drew := (Below.refl _ wr).drew
      refine wpAnyH_take (i := 0) (v := .agg (bdL b).toArray) rfl (by kernel_rfl) (by kernel_rfl) (by kernel_rfl) (fun _ _ _ h => h) (yieldsIf_load_mid (by rfl) 60 _ rfl w.heap.size 0 (by rfl) (bdL b) _ (fun W hW => (HV.out.mono hW).range) Tryd.underlying60 rfl size60) SW ?_
      go_simp
      refine wpAnyH_take (i := 1) (v := .int .i64 (shi j)) rfl (by kernel_rfl) (by kernel_rfl) (by kernel_rfl) (fun _ _ _ h => h) (Or.inl ⟨by rfl, ?_⟩) SW ?_
      · intro W4 hW4
        go_simp <;> first | done | rfl | (rw [IntKind.wrap_i64]; omega) | omega
      go_simp
      refine wpAnyH_take (i := 3) (v := .int .i64 (shi j)) rfl (by kernel_rfl) (by kernel_rfl) (by kernel_rfl) (fun _ _ _ h => h) (Or.inl ⟨by rfl, ?_⟩) SW ?_
      · intro W4 hW4
        go_simp <;> first | done | rfl | (rw [IntKind.wrap_i64]; omega) | omega
      go_simp
      refine wpAnyH_take (i := 5) (v := .pointer (some ⟨w.heap.size, 1, none⟩)) rfl (by kernel_rfl) (by kernel_rfl) (by kernel_rfl) (fun _ _ _ h => h) (Or.inl ⟨by rfl, ?_⟩) SW ?_
      · intro W4 hW4
        go_simp <;> first | done | rfl | (rw [IntKind.wrap_i64]; omega) | omega
      go_simp
      refine wpAnyH_take (i := 6) (v := .int .u64 (b.oth : Nat)) rfl (by kernel_rfl) (by kernel_rfl) (by kernel_rfl) (fun _ _ _ h => h) (Or.inl ⟨by rfl, ?_⟩) SW ?_
      · intro W4 hW4
        have x0 := HC1.out W4 hW4
        go_simp <;> first | done | rfl | (rw [IntKind.wrap_i64]; omega) | omega
      go_simp
      refine wpAnyH_ready (rs := [2]) (by kernel_rfl) (by simp) ?_
      refine AllReadyH.cons rfl (fun K1 hK1 => ?_) AllReadyH.nil
      go_simp
      refine (HG.out _).mono ?_
      rintro r w5 ⟨rfl, hb5⟩
      have B5 := SW.trans (hb5.mono SW.size)
      refine hK1.out _ _ B5 (fun SW => ?_)
      clear hK1 K1 hb5
      go_simp
      refine wpAnyH_ready (rs := [4]) (by kernel_rfl) (by simp) ?_
      refine AllReadyH.cons rfl (fun K1 hK1 => ?_) AllReadyH.nil
      go_simp
      refine (HS1.out _).mono ?_
      rintro r w6 ⟨rfl, hw6⟩
      subst w6
      refine hK1.out _ _ SW (fun SW => ?_)
      clear hK1 K1
      go_simp
      refine wpAnyH_take (i := 7) (v := .int .u64 (o : Nat)) rfl (by kernel_rfl) (by kernel_rfl) (by kernel_rfl) (fun _ _ _ h => h) (Or.inl ⟨by rfl, ?_⟩) SW ?_
      · intro W4 hW4
        have x0 := ea
        go_simp <;> first | done | rfl | (rw [IntKind.wrap_i64]; omega) | omega
      go_simp
      refine wpAnyH_ready (rs := [8]) (by kernel_rfl) (by simp) ?_
      refine AllReadyH.cons rfl (fun K1 hK1 => ?_) AllReadyH.nil
      go_simp
      refine hK1.out _ _ SW (fun SW => ?_)
      clear hK1 K1
      go_simp
      refine wpAnyH_done (by kernel_rfl) ?_ _
      have HB5 := hide B5
      clear B5 SW HC1
      go_upto_region 5 with fail
      refine wp_region_held (S := fun W4 => Below w5.heap.size w5 W4) (by kernel_rfl) ?_
      change wpAnyH _ _ _ _ _ _ _ _ (World.drew _)
      have SW : Below w5.heap.size w5 w5.drew := (Below.refl _ w5).drew
      refine wpAnyH_take (i := 0) (v := .int .u64 (o : Nat)) rfl (by kernel_rfl) (by kernel_rfl) (by kernel_rfl) (fun _ _ _ h => h) (Or.inl ⟨by rfl, ?_⟩) SW ?_
      · intro W4 hW4
        go_simp <;> first | done | rfl | (rw [IntKind.wrap_i64]; omega) | omega
      go_simp
      refine wpAnyH_take (i := 1) (v := .int .i64 (shi j)) rfl (by kernel_rfl) (by kernel_rfl) (by kernel_rfl) (fun _ _ _ h => h) (Or.inl ⟨by rfl, ?_⟩) SW ?_
      · intro W4 hW4
        go_simp <;> first | done | rfl | (rw [IntKind.wrap_i64]; omega) | omega
      go_simp
      refine wpAnyH_take (i := 3) (v := .agg (bdL b).toArray) rfl (by kernel_rfl) (by kernel_rfl) (by kernel_rfl) (fun _ _ _ h => h) (yieldsIf_load_mid (by rfl) 60 _ rfl w.heap.size 0 (by rfl) (bdL b) _ (fun W hW => (HV.out.mono (HB5.out.trans (hW.mono HB5.out.size))).range) Tryd.underlying60 rfl size60) SW ?_
      go_simp
      refine wpAnyH_ready (rs := [2]) (by kernel_rfl) (by simp) ?_
      refine AllReadyH.cons rfl (fun K1 hK1 => ?_) AllReadyH.nil
      go_simp
      refine (HS2.out _).mono ?_
      rintro r w6 ⟨rfl, hw6⟩
      subst w6
      refine hK1.out _ _ SW (fun SW => ?_)
      clear hK1 K1
      go_simp
      refine wpAnyH_ready (rs := [4]) (by kernel_rfl) (by simp) ?_
      refine AllReadyH.cons rfl (fun K1 hK1 => ?_) AllReadyH.nil
      go_simp
      refine (HEM.out _).mono ?_
      rintro r w7 ⟨rfl, hb7⟩
      have B7 := SW.trans (hb7.mono SW.size)
      refine hK1.out _ _ B7 (fun SW => ?_)
      clear hK1 K1 hb7
      go_simp
      refine wpAnyH_take (i := 5) (v := .int .u64 (b.jmD j : Nat)) rfl (by kernel_rfl) (by kernel_rfl) (by kernel_rfl) (fun _ _ _ h => h) (Or.inl ⟨by rfl, ?_⟩) SW ?_
      · intro W4 hW4
        have x0 := eb
        go_simp <;> first | done | rfl | (rw [IntKind.wrap_i64]; omega) | omega
      go_simp
      by_cases hq : b.jmD j = 0
      · have hz : ((b.jmD j : Int) != 0) = false := by rw [hq]; rfl
        refine wpAnyH_take (i := 6) (v := .bool false) rfl (by kernel_rfl) (by kernel_rfl) (by kernel_rfl) (fun _ _ _ h => h) (Or.inl ⟨by rfl, ?_⟩) SW ?_
        · intro W4 hW4
          go_simp <;> first | done | rfl | (rw [IntKind.wrap_i64]; omega) | omega
        go_simp
        refine wpAnyH_done (by kernel_rfl) ?_ _
        have HBF : Hid (Below w1.heap.size w1 w7) := hide ((hB.out.trans (HB5.out.mono hB.out.size)).trans (B7.mono (Nat.le_trans hB.out.size HB5.out.size)))
        have HNN : Hid (noJ b (j + 1)) := hide (fun d hd => by
          rcases Nat.lt_or_ge d j with h | h
          · exact hN.out d h
          · obtain rfl : d = j := by omega
            exact hq)
        clear SW B7 hz hq ea eb
        go_wp2_with fail
        refine ⟨⟨j + 1, by go_num, by omega, HNN, HBF⟩, by simp [intOf]; omega⟩
      · have hz : ((b.jmD j : Int) != 0) = true := u64_ne hq
        refine wpAnyH_take (i := 6) (v := .bool true) rfl (by kernel_rfl) (by kernel_rfl) (by kernel_rfl) (fun _ _ _ h => h) (Or.inl ⟨by rfl, ?_⟩) SW ?_
        · intro W4 hW4
          go_simp <;> first | done | rfl | (rw [IntKind.wrap_i64]; omega) | omega
        go_simp
        refine wpAnyH_done (by kernel_rfl) ?_ _
        have HBF : Hid (Below w1.heap.size w1 w7) := hide ((hB.out.trans (HB5.out.mono hB.out.size)).trans (B7.mono (Nat.le_trans hB.out.size HB5.out.size)))
        have HE : Hid (b.jms = true) := hide (jms_true hj4 hq)
        clear SW B7 hz hq ea eb
        go_wp2_with fail
        go_ret
        exact ⟨by rw [HE.out]; rfl, HB1.out.trans (HBF.out.mono HB1.out.size)⟩
    · obtain rfl : j = 4 := by omega
      have HE := hide (jms_false hN.out)
      clear hj
      go_wp2_with fail
      go_ret
      exact ⟨by rw [HE.out]; rfl, HB1.out.trans (hB.out.mono HB1.out.size)⟩

end Go.Proofs.YtnbaangnpoblfaaDoor
