/-
  The law 'CribKeeps': every way through it ends with true. No conditions beyond those that each theorem bears.
-/
import Derived.Test.YtneafmjbekafmaaKeepR
import Derived.Test.YtneafmjbekafmaaKeepNo
namespace Go.Proofs.Ytneafmjbekafmaa
open Go.RowKit Go.Shelf

theorem may_six {zs : List Int} (h : mayE zs = 0) : (∀ x ∈ natL zs, x < 52) ∧ toI (natL zs) = zs ∧ (natL zs).Nodup := by
  obtain ⟨hr, hn⟩ := mayE_zero h
  refine ⟨?_, toI_natL hr, ?_⟩
  · intro x hx
    obtain ⟨z, hz, rfl⟩ := List.mem_map.1 hx
    simp only [inRange, List.all_eq_true, decide_eq_true_eq] at hr
    have := hr z hz
    omega
  · have hn' : (toI (natL zs)).Nodup := by rw [toI_natL hr]; exact hn
    rw [toI] at hn'
    exact (List.pairwise_map.1 hn').imp (fun h e => h (by rw [e]))

set_option maxRecDepth 100000 in
set_option maxHeartbeats 4000000 in
theorem keeps_any (a : Option Addr) (n c : Nat) (zs : List Int) (w : World) (h : Rd w a n c zs) (hr : n * 8 ≤ 140737488351232) :
    Calls Try.prog 4 #[.slice a n c] w fun e w' => e = .returned (.bool true) ∧ Below w.heap.size w w' := by
  have HH := hide h
  clear h
  go_enter Try.func4, Try.ntmps4
  go_wp2_with fail
  refine (ints_any a n c zs w HH.out hr).mono ?_
  rintro e w1 ⟨a1, c1, rfl, hR1, hB1⟩
  have HR1 := hide hR1
  have HB1 := hide hB1
  clear hR1 hB1
  by_cases h6 : n = 6
  · subst h6
    by_cases hm : mayE zs = 0
    · obtain ⟨hlt, hti, hnd⟩ := may_six hm
      have hl : (natL zs).length = 6 := by have := HH.out.len; simp [natL, this]
      have KY := hide (Keep_yes a1 c1 (natL zs) hnd hlt hl w1 (by rw [hti]; exact HR1.out))
      have KO := hide (fun W (hW : Rd W a 6 c zs) => KeepOf_any a c (natL zs) hnd hlt hl W (by rw [hti]; exact hW))
      rw [keepF_ref] at KY
      have hin := refSets_in (sumF (natL zs) (othK (toI (natL zs)) 52))
      obtain ⟨M, hM⟩ : ∃ M, (refSets.foldl (refS (sumF (natL zs) (othK (toI (natL zs)) 52))) (-1, [])).1 = M := ⟨_, rfl⟩
      obtain ⟨P, hP⟩ : ∃ P, pick (natL zs) (refSets.foldl (refS (sumF (natL zs) (othK (toI (natL zs)) 52))) (-1, [])).2 = P := ⟨_, rfl⟩
      have hPl : P.length = 4 := by rw [← hP]; simp [pick]; exact (comb_nodup _ hin).2.1
      simp only [hM, hP, hPl] at KY KO
      have CM := hide (fun W (hW : Rd W a 6 c zs) => CardsMay_any a 6 c zs W hW)
      rw [hm] at CM
      clear hM hP hin hnd hlt hl hti hm
      go_wp2_with fail
      refine KY.out.mono ?_
      rintro e w2 ⟨a2, c2, rfl, hR2, hB2⟩
      have HR2 := hide hR2
      have HB2 := hide (HB1.out.trans (hB2.mono HB1.out.size))
      clear hR2 hB2 HB1 HR1 KY
      go_wp2_with fail
      refine (CM.out _ (HH.out.mono HB2.out)).mono ?_
      rintro e w3 ⟨rfl, q3, hw3⟩
      have HB3 := hide (HB2.out.trans (drewN_below _ w2 q3))
      have HR3 := hide (HR2.out.mono (drewN_below _ w2 q3))
      rw [← hw3] at HB3 HR3
      clear hw3 HB2 HR2 CM
      go_wp2_with fail
      refine (KO.out _ (HH.out.mono HB3.out)).mono ?_
      rintro e w4 ⟨a4, c4, rfl, hR4, hB4⟩
      have HB4 := hide (HB3.out.trans (hB4.mono HB3.out.size))
      have SI := hide (sameInts_any a2 a4 4 c2 4 c4 (toI P) (toI P) w4 (HR3.out.mono hB4) hR4)
      rw [decide_eq_true rfl] at SI
      have bM : (M == M) = true := by simp
      clear hR4 hB4 HB3 HR3 KO
      go_wp2_with fail
      refine SI.out.mono ?_
      rintro e w5 ⟨rfl, q5, hw5⟩
      have HB5 := hide (HB4.out.trans (drewN_below _ w4 q5))
      rw [← hw5] at HB5
      clear hw5
      go_wp2
      go_ret
      exact ⟨rfl, HB5.out⟩
    · have KB := hide (Keep_bad a1 c1 zs w1 HR1.out hm)
      have CM := hide (fun W (hW : Rd W a 6 c zs) => CardsMay_any a 6 c zs W hW)
      obtain ⟨x, hx⟩ : ∃ x, mayE zs = x := ⟨_, rfl⟩
      rw [hx] at KB CM hm
      have bx : (x != 0) = true := by simpa using hm
      have bxx : (x == x) = true := by simp
      clear hm hx
      go_wp2_with fail
      refine KB.out.mono ?_
      rintro e w2 ⟨rfl, hB2⟩
      have HB2 := hide (HB1.out.trans (hB2.mono HB1.out.size))
      clear hB2
      go_wp2_with fail
      refine (CM.out _ (HH.out.mono HB2.out)).mono ?_
      rintro e w3 ⟨rfl, q3, hw3⟩
      have HB3 := hide (HB2.out.trans (drewN_below _ w2 q3))
      rw [← hw3] at HB3
      clear hw3
      go_wp2
      go_ret
      exact ⟨rfl, HB3.out⟩
  · have KL := hide (Keep_len a1 n c1 zs w1 HR1.out h6)
    have b6 : ((n : Int) == 6) = false := by simp; omega
    go_wp2_with fail
    refine KL.out.mono ?_
    rintro e w2 ⟨rfl, hB2⟩
    have HB2 := hide (HB1.out.trans (hB2.mono HB1.out.size))
    clear hB2
    go_wp2
    go_ret
    exact ⟨rfl, HB2.out⟩

end Go.Proofs.Ytneafmjbekafmaa
