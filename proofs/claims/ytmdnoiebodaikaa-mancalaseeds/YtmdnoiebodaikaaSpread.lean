/-
  Seeds are spread. No conditions beyond those that each theorem bears.
-/
import Derived.Test.YtmdnoiebodaikaaNext
namespace Go.Proofs.Ytmdnoiebodaikaa
open Go.RowKit

theorem Keeps.grow {X : Nat → Prop} {a b c : World} (h : Keeps X a b) (k : Below b.heap.size b c) : Keeps X a c := h.trans (Keeps.of_all k)

attribute [local irreducible] spr nx in
set_option maxHeartbeats 4000000 in
theorem spread_any (S : List Int) (hS : S.length = 14) (p t a : Nat) (hp : p ≤ 6) (ht : t ≤ 1) (ha : a < 2 * (p + 1)) (hf : Fit p S) (w : World) (b : Nat) (hb : Blk w b 46 (bdL S p t)) :
    Calls Try.prog 34 #[.pointer (some ⟨b, 0, none⟩), .int .i64 a] w fun e w' => e = .returned (.int .i64 ((spr p t (S.getD a 0).toNat (S.set a 0) a).2 : Nat)) ∧ Blk w' b 46 (bdL (spr p t (S.getD a 0).toNat (S.set a 0) a).1 p t) ∧ Keeps (fun j => j = b) w w' := by
  obtain ⟨k0, hk0⟩ : ∃ k0 : Nat, (S.getD a 0).toNat = k0 := ⟨_, rfl⟩
  have hz : S.getD a 0 = (k0 : Int) := by have := hf.pos a ha; omega
  have hk1 : k0 ≤ 1000 := by have := hf.le ha; omega
  obtain ⟨R, hR⟩ : ∃ R, spr p t k0 (S.set a 0) a = R := ⟨_, rfl⟩
  have HP0 : Hid (∀ i, i < 2 * (p + 1) → 0 ≤ (S.set a 0).getD i 0) := hide (fun i hi => by
    rw [getD_set _ _ _ _ (by omega)]
    split
    · exact Int.le_refl _
    · exact hf.pos i hi)
  have HT0 : Hid (tot p (S.set a 0) + k0 ≤ 1000) := hide (by
    rw [tot_set p S a 0 ha (by omega), hz]
    have := hf.sum
    omega)
  have HL0 : Hid ((S.set a 0).length = 14) := hide (by rw [List.length_set]; exact hS)
  rw [hk0, hR]
  have HR := hide hR
  have HZ := hide hz
  have HB := hide hb
  clear hk0 hR hz hb hf
  go_enter Try.func34, Try.ntmps34
  go_wp2_with fail
  refine (take_any S hS p t a (by omega) _ b HB.out).mono ?_
  rintro e w1 ⟨rfl, hb1, hk⟩
  rw [HZ.out]
  have HB1 := hide hb1
  have HK1 := hide hk
  clear hb1 hk HB HZ
  go_wp2
  go_loopw [1, 5] (fun v u wr => ∃ (q k : Nat) (T : List Int), v = .int .i64 q ∧ u = .int .i64 k ∧ q < 2 * (p + 1) ∧ k ≤ 1000 ∧ Hid (T.length = 14) ∧ Hid (∀ i, i < 2 * (p + 1) → 0 ≤ T.getD i 0) ∧ Hid (tot p T + k ≤ 1000) ∧ Hid (spr p t k T q = R) ∧ Hid (Blk wr b 46 (bdL T p t)) ∧ Hid (Keeps (fun j => j = b) w wr)) (fun _ u _ => (intOf u).toNat)
  case atStart => exact ⟨a, k0, S.set a 0, rfl, rfl, ha, hk1, HL0, HP0, HT0, HR, HB1, HK1⟩
  case round =>
    obtain ⟨q, k, T, rfl, rfl, hq, hkl, hT, hP, hS', hR, hB, hK⟩ := hrel
    clear HB1 HK1 HR HL0 HP0 HT0
    by_cases hlt : 0 < k
    · have hlt' : 0 < (k : Int) := by omega
      obtain ⟨k', rfl⟩ : ∃ k', k = k' + 1 := ⟨k - 1, by omega⟩
      go_wp2_with fail
      refine (next_any T hT.out p t q hp ht hq _ b hB.out).mono ?_
      rintro e w2 ⟨rfl, hw⟩
      have hb2 := hB.out.below hw hB.out.lt
      have HK2 := hide (hK.out.grow hw)
      have hn := nx_lt p t q
      have c1 := hb2.seed hT.out (i := nx p t q) (by omega)
      have f1 := hb2.frozen (nx p t q)
      have hv := hP.out _ hn
      have hv2 : T.getD (nx p t q) 0 ≤ 1000 := by
        have := sumN_le (f := fun i => T.getD i 0) _ hP.out _ hn
        have h2 := hS'.out
        unfold tot at h2
        omega
      have HR2 : Hid (spr p t k' (T.set (nx p t q) (T.getD (nx p t q) 0 + 1)) (nx p t q) = R) := hide (by have := hR.out; rw [spr] at this; exact this)
      have HP2 : Hid (∀ i, i < 2 * (p + 1) → 0 ≤ (T.set (nx p t q) (T.getD (nx p t q) 0 + 1)).getD i 0) := hide (fun i hi => by
        rw [getD_set _ _ _ _ (by rw [hT.out]; omega)]
        split
        · omega
        · exact hP.out i hi)
      have HT2 : Hid (tot p (T.set (nx p t q) (T.getD (nx p t q) 0 + 1)) + k' ≤ 1000) := hide (by
        have := hS'.out
        rw [tot_set p T _ _ hn (by rw [hT.out]; omega)]
        omega)
      have HB2 : Hid (∀ x : Int, Blk (w2.drew.setCell ⟨b, nx p t q, none⟩ (.int .i64 x)) b 46 (bdL (T.set (nx p t q) x) p t)) := hide (fun x => by
        rw [← bdL_set _ _ _ _ _ hT.out (by omega)]
        exact (show Blk w2.drew b 46 (bdL T p t) from hb2).set _ x)
      have HKK : Hid (∀ v, Keeps (fun j => j = b) w (w2.drew.setCell ⟨b, nx p t q, none⟩ v)) := hide (fun v => (HK2.out.drew).setCell rfl v)
      clear hw hb2 hR
      generalize nx p t q = n at *
      generalize T.getD n 0 = z at *
      go_wp2
      go_region
      go_wp2
      exact ⟨⟨n, k', T.set n (z + 1), rfl, rfl, hn, by omega, hide (by rw [List.length_set]; exact hT.out), HP2, HT2, HR2, HB2.out _, HKK.out _⟩, by simp [intOf]⟩
    · obtain rfl : k = 0 := by omega
      have HR2 : Hid ((T, q) = R) := hide (by have := hR.out; rw [spr] at this; exact this)
      go_wp2
      go_ret
      refine ⟨ret_int (by rw [← HR2.out]), ?_, hK.out⟩
      rw [← HR2.out]
      exact hB.out

end Go.Proofs.Ytmdnoiebodaikaa
