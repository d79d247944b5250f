/-
  Which boards may be. No conditions beyond those that each theorem bears.
-/
import Derived.Test.YtmdnoiebodaikaaMn
namespace Go.Proofs.Ytmdnoiebodaikaa
open Go.RowKit

/-- A board that may be. -/
def mayP (S : List Int) (t : Int) : Prop := 4 ≤ S.length ∧ S.length ≤ 14 ∧ S.length % 2 = 0 ∧ 0 ≤ t ∧ t ≤ 1 ∧ (∀ i, i < S.length → 0 ≤ S.getD i 0) ∧ sumN S.length (fun i => S.getD i 0) ≤ 1000

instance (S : List Int) (t : Int) : Decidable (mayP S t) := by unfold mayP; infer_instance

def mayB (S : List Int) (t : Int) : Bool := decide (mayP S t)

def sm (S : List Int) (k : Nat) : Int := sumN k (fun i => S.getD i 0)
theorem sm_succ (S : List Int) (k : Nat) : sm S (k + 1) = sm S k + S.getD k 0 := rfl

theorem may_no {S : List Int} {t : Int} (h : ¬ mayP S t) : mayB S t = false := by simp [mayB, h]
theorem may_yes {S : List Int} {t : Int} (h : mayP S t) : mayB S t = true := by simp [mayB, h]

theorem may_low {S : List Int} {t : Int} {k : Nat} (hk : k < S.length) (h : S.getD k 0 < 0) : mayB S t = false :=
  may_no fun hm => by have := hm.2.2.2.2.2.1 k hk; omega

theorem may_sum {S : List Int} {t : Int} {k : Nat} (hk : k < S.length) (h : 1000 < sm S (k + 1)) : mayB S t = false :=
  may_no fun hm => by
    have := sumN_mono (f := fun i => S.getD i 0) (k + 1) S.length hk hm.2.2.2.2.2.1
    have := hm.2.2.2.2.2.2
    unfold sm at h
    omega

set_option maxHeartbeats 1000000 in
theorem May_any (a : Option Addr) (n c : Nat) (t : Int) (S : List Int) (w : World) (hR : Rd w a n c S) (ht1 : -9223372036854775808 ≤ t) (ht2 : t ≤ 9223372036854775807) :
    Calls Try.prog 9 #[.agg (mA a n c t)] w fun e w' => e = .returned (.bool (mayB S t)) ∧ Below w.heap.size w w' := by
  have hlen := hR.len
  have hmax := hR.max
  have hcap := hR.cap
  unfold maxLen at hmax
  have M0 := Mn.new w a n c t
  have m0 := M0.seeds
  have m1 := M0.turn
  have HB := hide (show Below w.heap.size w (w.alloc (Obj.cells (mA a n c t) 24)) from (Below.refl _ w).alloc (Nat.le_refl _) _)
  have HR := hide hR
  clear M0 hR
  by_cases h1 : n < 4
  · have h1' : (n : Int) < 4 := by omega
    have HV : Hid (mayB S t = false) := hide (may_no fun hm => by have := hm.1; omega)
    clear hlen
    go_enter Try.func9, Try.ntmps9
    go_wp2
    go_ret
    exact ⟨ret_bool HV.out.symm, HB.out⟩
  · have h1' : decide ((n : Int) < 4) = false := by simp; omega
    by_cases h2 : 14 < n
    · have h2' : (14 : Int) < (n : Int) := by omega
      have HV : Hid (mayB S t = false) := hide (may_no fun hm => by have := hm.2.1; omega)
      clear hlen
      go_enter Try.func9, Try.ntmps9
      go_wp2
      go_ret
      exact ⟨ret_bool HV.out.symm, HB.out⟩
    · have h2' : decide ((14 : Int) < (n : Int)) = false := by simp; omega
      by_cases h3 : n % 2 = 0
      · have h3' : ((n : Int) % 2 != 0) = false := by simp; omega
        by_cases h4 : t < 0
        · have HV : Hid (mayB S t = false) := hide (may_no fun hm => by have := hm.2.2.2.1; omega)
          have H3 := hide h3
          clear hlen h3
          go_enter Try.func9, Try.ntmps9
          go_wp2
          go_ret
          exact ⟨ret_bool HV.out.symm, HB.out⟩
        · have h4' : decide (t < 0) = false := by simpa using h4
          by_cases h5 : 2 ≤ t
          · have HV : Hid (mayB S t = false) := hide (may_no fun hm => by have := hm.2.2.2.2.1; omega)
            have H3 := hide h3
            clear hlen h3
            go_enter Try.func9, Try.ntmps9
            go_wp2
            go_ret
            exact ⟨ret_bool HV.out.symm, HB.out⟩
          · have h5' : decide (2 ≤ t) = false := by simpa using h5
            have H3 := hide h3
            have HLN := hide hlen
            have HV : Hid ((∀ i, i < n → 0 ≤ S.getD i 0) → sm S n ≤ 1000 → mayB S t = true) := hide (fun p1 p2 => may_yes ⟨by omega, by omega, by rw [hlen]; exact h3, by omega, by omega, by rw [hlen]; exact p1, by rw [hlen]; exact p2⟩)
            obtain ⟨b, off, rfl, hc⟩ := HR.out.cells (by omega)
            have hbl : b < w.heap.size := World.block_lt_of_cell? w _ (hc 0 (by omega))
            have HC : Hid (∀ i, i < n → (w.alloc (Obj.cells (mA (some ⟨b, off, none⟩) n c t) 24)).cell? ⟨b, off + i, none⟩ = some (.int .i64 (S.getD i 0))) := hide (fun i hi => (HB.out.cell (p := ⟨b, off + i, none⟩) hbl).trans (hc i hi))
            clear hlen h3 hc
            go_enter Try.func9, Try.ntmps9
            go_wp2
            go_loop [4, 34] (fun l v => ∃ k : Nat, v = .int .i64 k ∧ k ≤ n ∧ l = .int .i64 (1000 - sm S k) ∧ 0 ≤ sm S k ∧ sm S k ≤ 1000 ∧ Hid (∀ i, i < k → 0 ≤ S.getD i 0)) (fun _ v => n - (intOf v).toNat)
            case atStart => exact ⟨0, rfl, by omega, rfl, by simp [sm, sumN], by simp [sm, sumN], fun i hi => by omega⟩
            case round =>
              obtain ⟨k, rfl, hk, rfl, s1, s2, hp⟩ := hrel
              by_cases hlt : k < n
              · have hlt' : (k : Int) < (n : Int) := by omega
                have c1 := HC.out k hlt
                have HLW : Hid (S.getD k 0 < 0 → mayB S t = false) := hide (may_low (by rw [HLN.out]; exact hlt))
                have HSM : Hid (1000 < sm S (k + 1) → mayB S t = false) := hide (may_sum (by rw [HLN.out]; exact hlt))
                have HSS := hide (sm_succ S k)
                have HP : Hid (0 ≤ S.getD k 0 → ∀ i, i < k + 1 → 0 ≤ S.getD i 0) := hide (fun h i hi => by
                  by_cases e : i = k
                  · subst e; exact h
                  · exact hp.out i (by omega))
                generalize S.getD k 0 = z at *
                by_cases hz : z < 0
                · have HF := hide (HLW.out hz)
                  clear HLW HSM HP HSS
                  go_wp2
                  go_ret
                  exact ⟨ret_bool HF.out.symm, HB.out⟩
                · have hz' : decide (z < 0) = false := by simpa using hz
                  by_cases hz2 : 1000 - sm S k < z
                  · have HF := hide (HSM.out (by rw [HSS.out]; omega))
                    clear HLW HSM HP HSS
                    go_wp2
                    go_ret
                    exact ⟨ret_bool HF.out.symm, HB.out⟩
                  · have hz2' : decide (1000 - sm S k < z) = false := by simpa using hz2
                    have HP2 := hide (HP.out (by omega))
                    clear HLW HSM HP
                    generalize sm S k = s at *
                    go_wp2
                    exact ⟨⟨k + 1, by go_num, by omega, by rw [HSS.out]; go_num, by rw [HSS.out]; omega, by rw [HSS.out]; omega, HP2⟩, by simp [intOf]; omega⟩
              · obtain rfl : k = n := by omega
                have hlt' : ¬ (k : Int) < (k : Int) := by omega
                have HF := hide (HV.out hp.out s2)
                go_wp2
                go_ret
                exact ⟨ret_bool HF.out.symm, HB.out⟩
      · have h3' : ((n : Int) % 2 != 0) = true := by simp; omega
        have HV : Hid (mayB S t = false) := hide (may_no fun hm => by have := hm.2.2.1; rw [hlen] at this; exact h3 this)
        clear hlen h3
        go_enter Try.func9, Try.ntmps9
        go_wp2
        go_ret
        exact ⟨ret_bool HV.out.symm, HB.out⟩

end Go.Proofs.Ytmdnoiebodaikaa
