/-
  The document's search for the least. No conditions beyond those that each theorem bears.
-/
import Derived.Test.YtmboikpcbkiepaaPost
namespace Go.Proofs.Ytmboikpcbkiepaa
open Go.RowKit Go.Maps

attribute [local irreducible] vl lst sd6 endsL sumS rowS one9 endsX fl rA rB pip Ms v7 dv fin rfL acc far can nxt

theorem far_succ (m : List Nat) (i : Nat) : far m (i + 1) = if 0 < m.getD i 0 then (i : Int) else far m i := by rw [far]
theorem far_zero (m : List Nat) : far m 0 = -1 := by rw [far]
theorem far_ge (m : List Nat) : ∀ i, -1 ≤ far m i ∧ far m i < (i : Int) + 1
  | 0 => by rw [far_zero]; omega
  | i + 1 => by
    have := far_ge m i
    rw [far_succ]
    split <;> omega

theorem Rd.at6 {w : World} {g c : Nat} {m : List Nat} (h : Rd w (some ⟨g, 0, none⟩) 6 c (cs m)) {i : Nat} (hi : i < 6) : w.cell? ⟨g, i, none⟩ = some (.int .i64 (m.getD i 0 : Nat)) := by
  have := (h.cell (i := i) hi).2
  rw [Nat.zero_add, cs_getD] at this
  exact this

set_option maxRecDepth 100000 in
set_option maxHeartbeats 2000000 in
theorem least_zero (P kb : Nat) (hOf : OfOk P kb) : LeOk P kb 0 := by
    intro ps hps _ m hm hpm w F Ml hK g c hg hR b off pc _ _ hRp
    obtain rfl : ps = [] := List.eq_nil_of_length_eq_zero hps
    have hpm' : pip m < P := by rcases hpm with h | h; exact h; omega
    have HC := hide (hOf m hm hpm' w F Ml hK g c hg hR)
    have HV : Hid (rfL [] m = v7 m) := hide (by rw [rfL])
    have hcm := hR.max
    have hcn := hR.cap
    have hpx := hRp.max
    unfold maxLen at hcm hpx
    have HR := hide hR
    have HG := hide (far_ge m)
    have hm3 := hide (fun i (hi : i < 6) => (row_facts hm).2.2.2 _ (getD_mem (zs := cs m) (k := i) (by rw [cs, List.length_map, (row_facts hm).2.1]; exact hi)))
    clear hOf hK hR hRp hpm hpm' hm hg
    go_enter Try.func64, Try.ntmps64
    go_wp2_with fail
    go_loopw [7, 8] (fun u v wr => ∃ i : Nat, u = .int .i64 (far m i) ∧ v = .int .i64 i ∧ i ≤ 6 ∧ wr = w) (fun _ v _ => 6 - (intOf v).toNat)
    case atStart => exact ⟨0, by rw [far_zero], rfl, by omega, rfl⟩
    case round =>
      obtain ⟨i, rfl, rfl, hi6, rfl⟩ := hrel
      by_cases hi : i < 6
      · have hi' : (i : Int) < 6 := by omega
        have hc := HR.out.at6 hi
        have HFS := hide (far_succ m i)
        generalize m.getD i 0 = x at *
        by_cases hx : 0 < x
        · have hx' : (0 : Int) < (x : Int) := by omega
          rw [if_pos hx] at HFS
          go_wp2_with fail
          exact ⟨⟨i + 1, by rw [HFS.out], by congr 1, by omega, trivial⟩, by simp [intOf]; omega⟩
        · have hx' : ¬ (0 : Int) < (x : Int) := by omega
          rw [if_neg hx] at HFS
          go_wp2_with fail
          exact ⟨⟨i + 1, by rw [HFS.out], by congr 1, by omega, trivial⟩, by simp [intOf]; omega⟩
      · have hi' : ¬ (i : Int) < 6 := by omega
        have hie : i = 6 := by omega
        subst hie
        by_cases hf : far m 6 < 0
        · generalize far m 6 = fr at *
          go_wp2_with fail
          refine HC.out.mono ?_
          rintro e w2 ⟨rfl, hw⟩
          have HW := hide hw
          clear hw HC
          go_wp2_with fail
          go_ret
          exact ⟨by rw [HV.out]; rfl, HW.out⟩
        · generalize far m 6 = fr at *
          go_wp2_with fail
          refine HC.out.mono ?_
          rintro e w2 ⟨rfl, hw⟩
          have HW := hide hw
          clear hw HC
          go_wp2_with fail
          go_ret
          exact ⟨by rw [HV.out]; rfl, HW.out⟩

end Go.Proofs.Ytmboikpcbkiepaa
