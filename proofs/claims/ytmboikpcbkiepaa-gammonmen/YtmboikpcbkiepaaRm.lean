/-
  What the document's RollsMay answers. No conditions beyond those that each theorem bears.
-/
import Derived.Test.YtmboikpcbkiepaaDv
import Derived.Test.YtmboikpcbkiepaaMay
namespace Go.Proofs.Ytmboikpcbkiepaa
open Go.RowKit

/-- What men may not be. -/
def rmE (L : List Int) : Int := if 6 < L.length then 2 else if L.any (fun x => decide (x < 0)) = true then 3 else if 3 < L.sum then 11 else 0

theorem sum_ge (L : List Int) (h : ∀ z ∈ L, 0 ≤ z) : 0 ≤ L.sum ∧ ∀ z ∈ L, z ≤ L.sum := by
  induction L with
  | nil => exact ⟨by simp, fun z hz => by cases hz⟩
  | cons x L ih =>
    obtain ⟨h1, h2⟩ := ih (fun z hz => h z (List.mem_cons_of_mem _ hz))
    have hx := h x List.mem_cons_self
    rw [List.sum_cons]
    refine ⟨by omega, fun z hz => ?_⟩
    rcases List.mem_cons.1 hz with rfl | hz
    · omega
    · have := h2 z hz
      omega

set_option maxHeartbeats 2000000 in
theorem RollsMay_any (a : Option Addr) (n c : Nat) (L : List Int) (w : World) (h : Rd w a n c L) :
    Calls Try.prog 19 #[.slice a n c] w fun e w' => e = .returned (.int .i64 (rmE L)) ∧ w' = w := by
  have hLl := h.len
  have hcm := h.max
  have hcn := h.cap
  unfold maxLen at hcm
  have HR := hide h
  have HL := hide hLl
  obtain ⟨E, hE⟩ : ∃ E, rmE L = E := ⟨_, rfl⟩
  rw [hE]
  by_cases h6 : 6 < n
  · have h6' : (6 : Int) < (n : Int) := by omega
    have HE : Hid (E = 2) := hide (by rw [← hE, rmE, if_pos (by omega)])
    clear h hLl hE
    go_enter Try.func19, Try.ntmps19
    go_wp2
    go_ret
    exact ⟨by rw [HE.out]; rfl, rfl⟩
  · have h6' : ¬ (6 : Int) < (n : Int) := by omega
    have HE : Hid (E = if L.any (fun x => decide (x < 0)) = true then 3 else if 3 < L.sum then 11 else 0) := hide (by rw [← hE, rmE, if_neg (by omega)])
    clear h hLl hE
    go_enter Try.func19, Try.ntmps19
    go_wp2
    go_loopw [3] (fun v wr => ∃ k : Nat, v = .int .i64 k ∧ k ≤ n ∧ Hid (∀ j, j < k → 0 ≤ L.getD j 0) ∧ wr = w) (fun v _ => n - (intOf v).toNat)
    case atStart => exact ⟨0, rfl, by omega, fun j hj => by omega, rfl⟩
    case round =>
      obtain ⟨k, rfl, hk, hA, hwr⟩ := hrel
      subst wr
      by_cases hlt : k < n
      · have hlt' : (k : Int) < (n : Int) := by omega
        obtain ⟨b, off, ha, hc⟩ := HR.out.cells (by omega)
        subst ha
        have r1 := hc k hlt
        obtain ⟨x, hx⟩ : ∃ x, L.getD k 0 = x := ⟨_, rfl⟩
        rw [hx] at r1
        clear hc
        by_cases hx0 : x < 0
        · have HE2 : Hid (E = 3) := hide (by
            rw [HE.out, if_pos]
            rw [List.any_eq_true]
            exact ⟨x, by rw [← hx]; simp [List.getD, HL.out, hlt], by simpa using hx0⟩)
          clear hx
          go_wp2
          go_ret
          exact ⟨by rw [HE2.out]; rfl, rfl⟩
        · have HX := hide hx
          clear hx
          go_wp2
          refine ⟨⟨k + 1, by go_num, by omega, fun j hj => ?_, by trivial⟩, by simp [intOf]; omega⟩
          rcases (show j < k ∨ j = k by omega) with hj | rfl
          · exact hA.out j hj
          · rw [HX.out]; omega
      · have hge : ¬ (k : Int) < (n : Int) := by omega
        obtain rfl : k = n := by omega
        have hall : ∀ z ∈ L, 0 ≤ z := by
          intro z hz
          obtain ⟨j, hj, e⟩ := List.getElem_of_mem hz
          have := hA.out j (by rw [← HL.out]; exact hj)
          simpa [List.getD, hj, e] using this
        have HE2 : Hid (E = if 3 < L.sum then 11 else 0) := hide (by
          rw [HE.out, if_neg]
          rw [List.any_eq_true]
          rintro ⟨z, hz, h1⟩
          have := hall z hz
          have h2 : z < 0 := by simpa using h1
          omega)
        have HALL := hide hall
        clear hall hA HE
        go_wp2
        go_loopw [4, 5] (fun u v wr => ∃ (j : Nat) (s : Int), v = .int .i64 j ∧ u = .int .i64 s ∧ j ≤ k ∧ 0 ≤ s ∧ s ≤ 3 * (j : Int) ∧ Hid (s = (L.take j).sum) ∧ wr = w) (fun _ v _ => k - (intOf v).toNat)
        case atStart => exact ⟨0, 0, rfl, rfl, by omega, by omega, by omega, by simp [Hid], rfl⟩
        case round =>
          obtain ⟨j, s, rfl, rfl, hj, hs0, hs1, hs, hwr⟩ := hrel
          subst wr
          by_cases hlt : j < k
          · have hlt' : (j : Int) < (k : Int) := by omega
            obtain ⟨b, off, ha, hc⟩ := HR.out.cells (by omega)
            subst ha
            have r1 := hc j hlt
            obtain ⟨x, hx⟩ : ∃ x, L.getD j 0 = x := ⟨_, rfl⟩
            rw [hx] at r1
            have hxm : x ∈ L := by rw [← hx]; simp [List.getD, HL.out, hlt]
            have hx0 := HALL.out x hxm
            have hxs := (sum_ge L HALL.out).2 x hxm
            clear hc
            by_cases hx3 : 3 < x
            · have HE3 : Hid (E = 11) := hide (by rw [HE2.out, if_pos (by omega)])
              clear hx hxs
              go_wp2
              go_ret
              exact ⟨by rw [HE3.out]; rfl, rfl⟩
            · have HS2 : Hid (s + x = (L.take (j + 1)).sum) := hide (by rw [sum_take L j (by rw [HL.out]; exact hlt), ← hs.out, hx])
              clear hx hxs
              go_wp2
              exact ⟨⟨j + 1, s + x, by go_num, by go_num, by omega, by omega, by omega, HS2.out, by trivial⟩, by simp [intOf]; omega⟩
          · have hge : ¬ (j : Int) < (k : Int) := by omega
            obtain rfl : j = k := by omega
            have hsum : Hid (s = L.sum) := hide (by rw [hs.out, ← HL.out, List.take_length])
            by_cases h3 : 3 < s
            · have HE3 : Hid (E = 11) := hide (by rw [HE2.out, ← hsum.out, if_pos h3])
              go_wp2
              go_ret
              exact ⟨by rw [HE3.out]; rfl, rfl⟩
            · have HE3 : Hid (E = 0) := hide (by rw [HE2.out, ← hsum.out, if_neg h3])
              go_wp2
              go_ret
              exact ⟨by rw [HE3.out]; rfl, rfl⟩

end Go.Proofs.Ytmboikpcbkiepaa
