/-
  Where a number stands in a row; is a row an order; an order's sign; rows and boards compared and copied. No conditions beyond those that each theorem bears.
-/
import Derived.Test.YticalbpohhpjaaaDoorOm
namespace Go.Proofs.YticalbpohhpjaaaDoor
open Go.RowKit

/-- Where a number stands first, or -1. -/
def ix (zs : List Int) (v : Int) : Int := if v ∈ zs then (zs.idxOf v : Int) else -1

theorem idx_le {zs : List Int} {v : Int} {k : Nat} (hk : k < zs.length) (hv : zs.getD k 0 = v) : zs.idxOf v ≤ k := by
  induction zs generalizing k with
  | nil => simp at hk
  | cons z zs ih =>
    by_cases h : z = v
    · subst h; simp
    · cases k with
      | zero => exact absurd hv h
      | succ k =>
        have := ih (k := k) (by simpa using hk) (by simpa using hv)
        have hb : (z == v) = false := by simpa using h
        rw [List.idxOf_cons, hb]
        simpa using this

theorem ix_found {zs : List Int} {v : Int} {k : Nat} (hk : k < zs.length) (hv : zs.getD k 0 = v) (hn : ∀ i, i < k → zs.getD i 0 ≠ v) : ix zs v = k := by
  have hm : v ∈ zs := by rw [← hv]; exact getD_mem hk
  have hl := List.idxOf_lt_length_of_mem hm
  have hg : zs[zs.idxOf v] = v := List.getElem_idxOf hl
  unfold ix
  rw [if_pos hm]
  rcases Nat.lt_trichotomy (zs.idxOf v) k with h | h | h
  · exact absurd (by simp [List.getD, hl]) (hn _ h)
  · rw [h]
  · have := idx_le hk hv
    omega

theorem ix_none {zs : List Int} {v : Int} (hn : ∀ i, i < zs.length → zs.getD i 0 ≠ v) : ix zs v = -1 := by
  unfold ix
  rw [if_neg]
  intro hm
  obtain ⟨i, hi, e⟩ := List.getElem_of_mem hm
  exact hn i hi (by simp [List.getD, hi, e])

theorem ix_mem {zs : List Int} {v : Int} : 0 ≤ ix zs v ↔ v ∈ zs := by
  unfold ix; split <;> simp_all

theorem ix_at {zs : List Int} {v : Int} (h : v ∈ zs) : ∃ k : Nat, ix zs v = k ∧ k < zs.length ∧ zs.getD k 0 = v := by
  have hl := List.idxOf_lt_length_of_mem h
  refine ⟨zs.idxOf v, by unfold ix; rw [if_pos h], hl, ?_⟩
  simp [List.getD, hl]

theorem at_any (a : Option Addr) (n c : Nat) (zs : List Int) (v : Int) (w : World) (h : Rd w a n c zs) :
    Calls Tryd.prog 35 #[.slice a n c, .int .i64 v] w fun e w' => e = .returned (.int .i64 (ix zs v)) ∧ w' = w := by
  have hcm := h.max
  have hcn := h.cap
  unfold maxLen at hcm
  have HLEN := hide h.len
  by_cases h0 : n = 0
  · subst h0
    have HV : Hid (ix zs v = -1) := hide (ix_none fun i hi => by have := HLEN.out; omega)
    go_enter Tryd.func35, Tryd.ntmps35
    go_wp2
    refine wp_loop_rounds 1 ?_
    rw [rounds_succ]
    go_wp2
    go_ret
    exact ⟨ret_int HV.out.symm, rfl⟩
  obtain ⟨b, off, rfl, hc⟩ := h.cells (by omega)
  have HC := hide hc
  clear h hc
  go_enter Tryd.func35, Tryd.ntmps35
  go_wp2
  go_loop [5] (fun s => ∃ k : Nat, k ≤ n ∧ s = .int .i64 k ∧ Hid (∀ i, i < k → zs.getD i 0 ≠ v)) (fun d => n - (intOf d).toNat)
  case atStart => exact ⟨0, by omega, rfl, hide (fun i hi => absurd hi (by omega))⟩
  case round =>
    obtain ⟨k, hk, rfl, hall⟩ := hrel
    by_cases hlt : k < n
    · have r1 := HC.out k hlt
      have hlt' : (k : Int) < (n : Int) := by omega
      by_cases hv : zs.getD k 0 = v
      · have HV := hide (ix_found (by have := HLEN.out; omega) hv hall.out)
        have hb : ((zs[k]?.getD 0) == v) = true := by simpa using hv
        clear hv
        go_wp2
        go_ret
        exact ⟨ret_int HV.out.symm, rfl⟩
      · have HN : Hid (∀ i, i < k + 1 → zs.getD i 0 ≠ v) := hide (fun i hi => by
          by_cases e : i = k
          · subst e; exact hv
          · exact hall.out i (by omega))
        have hb : ((zs[k]?.getD 0) == v) = false := by simpa using hv
        clear hv
        go_wp2
        go_round
        case rel => exact ⟨k + 1, by omega, by go_num, HN⟩
        case measure => simp [intOf]; omega
    · have hlt' : ¬ (k : Int) < (n : Int) := by omega
      have HV := hide (ix_none (zs := zs) (v := v) fun i hi => hall.out i (by have := HLEN.out; omega))
      go_wp2
      go_ret
      exact ⟨ret_int HV.out.symm, rfl⟩

theorem Index_any (a : Option Addr) (n c : Nat) (zs : List Int) (v : Int) (w : World) (h : Rd w a n c zs) :
    Calls Tryd.prog 50 #[.slice a n c, .int .i64 v] w fun e w' => e = .returned (.int .i64 (ix zs v)) ∧ w' = w := by
  have hcm := h.max
  have hcn := h.cap
  unfold maxLen at hcm
  have HLEN := hide h.len
  by_cases h0 : n = 0
  · subst h0
    have HV : Hid (ix zs v = -1) := hide (ix_none fun i hi => by have := HLEN.out; omega)
    go_enter Tryd.func50, Tryd.ntmps50
    go_wp2
    refine wp_loop_rounds 1 ?_
    rw [rounds_succ]
    go_wp2
    go_ret
    exact ⟨ret_int HV.out.symm, rfl⟩
  obtain ⟨b, off, rfl, hc⟩ := h.cells (by omega)
  have HC := hide hc
  clear h hc
  go_enter Tryd.func50, Tryd.ntmps50
  go_wp2
  go_loop [8] (fun s => ∃ k : Nat, k ≤ n ∧ s = .int .i64 k ∧ Hid (∀ i, i < k → zs.getD i 0 ≠ v)) (fun d => n - (intOf d).toNat)
  case atStart => exact ⟨0, by omega, rfl, hide (fun i hi => absurd hi (by omega))⟩
  case round =>
    obtain ⟨k, hk, rfl, hall⟩ := hrel
    by_cases hlt : k < n
    · have r1 := HC.out k hlt
      have hlt' : (k : Int) < (n : Int) := by omega
      by_cases hv : zs.getD k 0 = v
      · have HV := hide (ix_found (by have := HLEN.out; omega) hv hall.out)
        have hb : (v == (zs[k]?.getD 0)) = true := by rw [beq_iff_eq]; simpa using hv.symm
        clear hv
        go_wp2
        go_ret
        exact ⟨ret_int HV.out.symm, rfl⟩
      · have HN : Hid (∀ i, i < k + 1 → zs.getD i 0 ≠ v) := hide (fun i hi => by
          by_cases e : i = k
          · subst e; exact hv
          · exact hall.out i (by omega))
        have hb : (v == (zs[k]?.getD 0)) = false := by rw [beq_eq_false_iff_ne]; intro e; exact hv (by simpa using e.symm)
        clear hv
        go_wp2
        go_round
        case rel => exact ⟨k + 1, by omega, by go_num, HN⟩
        case measure => simp [intOf]; omega
    · have hlt' : ¬ (k : Int) < (n : Int) := by omega
      have HV := hide (ix_none (zs := zs) (v := v) fun i hi => hall.out i (by have := HLEN.out; omega))
      go_wp2
      go_ret
      exact ⟨ret_int HV.out.symm, rfl⟩

theorem Contains_any (a : Option Addr) (n c : Nat) (zs : List Int) (v : Int) (w : World) (h : Rd w a n c zs) :
    Calls Tryd.prog 27 #[.slice a n c, .int .i64 v] w fun e w' => e = .returned (.bool (decide (v ∈ zs))) ∧ w' = w := by
  have HM : Hid (decide (0 ≤ ix zs v) = decide (v ∈ zs)) := hide (by rw [decide_eq_decide]; exact ix_mem)
  go_enter Tryd.func27, Tryd.ntmps27
  go_wp2_with fail
  refine (Index_any a n c zs v _ h).mono ?_
  rintro e wx ⟨rfl, hwx⟩
  subst wx
  generalize ix zs v = y at *
  go_wp2_with fail
  go_ret
  exact ⟨ret_bool HM.out, rfl⟩

theorem size_any (x : Int) (w : World) (h1 : -1000 ≤ x) (h2 : x ≤ 1000) :
    Calls Tryd.prog 38 #[.int .i64 x] w fun e w' => e = .returned (.int .i64 (x.natAbs : Int)) ∧ w' = w := by
  by_cases h : x < 0
  · go_enter Tryd.func38, Tryd.ntmps38
    go_wp2
    go_ret
    exact ⟨ret_int (by omega), rfl⟩
  · go_enter Tryd.func38, Tryd.ntmps38
    go_wp2
    go_ret
    exact ⟨ret_int (by omega), rfl⟩

theorem isSide_any (x : Int) (w : World) : Calls Tryd.prog 26 #[.int .i64 x] w fun e w' => e = .returned (.bool (decide (2 ≤ x ∧ x ≤ 5))) ∧ w' = w := by
  by_cases h1 : 2 ≤ x
  · by_cases h2 : x ≤ 5
    · go_enter Tryd.func26, Tryd.ntmps26
      go_wp2
      go_ret
      exact ⟨ret_bool (by simp [h1, h2]), rfl⟩
    · go_enter Tryd.func26, Tryd.ntmps26
      go_wp2
      go_ret
      exact ⟨ret_bool (by simp [h2]), rfl⟩
  · go_enter Tryd.func26, Tryd.ntmps26
    go_wp2
    go_ret
    exact ⟨ret_bool (by simp; omega), rfl⟩

theorem within_any (x lo hi : Int) (w : World) : Calls Tryd.prog 33 #[.int .i64 x, .int .i64 lo, .int .i64 hi] w fun e w' => e = .returned (.bool (decide (lo ≤ x ∧ x ≤ hi))) ∧ w' = w := by
  by_cases h1 : lo ≤ x
  · by_cases h2 : x ≤ hi
    · go_enter Tryd.func33, Tryd.ntmps33
      go_wp2
      go_ret
      exact ⟨ret_bool (by simp [h1, h2]), rfl⟩
    · go_enter Tryd.func33, Tryd.ntmps33
      go_wp2
      go_ret
      exact ⟨ret_bool (by simp [h2]), rfl⟩
  · go_enter Tryd.func33, Tryd.ntmps33
    go_wp2
    go_ret
    exact ⟨ret_bool (by simp; omega), rfl⟩

theorem OrderIs_any (a : Option Addr) (n c : Nat) (zs : List Int) (w : World) (h : Rd w a n c zs) (ok : Bool) (hok : ok = true ↔ ∀ i, i < n → (i : Int) ∈ zs) :
    Calls Tryd.prog 34 #[.slice a n c] w fun e w' => e = .returned (.bool ok) ∧ w' = w := by
  have hcm := h.max
  have hcn := h.cap
  unfold maxLen at hcm
  have HH := hide h
  have HOK := hide hok
  clear h hok
  go_enter Tryd.func34, Tryd.ntmps34
  go_wp2_with fail
  go_loopw [3] (fun s wr => ∃ k : Nat, k ≤ n ∧ s = .int .i64 k ∧ Hid (∀ i, i < k → (i : Int) ∈ zs) ∧ wr = w) (fun d _ => n - (intOf d).toNat)
  case atStart => exact ⟨0, by omega, rfl, hide (fun i hi => absurd hi (by omega)), rfl⟩
  case round =>
    obtain ⟨k, hk, rfl, hall, rfl⟩ := hrel
    by_cases hlt : k < n
    · have hlt' : (k : Int) < (n : Int) := by omega
      by_cases hv : (k : Int) ∈ zs
      · have HN : Hid (∀ i, i < k + 1 → (i : Int) ∈ zs) := hide (fun i hi => by
          by_cases e : i = k
          · subst e; exact hv
          · exact hall.out i (by omega))
        have hb : ¬ ix zs k < 0 := by have := ix_mem (zs := zs) (v := k); have := this.2 hv; omega
        go_wp2_with fail
        refine (at_any a n c zs k _ HH.out).mono ?_
        rintro e wx ⟨rfl, hwx⟩
        subst wx
        generalize ix zs k = y at *
        go_wp2_with fail
        go_roundw
        case rel => exact ⟨k + 1, by omega, by go_num, HN, by trivial⟩
        case measure => simp [intOf]; omega
      · have HF : Hid (ok = false) := hide (by
          cases ok with
          | false => rfl
          | true => exact absurd ((HOK.out.1 rfl) k hlt) hv)
        have hb : ix zs k < 0 := by have := ix_mem (zs := zs) (v := k); exact Int.not_le.1 (fun h => hv (this.1 h))
        go_wp2_with fail
        refine (at_any a n c zs k _ HH.out).mono ?_
        rintro e wx ⟨rfl, hwx⟩
        subst wx
        generalize ix zs k = y at *
        go_wp2_with fail
        go_ret
        exact ⟨ret_bool HF.out.symm, rfl⟩
    · have hlt' : ¬ (k : Int) < (n : Int) := by omega
      have HT : Hid (ok = true) := hide (HOK.out.2 fun i hi => hall.out i (by omega))
      go_wp2_with fail
      go_ret
      exact ⟨ret_bool HT.out.symm, rfl⟩

end Go.Proofs.YticalbpohhpjaaaDoor
