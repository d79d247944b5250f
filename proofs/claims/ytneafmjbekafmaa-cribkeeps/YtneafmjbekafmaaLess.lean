/-
  What the reference's order of lists answers. No conditions beyond those that each theorem bears.
-/
import Derived.Test.YtneafmjbekafmaaMay
namespace Go.Proofs.Ytneafmjbekafmaa
open Go.RowKit Go.Shelf

def lexI : List Int → List Int → Bool
  | [], [] => false
  | [], _ :: _ => true
  | _ :: _, [] => false
  | x :: xs, y :: ys => if x = y then lexI xs ys else decide (x < y)

theorem lexI_drop {xs ys : List Int} {k : Nat} (h1 : k < xs.length) (h2 : k < ys.length) :
    lexI (xs.drop k) (ys.drop k) = if xs.getD k 0 = ys.getD k 0 then lexI (xs.drop (k + 1)) (ys.drop (k + 1)) else decide (xs.getD k 0 < ys.getD k 0) := by
  rw [List.drop_eq_getElem_cons h1, List.drop_eq_getElem_cons h2, lexI]
  simp [List.getD, h1, h2]

theorem lexI_end {xs ys : List Int} {k : Nat} (h1 : k ≤ xs.length) (h2 : k ≤ ys.length) (h : ¬ (k < xs.length ∧ k < ys.length)) :
    lexI (xs.drop k) (ys.drop k) = decide (xs.length < ys.length) := by
  by_cases hx : k < xs.length
  · have hy : ¬ k < ys.length := fun hy => h ⟨hx, hy⟩
    rw [List.drop_eq_getElem_cons hx, List.drop_of_length_le (l := ys) (by omega), lexI]
    symm; simp; omega
  · rw [List.drop_of_length_le (l := xs) (by omega)]
    by_cases hy : k < ys.length
    · rw [List.drop_eq_getElem_cons hy, lexI]; symm; simp; omega
    · rw [List.drop_of_length_le (l := ys) (by omega), lexI]; symm; simp; omega

set_option maxRecDepth 100000 in
set_option maxHeartbeats 2000000 in
theorem less_any (a : Option Addr) (n c : Nat) (xs : List Int) (a2 : Option Addr) (m d : Nat) (ys : List Int) (w : World) (h : Rd w a n c xs) (h2 : Rd w a2 m d ys) :
    Calls Try.prog 31 #[.slice a n c, .slice a2 m d] w fun e w' => e = .returned (.bool (lexI xs ys)) ∧ ∃ q, w' = w.drewN q := by
  have hcm := h.max
  have hcn := h.cap
  have hcm2 := h2.max
  have hcn2 := h2.cap
  unfold maxLen at hcm hcm2
  have lx : Hid (xs.length = n) := h.len
  have ly : Hid (ys.length = m) := h2.len
  have HC1 := hide (fun h0 => h.cells h0)
  have HC2 := hide (fun h0 => h2.cells h0)
  clear h h2
  go_enter Try.func31, Try.ntmps31
  go_wp2
  go_loopw [5] (fun i wr => ∃ k q : Nat, k ≤ n ∧ k ≤ m ∧ i = .int .i64 k ∧ wr = w.drewN q ∧ Hid (lexI (xs.drop k) (ys.drop k) = lexI xs ys)) (fun i _ => n - (intOf i).toNat)
  case atStart => exact ⟨0, 0, by omega, by omega, rfl, rfl, by simp [Hid]⟩
  case round =>
    obtain ⟨k, q, hk, hkm, rfl, rfl, hq⟩ := hrel
    by_cases hlt : k < n
    · have hlt' : (k : Int) < (n : Int) := by omega
      by_cases hlm : k < m
      · have hlm' : (k : Int) < (m : Int) := by omega
        obtain ⟨b1, o1, ha1, hc1⟩ := HC1.out (by omega)
        obtain ⟨b2, o2, ha2, hc2⟩ := HC2.out (by omega)
        subst ha1 ha2
        have e1 := hc1 k hlt
        have e2 := hc2 k hlm
        clear hc1 hc2 HC1 HC2
        have HS := hide (lexI_drop (xs := xs) (ys := ys) (k := k) (by rw [lx.out]; exact hlt) (by rw [ly.out]; exact hlm))
        by_cases hv : xs.getD k 0 = ys.getD k 0
        · have hb : (xs[k]?.getD 0 != ys[k]?.getD 0) = false := by simpa using hv
          have HV := hide hv
          clear hv
          go_wp2
          go_quiet (fail)
          go_wp2
          go_roundw
          case rel => exact ⟨k + 1, _, by omega, by omega, by go_num, rfl, by have := HS.out; rw [if_pos HV.out] at this; exact this.symm.trans hq.out⟩
          case measure => simp [intOf]; omega
        · have hb : (xs[k]?.getD 0 != ys[k]?.getD 0) = true := by simpa using hv
          have HV := hide hv
          clear hv
          go_wp2
          go_quiet (fail)
          go_wp2
          go_quiet (fail)
          go_wp2
          go_ret
          refine ⟨ret_bool ?_, _, by simp only [World.drewN_drewN]; rfl⟩
          have := HS.out
          rw [if_neg HV.out] at this
          rw [← hq.out, this]
          exact decide_eq_decide.2 (by simp [List.getD])
      · have hlm' : ¬ (k : Int) < (m : Int) := by omega
        have HE := hide (lexI_end (xs := xs) (ys := ys) (k := k) (by rw [lx.out]; exact hk) (by rw [ly.out]; exact hkm) (by rw [ly.out]; omega))
        go_wp2
        go_ret
        refine ⟨ret_bool ?_, _, rfl⟩
        rw [← hq.out, HE.out, lx.out, ly.out]
    · have hlt' : ¬ (k : Int) < (n : Int) := by omega
      have HE := hide (lexI_end (xs := xs) (ys := ys) (k := k) (by rw [lx.out]; exact hk) (by rw [ly.out]; exact hkm) (by rw [lx.out]; omega))
      go_wp2
      go_ret
      refine ⟨ret_bool ?_, _, rfl⟩
      rw [← hq.out, HE.out, lx.out, ly.out]

end Go.Proofs.Ytneafmjbekafmaa
