/-
  What crib.scoreOverAll answers: the sum over all start cards. No conditions beyond those that each theorem bears.
-/
import Derived.Test.YtneafmjbekafmaaOrdMath
import Derived.Test.YtneafmjbekafmaaRuns
namespace Go.Proofs.Ytneafmjbekafmaa
open Go.RowKit Go.Shelf

/-- The sum over the first k start cards. -/
def sumSc (L S : List Nat) : Nat → Nat
  | 0 => 0
  | k + 1 => sumSc L S k + scN L (S.getD k 0) false

/-- A hand of four, and start cards that are none of them. -/
structure Four (L S : List Nat) : Prop where
  len : L.length = 4
  lt : ∀ x ∈ L, x < 52
  start : ∀ s ∈ S, s < 52 ∧ (L ++ [s]).Nodup

theorem Four.le {L S : List Nat} (h : Four L S) {k : Nat} (hk : k < S.length) : scN L (S.getD k 0) false ≤ 29 := by
  have hm := h.start _ (mem_getD S k hk)
  refine scN_le L _ false h.len hm.2 (fun x hx => ?_)
  rcases List.mem_append.1 hx with hx | hx
  · exact h.lt x hx
  · obtain rfl := List.mem_singleton.1 hx; exact hm.1

theorem Four.sum_le {L S : List Nat} (h : Four L S) : ∀ k, k ≤ S.length → sumSc L S k ≤ 29 * k := by
  intro k
  induction k with
  | zero => intro _; simp [sumSc]
  | succ k ih =>
    intro hk
    have h1 := ih (by omega)
    have h2 := h.le (k := k) (by omega)
    rw [sumSc]; omega

set_option maxHeartbeats 1000000 in
theorem sumAll_any (a : Option Addr) (c : Nat) (ad : Option Addr) (n cs : Nat) (L S : List Nat) (h : Four L S) (hn : n ≤ 52) (w : World) (hL : Rd w a 4 c (toI L)) (hS : Rd w ad n cs (toI S)) :
    Calls Try.prog 30 #[.slice a 4 c, .slice ad n cs] w fun e w' => e = .returned (.int .i64 (sumSc L S n : Nat)) ∧ Below w.heap.size w w' := by
  have hcm := hS.max
  have hcn := hS.cap
  unfold maxLen at hcm
  have hSl : Hid (S.length = n) := hide (by have := hS.len; rwa [toI_length] at this)
  have HL := hide hL
  have HS := hide hS
  have HF := hide h
  clear hL hS h
  go_enter Try.func30, Try.ntmps30
  go_wp2
  go_loopw [5, 10] (fun s v wr => ∃ k : Nat, k ≤ n ∧ v = .int .i64 k ∧ s = .int .i64 (sumSc L S k : Nat) ∧ Hid (Below w.heap.size w wr)) (fun _ v _ => n - (intOf v).toNat)
  case atStart => exact ⟨0, by omega, rfl, rfl, Below.refl _ _⟩
  case round =>
    obtain ⟨k, hk, rfl, rfl, hB⟩ := hrel
    have hs := HF.out.sum_le k (by rw [hSl.out]; exact hk)
    by_cases hlt : k < n
    · have hlt' : (k : Int) < (n : Int) := by omega
      obtain ⟨b, off, ha, hc⟩ := HS.out.cells (by omega)
      subst ha
      have r0 := hc k hlt
      rw [toI_getD] at r0
      have r1 : wr.cell? ⟨b, off + k, none⟩ = _ := (hB.out.cell (p := ⟨b, off + k, none⟩) (World.block_lt_of_cell? w _ r0)).trans r0
      have hkl : k < S.length := by rw [hSl.out]; exact hlt
      have h29 := HF.out.le hkl
      have hm := HF.out.start _ (mem_getD S k hkl)
      have hSS : Hid (sumSc L S (k + 1) = sumSc L S k + scN L (S.getD k 0) false) := rfl
      obtain ⟨x, hx⟩ : ∃ x, S.getD k 0 = x := ⟨_, rfl⟩
      rw [hx] at r1 h29 hm hSS
      have SC := hide (score_any a c L HF.out.len HF.out.lt x hm.1 false wr (HL.out.mono hB.out))
      obtain ⟨y, hy⟩ : ∃ y, scN L x false = y := ⟨_, rfl⟩
      rw [hy] at SC h29 hSS
      clear hx hy hc r0 hkl hm
      go_wp2_with fail
      refine SC.out.mono ?_
      rintro e w2 ⟨rfl, hB2⟩
      have HB2 := hide (hB.out.trans (hB2.mono hB.out.size))
      clear hB2 SC
      go_wp2
      go_roundw
      case rel => exact ⟨k + 1, by omega, by go_num, by rw [hSS.out]; go_num, HB2.out⟩
      case measure => simp [intOf]; omega
    · obtain rfl : k = n := by omega
      have hlt' : ¬ (k : Int) < (k : Int) := by omega
      go_wp2
      go_ret
      exact ⟨rfl, hB.out⟩

end Go.Proofs.Ytneafmjbekafmaa
