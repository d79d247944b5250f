/-
  The reference's search and the program's find the same: a row that a move made goes through its place; places in the one list as in the other. No conditions beyond those that each theorem bears.
-/
import Derived.Test.YthdnbbjehcicbaaDoorWinsLaw
import Derived.Test.YthdnbbjehcicbaaDoorMov
namespace Go.Proofs.YthdnbbjehcicbaaDoor
open Go.RowKit

theorem getD_set_other {Z : List Int} {p q : Nat} {x : Int} (h : p ≠ q) : (Z.set p x).getD q 0 = Z.getD q 0 := by simp [List.getD, h]
theorem getD_set_same {Z : List Int} {p : Nat} {x : Int} (h : p < Z.length) : (Z.set p x).getD p 0 = x := by simp [List.getD, h]

theorem set_zero {Z : List Int} {p q : Nat} {x : Int} (hx : x ≠ 0) (h : (Z.set p x).getD q 0 = 0) : Z.getD q 0 = 0 := by
  by_cases e : p = q
  · subst e
    by_cases hl : p < Z.length
    · rw [getD_set_same hl] at h; exact absurd h hx
    · simp [List.getD, hl]
  · rw [getD_set_other e] at h; exact h

/-- A row that is new goes through the place. -/
theorem new_row {W H k p q : Nat} {Z : List Int} {m : Int} (hW : 0 < W) (hk : 1 ≤ k) (hlen : Z.length = W * H) (hp : p < W * H) (hm : 0 < m) (hq : q < W * H) (hv : 0 < (Z.set p m).getD q 0) (hr : inR W H (Z.set p m) q k = true) :
    ((Z.set p m).getD q 0 = m ∧ inR W H (Z.set p m) p k = true) ∨ (0 < Z.getD q 0 ∧ inR W H Z q k = true) := by
  have hZp : (Z.set p m).getD p 0 = m := getD_set_same (by omega)
  obtain ⟨x, y, d, i, hx, hy, hd, hi, hrf, he⟩ := (inR_iff hW hq hk hv).1 hr
  have hpos : 0 < rf W H (Z.set p m) k x y d := by rw [hrf]; exact hv
  by_cases hin : ∃ j, j < k ∧ p = (((y : Int) + rdy d * j) * W + x + rdx d * j).toNat
  · obtain ⟨j, hj, hpj⟩ := hin
    have h1 := mark_val hj hpos
    rw [← hpj, hZp] at h1
    refine Or.inl ⟨hrf.symm.trans h1.symm, ?_⟩
    rw [inR_iff hW hp hk (by rw [hZp]; exact hm)]
    exact ⟨x, y, d, j, hx, hy, hd, hj, h1.symm.trans hZp.symm, hpj⟩
  · have hne : ∀ j : Nat, j < k → p ≠ (((y : Int) + rdy d * j) * W + x + rdx d * j).toNat := fun j hj e => hin ⟨j, hj, e⟩
    have hrow := rf_row hv hrf
    have hrow2 : Row W H Z x y (rdx d) (rdy d) k ((Z.set p m).getD q 0) := by
      intro j hj
      have h1 := hrow j hj
      have hb := cl_on (by omega) h1
      unfold cl at h1 ⊢
      rw [if_pos hb] at h1 ⊢
      rw [← h1, getD_set_other]
      have := hne j hj
      rw [Int.mul_comm _ (rdx d), Int.mul_comm _ (rdy d), ← Int.add_assoc]
      exact this
    have hZq : (Z.set p m).getD q 0 = Z.getD q 0 := getD_set_other (by rw [he]; exact hne i hi)
    rw [hZq] at hrow2 hv
    refine Or.inr ⟨hv, ?_⟩
    rw [inR_iff hW hq hk hv]
    refine ⟨x, y, d, i, hx, hy, hd, hi, ?_, he⟩
    have h0 := hrow2 0 (by omega)
    rw [Int.natCast_zero, Int.zero_mul, Int.zero_mul, Int.add_zero, Int.add_zero] at h0
    have hb := cl_on (by omega) h0
    unfold cl at h0
    rw [if_pos hb, ← Int.natCast_mul, ← Int.natCast_add, Int.toNat_natCast] at h0
    unfold rf
    rw [h0, if_pos hrow2]

/-- Whose rows lie on a board. -/
def wnZ (W H k : Nat) (Z : List Int) : Nat := wn (sg Z (prt W H Z k (W * H)))

theorem mem_prt {W H k n q : Nat} {Z : List Int} : q ∈ prt W H Z k n ↔ q < n ∧ Z.getD q 0 ≠ 0 ∧ inR W H Z q k = true := by
  unfold prt
  rw [List.mem_filter, List.mem_range, Bool.and_eq_true, bne_iff_ne]

theorem wnZ_none {W H k : Nat} {Z : List Int} (h : wnZ W H k Z = 0) {q : Nat} (hq : q < W * H) (hz : 0 < Z.getD q 0 ∧ Z.getD q 0 ≤ 2) (hr : inR W H Z q k = true) : False := by
  have hm : Z.getD q 0 ∈ sg Z (prt W H Z k (W * H)) := List.mem_map.2 ⟨q, mem_prt.2 ⟨hq, by omega, hr⟩, rfl⟩
  unfold wnZ wn at h
  rcases (show Z.getD q 0 = 1 ∨ Z.getD q 0 = 2 by omega) with e | e
  · rw [e] at hm; rw [if_pos hm] at h; omega
  · rw [e] at hm; rw [if_pos hm] at h; omega

theorem wnZ_set {W H k p m : Nat} {Z : List Int} (hW : 0 < W) (hk : 1 ≤ k) (hlen : Z.length = W * H) (hp : p < W * H) (hm : m = 1 ∨ m = 2) (hz : ∀ q, q < W * H → 0 ≤ Z.getD q 0 ∧ Z.getD q 0 ≤ 2) (h0 : wnZ W H k Z = 0) :
    wnZ W H k (Z.set p (m : Int)) = if inR W H (Z.set p (m : Int)) p k = true then m else 0 := by
  have hmi : 0 < (m : Int) := by omega
  have hZp : (Z.set p (m : Int)).getD p 0 = m := getD_set_same (by omega)
  have key : ∀ q, q < W * H → (Z.set p (m : Int)).getD q 0 ≠ 0 → inR W H (Z.set p (m : Int)) q k = true → (Z.set p (m : Int)).getD q 0 = m ∧ inR W H (Z.set p (m : Int)) p k = true := by
    intro q hq hne hr
    have hpos : 0 < (Z.set p (m : Int)).getD q 0 := by
      by_cases e : p = q
      · subst e; rw [hZp]; exact hmi
      · rw [getD_set_other e] at hne ⊢; have := (hz q hq).1; omega
    rcases new_row hW hk hlen hp hmi hq hpos hr with h | ⟨h1, h2⟩
    · exact h
    · exact (wnZ_none h0 hq ⟨h1, (hz q hq).2⟩ h2).elim
  have hall : ∀ s, s ∈ sg (Z.set p (m : Int)) (prt W H (Z.set p (m : Int)) k (W * H)) → s = m ∧ inR W H (Z.set p (m : Int)) p k = true := by
    intro s hs
    obtain ⟨q, hq, rfl⟩ := List.mem_map.1 hs
    obtain ⟨h1, h2, h3⟩ := mem_prt.1 hq
    exact key q h1 h2 h3
  by_cases hi : inR W H (Z.set p (m : Int)) p k = true
  · rw [if_pos hi]
    have hin : (m : Int) ∈ sg (Z.set p (m : Int)) (prt W H (Z.set p (m : Int)) k (W * H)) := List.mem_map.2 ⟨p, mem_prt.2 ⟨hp, by rw [hZp]; omega, hi⟩, hZp⟩
    unfold wnZ wn
    rcases hm with rfl | rfl
    · rw [if_pos (show (1 : Int) ∈ _ from hin), if_neg (fun h => by have := (hall _ h).1; omega)]
    · rw [if_neg (fun h => by have := (hall _ h).1; omega), if_pos (show (2 : Int) ∈ _ from hin)]
  · rw [if_neg hi]
    unfold wnZ wn
    rw [if_neg (fun h => hi (hall _ h).2), if_neg (fun h => hi (hall _ h).2)]

/-- What the reference answers for a mover. -/
def res (W H k : Nat) (O : List Nat) (e : Nat) (Z : List Int) (m : Nat) : Int × List Nat :=
  if wnZ W H k Z = m then (1, []) else if 0 < wnZ W H k Z then (-1, []) else bsj W H k (val W H k O (e - 1)) O Z m O.length

theorem res_bd (W H k : Nat) (O : List Nat) (e : Nat) (Z : List Int) (m : Nat) : -1 ≤ (res W H k O e Z m).1 ∧ (res W H k O e Z m).1 ≤ 1 := by
  unfold res
  split
  · simp
  · split
    · simp
    · exact bsj_bd (val_bd W H k O _) O Z m _

theorem res_set {W H k p m e : Nat} {O : List Nat} {Z : List Int} (hW : 0 < W) (hk : 1 ≤ k) (hlen : Z.length = W * H) (hp : p < W * H) (hm : m = 1 ∨ m = 2) (hz : ∀ q, q < W * H → 0 ≤ Z.getD q 0 ∧ Z.getD q 0 ≤ 2) (h0 : wnZ W H k Z = 0)
    (hO : O.Nodup) (hpO : p ∈ O) (hZ : Z.getD p 0 = 0) (he : nE O Z = e) :
    nE O (Z.set p (m : Int)) = e - 1 ∧ - (res W H k O (e - 1) (Z.set p (m : Int)) (3 - m)).1 = mvv W H k (val W H k O (e - 1)) Z m p := by
  have hn := nE_set (x := (m : Int)) hO hpO (by omega) hZ (by omega)
  have hn' : nE O (Z.set p (m : Int)) = e - 1 := by omega
  refine ⟨hn', ?_⟩
  have hw := wnZ_set hW hk hlen hp hm hz h0
  unfold res mvv
  by_cases hi : inR W H (Z.set p (m : Int)) p k = true
  · rw [if_pos hi] at hw ⊢
    rw [hw, if_neg (by omega), if_pos (by omega)]
    rfl
  · rw [if_neg hi] at hw ⊢
    rw [hw, if_neg (by omega), if_neg (by omega), val_eq hn']

/-- One place more. -/
def stp (W H k : Nat) (V : List Int → Nat → Int) (Z : List Int) (m : Nat) (r : Int × List Nat) (p : Nat) : Int × List Nat :=
  if r.2 = [] ∨ r.1 < mvv W H k V Z m p then (mvv W H k V Z m p, [p]) else if mvv W H k V Z m p = r.1 then (r.1, r.2 ++ [p]) else r

theorem bsj_fold (W H k : Nat) (V : List Int → Nat → Int) (O : List Nat) (Z : List Int) (m : Nat) : ∀ j, j ≤ O.length → bsj W H k V O Z m j = ((O.take j).filter fun p => Z.getD p 0 == 0).foldl (stp W H k V Z m) (0, [])
  | 0, _ => rfl
  | j + 1, hj => by
    have ih := bsj_fold W H k V O Z m j (by omega)
    have hg : O.getD j 0 = O[j]'(by omega) := by simp [List.getD, show j < O.length by omega]
    rw [List.take_succ_eq_append_getElem (by omega), List.filter_append, List.foldl_append, ← ih, ← hg]
    rw [bsj]
    dsimp only
    by_cases h : Z.getD (O.getD j 0) 0 = 0
    · have hb : (Z.getD (O.getD j 0) 0 == 0) = true := by rw [beq_iff_eq]; exact h
      rw [if_pos h, List.filter_cons, hb]
      rfl
    · have hb : (Z.getD (O.getD j 0) 0 == 0) = false := by rw [beq_eq_false_iff_ne]; exact h
      rw [if_neg h, List.filter_cons, hb]
      rfl

theorem filt_same {n : Nat} {Z0 Z : List Int} (h : ∀ p, Z.getD p 0 = 0 → Z0.getD p 0 = 0) : ((emp Z0 n).filter fun p => Z.getD p 0 == 0) = (List.range n).filter fun p => Z.getD p 0 == 0 := by
  unfold emp
  rw [List.filter_filter]
  refine List.filter_congr (fun p _ => ?_)
  by_cases e : Z.getD p 0 = 0
  · rw [e, h p e]; rfl
  · have hb : (Z.getD p 0 == 0) = false := by rw [beq_eq_false_iff_ne]; exact e
    rw [hb]; rfl

theorem foldl_same {α β : Type} (f g : β → α → β) : ∀ (l : List α) (b : β), (∀ x ∈ l, ∀ y, f y x = g y x) → l.foldl f b = l.foldl g b
  | [], _, _ => rfl
  | x :: l, b, h => by
    rw [List.foldl_cons, List.foldl_cons, h x (by simp)]
    exact foldl_same f g l _ (fun y hy => h y (by simp [hy]))

theorem bsj_swap {W H k n m : Nat} {V V' : List Int → Nat → Int} {Z0 Z : List Int} (h : ∀ p, Z.getD p 0 = 0 → Z0.getD p 0 = 0) (hV : ∀ p, Z.getD p 0 = 0 → V (Z.set p (m : Int)) (3 - m) = V' (Z.set p (m : Int)) (3 - m)) :
    bsj W H k V (emp Z0 n) Z m (emp Z0 n).length = bsj W H k V' (List.range n) Z m (List.range n).length := by
  rw [bsj_fold _ _ _ _ _ _ _ _ (Nat.le_refl _), bsj_fold _ _ _ _ _ _ _ _ (Nat.le_refl _), List.take_length, List.take_length, filt_same h]
  refine foldl_same _ _ _ _ (fun p hp y => ?_)
  have hz : Z.getD p 0 = 0 := by simpa using (List.mem_filter.1 hp).2
  have hm : mvv W H k V Z m p = mvv W H k V' Z m p := by unfold mvv; rw [hV p hz]
  unfold stp
  rw [hm]

theorem val_swap {W H k n : Nat} {Z0 : List Int} : ∀ (e : Nat) (Z : List Int) (m : Nat), (m = 1 ∨ m = 2) → (∀ p, Z.getD p 0 = 0 → Z0.getD p 0 = 0) → val W H k (emp Z0 n) e Z m = val W H k (List.range n) e Z m
  | 0, _, _, _, _ => rfl
  | e + 1, Z, m, hm, h => by
    rw [val, val, bsj_swap h (fun p _ => val_swap e _ _ (by omega) (fun q hq => h q (set_zero (by omega) hq)))]

/-- The two searches at their start. -/
theorem start_same {W H k n m : Nat} {Z : List Int} (hm : m = 1 ∨ m = 2) :
    bsj W H k (val W H k (emp Z n) ((emp Z n).length - 1)) (emp Z n) Z m (emp Z n).length = bsj W H k (val W H k (List.range n) (nE (List.range n) Z - 1)) (List.range n) Z m (List.range n).length := by
  have hl : (emp Z n).length = nE (List.range n) Z := rfl
  rw [← hl]
  exact bsj_swap (fun _ h => h) (fun p _ => val_swap _ _ _ (by omega) (fun q hq => set_zero (by omega) hq))

/-- What the reference keeps as the best: -2 as long as there is none. -/
def bst (r : Int × List Nat) : Int := if r.2 = [] then -2 else r.1

theorem bsj_nil (W H k : Nat) (V : List Int → Nat → Int) (O : List Nat) (Z : List Int) (m : Nat) : ∀ j, (bsj W H k V O Z m j).2 = [] → bsj W H k V O Z m j = (0, [])
  | 0, _ => rfl
  | j + 1, h => by
    have ih := bsj_nil W H k V O Z m j
    rw [bsj] at h ⊢
    dsimp only at h ⊢
    split at h
    · rename_i hz
      rw [if_pos hz]
      split at h
      · simp at h
      · split at h
        · simp at h
        · rename_i h1 h2
          exact absurd (Or.inl h) h1
    · rename_i hz
      rw [if_neg hz]
      exact ih h

end Go.Proofs.YthdnbbjehcicbaaDoor
