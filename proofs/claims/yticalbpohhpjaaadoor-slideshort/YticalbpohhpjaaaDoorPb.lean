/-
  Two that change places turn odd into even; so does a move, and the gap's way with it. No conditions beyond those that each theorem bears.
-/
import Derived.Test.YticalbpohhpjaaaDoorNt
namespace Go.Proofs.YticalbpohhpjaaaDoor
open Go.RowKit

/-- Two change places. -/
def swp (L : List Int) (i j : Nat) : List Int := (L.set i (L.getD j 0)).set j (L.getD i 0)

theorem swp_length (L : List Int) (i j : Nat) : (swp L i j).length = L.length := by simp [swp]

theorem swp_at {L : List Int} {n i j : Nat} (hn : L.length = n) (hi : i < n) (hj : j < n) (k : Nat) : (swp L i j).getD k 0 = if k = j then L.getD i 0 else if k = i then L.getD j 0 else L.getD k 0 := by
  unfold swp
  rw [getD_set _ _ _ _ (by simp; omega), getD_set _ _ _ _ (by omega)]

theorem swp_ord {L : List Int} {n i j : Nat} (ho : IsOrd L) (hn : L.length = n) (hi : i < n) (hj : j < n) : IsOrd (swp L i j) := by
  refine isOrd_of_all _ fun v hv => ?_
  rw [swp_length, hn] at hv
  have hmem : ∀ p, p < n → (swp L i j).getD p 0 ∈ swp L i j := fun p hp => getD_mem (by rw [swp_length]; omega)
  obtain ⟨p, -, hp, e⟩ := ix_ord ho hn hv
  by_cases h1 : p = i
  · have := hmem j hj
    rw [h1] at e
    rw [swp_at hn hi hj, if_pos rfl, e] at this
    exact this
  · by_cases h2 : p = j
    · have := hmem i hi
      rw [h2] at e h1
      rw [swp_at hn hi hj, if_neg (fun x => h1 x.symm), if_pos rfl, e] at this
      exact this
    · have := hmem p hp
      rw [swp_at hn hi hj, if_neg h2, if_neg h1, e] at this
      exact this

theorem ident_ord (n : Nat) : IsOrd (ident n) := by
  refine isOrd_of_all _ fun i hi => ?_
  rw [ident_length] at hi
  exact (mem_ident n i).2 ⟨by omega, by omega⟩

theorem swp_tab4 : ∀ i < 4, ∀ j < 4, i ≠ j → pairs (swp (ident 4) i j) % 2 = 1 := by decide +kernel
theorem swp_tab6 : ∀ i < 6, ∀ j < 6, i ≠ j → pairs (swp (ident 6) i j) % 2 = 1 := by decide +kernel
theorem swp_tab9 : ∀ i < 9, ∀ j < 9, i ≠ j → pairs (swp (ident 9) i j) % 2 = 1 := by decide +kernel

theorem pairs_swp {L : List Int} {n i j : Nat} (ho : IsOrd L) (hn : L.length = n) (h : n = 4 ∨ n = 6 ∨ n = 9) (hi : i < n) (hj : j < n) (hne : i ≠ j) : (pairs (swp L i j) % 2 = 1 ↔ pairs L % 2 = 0) := by
  have ht : pairs (swp (ident n) i j) % 2 = 1 := by
    rcases h with rfl | rfl | rfl
    · exact swp_tab4 i hi j hj hne
    · exact swp_tab6 i hi j hj hne
    · exact swp_tab9 i hi j hj hne
  have h := pairs_mul L (swp (ident n) i j) (swp L i j) ho (swp_ord (ident_ord n) (ident_length n) hi hj) (by rw [swp_length, ident_length, hn]) (by rw [swp_length, swp_length, ident_length, hn]) (fun k hk => by
    rw [swp_length, ident_length] at hk
    rw [swp_at hn hi hj, swp_at (ident_length n) hi hj, ident_get n i hi, ident_get n j hj, ident_get n k hk]
    by_cases h1 : k = j
    · rw [if_pos h1, if_pos h1, Int.toNat_natCast]
    · rw [if_neg h1, if_neg h1]
      by_cases h2 : k = i
      · rw [if_pos h2, if_pos h2, Int.toNat_natCast]
      · rw [if_neg h2, if_neg h2, Int.toNat_natCast])
  unfold signN at h
  rw [if_neg (by omega : ¬ pairs (swp (ident n) i j) % 2 = 0)] at h
  revert h
  (repeat' split) <;> simp_all <;> omega

theorem hms_swp {zs : List Int} {n i j : Nat} (hn : zs.length = n) (hi : i < n) (hj : j < n) : hms (swp zs i j) n = swp (hms zs n) i j := by
  have e : ∀ p, p < n → (hms (swp zs i j) n).getD p 0 = (swp (hms zs n) i j).getD p 0 := by
    intro p hp
    rw [swp_at (hms_length zs n) hi hj, hms_at _ n p hp, hms_at zs n i hi, hms_at zs n j hj, hms_at zs n p hp]
    unfold hom
    rw [swp_at hn hi hj]
    by_cases h1 : p = j
    · rw [if_pos h1, if_pos h1]
    · rw [if_neg h1, if_neg h1]
      by_cases h2 : p = i
      · rw [if_pos h2, if_pos h2]
      · rw [if_neg h2, if_neg h2]
  apply List.ext_getElem (by rw [hms_length, swp_length, hms_length])
  intro p h1 h2
  have := e p (by rw [hms_length] at h1; exact h1)
  simpa [List.getD, h1, h2] using this

/-- Can it be brought home? -/
def canZ (zs : List Int) (W n g : Nat) : Bool := decide (pairs (hms zs n) % 2 = dst W g (hom zs n g) % 2)

theorem can_swap {zs : List Int} {W n g i j : Nat} (ho : IsOrd zs) (hn : zs.length = n) (h : n = 4 ∨ n = 6 ∨ n = 9) (hi : i < n) (hj : j < n) (hne : i ≠ j) (hg : g < n) (hz : zs.getD g 0 = 0) (hgi : g ≠ i) (hgj : g ≠ j) :
    canZ (swp zs i j) W n g = !canZ zs W n g := by
  have hz2 : (swp zs i j).getD g 0 = 0 := by rw [swp_at hn hi hj, if_neg hgj, if_neg hgi, hz]
  unfold canZ
  rw [hms_swp hn hi hj, hom_gap (by omega) hz, hom_gap (by omega) hz2]
  have := pairs_swp (hms_ord ho hn) (hms_length zs n) h hi hj hne
  generalize pairs (swp (hms zs n) i j) = A at *
  generalize pairs (hms zs n) = B at *
  generalize dst W g (n - 1) = D
  rw [Bool.eq_iff_iff, Bool.not_eq_true', decide_eq_true_iff, decide_eq_false_iff_not]
  omega

theorem mvl_swp {Z : List Int} {g q : Nat} (hz : Z.getD g 0 = 0) : mvl Z g q = swp Z g q := by
  unfold mvl swp
  rw [hz]

theorem frm_place {W H g m q : Nat} (hW : 2 ≤ W) (h : cmv W H g m = true) (hq : frm W H g m = q) : ((q % W : Nat) : Int) = ((g % W : Nat) : Int) + stab.getD (2 * m) 0 ∧ ((q / W : Nat) : Int) = ((g / W : Nat) : Int) + stab.getD (2 * m + 1) 0 := by
  have hin := of_decide_eq_true h
  rw [frm_eq h] at hq
  obtain ⟨h1, h2, h3, h4⟩ := hin
  obtain ⟨x, hx⟩ := Int.eq_ofNat_of_zero_le h1
  obtain ⟨y, hy⟩ := Int.eq_ofNat_of_zero_le h3
  rw [hx] at h2 hq ⊢
  rw [hy] at h4 hq ⊢
  have e : q = x + W * y := by
    have : ((y * W + x : Nat) : Int) = (q : Int) := by rw [← hq]; push_cast; rfl
    rw [Nat.mul_comm W y]
    omega
  subst e
  rw [Nat.add_mul_mod_self_left, Nat.add_mul_div_left _ _ (by omega), Nat.mod_eq_of_lt (by omega), Nat.div_eq_of_lt (by omega)]
  exact ⟨rfl, by simp⟩

theorem stab_one {m : Nat} (hm : m < 4) : (stab.getD (2 * m) 0 + stab.getD (2 * m + 1) 0 = 1) ∨ (stab.getD (2 * m) 0 + stab.getD (2 * m + 1) 0 = -1) := by
  match m, hm with
  | 0, _ => decide
  | 1, _ => decide
  | 2, _ => decide
  | 3, _ => decide
  | m + 4, h => omega

theorem dst_last {W H n p : Nat} (hW : 2 ≤ W) (hH : 2 ≤ H) (hN : W * H = n) (hp : p < n) : (dst W p (n - 1) : Int) = ((W : Int) - 1 - (p % W : Nat)) + ((H : Int) - 1 - (p / W : Nat)) := by
  obtain ⟨e1, e2⟩ := last_mod hW hH hN
  have hX : p % W < W := Nat.mod_lt _ (by omega)
  have hY : p / W < H := Nat.div_lt_of_lt_mul (by omega)
  unfold dst
  rw [e1, e2]
  generalize p % W = X at *
  generalize p / W = Y at *
  omega

theorem can_move {zs : List Int} {W H n g m q : Nat} (hW : 2 ≤ W) (hH : 2 ≤ H) (hN : W * H = n) (ho : IsOrd zs) (hn : zs.length = n) (h : n = 4 ∨ n = 6 ∨ n = 9) (hg : g < n) (hz : zs.getD g 0 = 0) (hm : m < 4) (hc : cmv W H g m = true) (hq : frm W H g m = q) (hqn : q < n) :
    canZ (mvl zs g q) W n q = canZ zs W n g := by
  have hne := frm_ne hW hm hc hq
  have hz2 : (mvl zs g q).getD q 0 = 0 := by rw [mvl_at hn hg hqn, if_pos rfl]
  unfold canZ
  rw [hom_gap (by omega) hz, hom_gap (by omega) hz2, mvl_swp hz, hms_swp hn hg hqn]
  have := pairs_swp (hms_ord ho hn) (hms_length zs n) h hg hqn (fun e => hne e.symm)
  have d1 := dst_last hW hH hN hg
  have d2 := dst_last hW hH hN hqn
  obtain ⟨p1, p2⟩ := frm_place hW hc hq
  have hs := stab_one hm
  generalize pairs (swp (hms zs n) g q) = A at *
  generalize pairs (hms zs n) = B at *
  generalize dst W g (n - 1) = D1 at *
  generalize dst W q (n - 1) = D2 at *
  generalize stab.getD (2 * m) 0 = dx at *
  generalize stab.getD (2 * m + 1) 0 = dy at *
  rw [p1, p2] at d2
  generalize g % W = X at *
  generalize g / W = Y at *
  rw [decide_eq_decide]
  omega

end Go.Proofs.YticalbpohhpjaaaDoor
