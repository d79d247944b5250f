/-
  Orders of a tray: where things stand and where they are at home; moves keep orders; odd and even. No conditions beyond those that each theorem bears.
-/
import Derived.Test.YticalbpohhpjaaaDoorCr
namespace Go.Proofs.YticalbpohhpjaaaDoor
open Go.RowKit

theorem getD_set (l : List Int) (i j : Nat) (x : Int) (hi : i < l.length) : (l.set i x).getD j 0 = if j = i then x else l.getD j 0 := by
  by_cases h : j = i
  · subst h; simp [List.getD, hi]
  · rw [if_neg h]; simp [List.getD, show ¬ i = j from fun e => h e.symm]

theorem ix_self {zs : List Int} (ho : IsOrd zs) {p : Nat} (hp : p < zs.length) : ix zs (zs.getD p 0) = p := by
  obtain ⟨k, e, hk, hz⟩ := ix_at (getD_mem (zs := zs) hp)
  rw [e, nodup_getD ho.nodup hk hp hz]

theorem hom_next {zs : List Int} {n : Nat} (ho : IsOrd zs) (hn : zs.length = n) {p : Nat} (hp : p < n) : (((hom zs n p + 1) % n : Nat) : Int) = zs.getD p 0 := by
  have hr := ho.rng hn p hp
  unfold hom
  obtain ⟨z, hz⟩ := Int.eq_ofNat_of_zero_le hr.1
  rw [hz] at hr ⊢
  rw [Int.toNat_natCast]
  have hzn : z < n := by omega
  by_cases h0 : z = 0
  · subst h0
    rw [Nat.zero_add, Nat.mod_eq_of_lt (show n - 1 < n by omega), show n - 1 + 1 = n by omega, Nat.mod_self]
  · rw [show z + n - 1 = (z - 1) + n by omega, Nat.add_mod_right, Nat.mod_eq_of_lt (show z - 1 < n by omega), show z - 1 + 1 = z by omega, Nat.mod_eq_of_lt hzn]

theorem hom_of {zs : List Int} {n i p : Nat} (hi : i < n) (hz : zs.getD p 0 = (((i + 1) % n : Nat) : Int)) : hom zs n p = i := by
  unfold hom
  rw [hz, Int.toNat_natCast]
  by_cases h : i + 1 = n
  · rw [h, Nat.mod_self, Nat.zero_add, Nat.mod_eq_of_lt (by omega)]; omega
  · rw [Nat.mod_eq_of_lt (show i + 1 < n by omega), show i + 1 + n - 1 = i + n by omega, Nat.add_mod_right, Nat.mod_eq_of_lt hi]

theorem ord_next {zs : List Int} {n i : Nat} (ho : IsOrd zs) (hn : zs.length = n) (hi : i < n) : ∃ p : Nat, (ordL zs n).getD i 0 = p ∧ p < n ∧ hom zs n p = i := by
  obtain ⟨p, e, hp, hz⟩ := ix_ord ho hn (show (i + 1) % n < n from Nat.mod_lt _ (by omega))
  exact ⟨p, by rw [ordL_at zs n i hi, e], hp, hom_of hi hz⟩

theorem hms_ord {zs : List Int} {n : Nat} (ho : IsOrd zs) (hn : zs.length = n) : IsOrd (hms zs n) := by
  refine isOrd_of_all _ fun i hi => ?_
  rw [hms_length] at hi
  obtain ⟨p, -, hp, hh⟩ := ord_next ho hn hi
  rw [← hh, ← hms_at zs n p hp]
  exact getD_mem (by rw [hms_length]; exact hp)

theorem ordL_ord {zs : List Int} {n : Nat} (ho : IsOrd zs) (hn : zs.length = n) : IsOrd (ordL zs n) := by
  refine isOrd_of_all _ fun p hp => ?_
  rw [ordL_length] at hp
  have h := ordL_at zs n (hom zs n p) (hom_lt (by omega))
  rw [hom_next ho hn hp, ix_self ho (by omega)] at h
  rw [← h]
  exact getD_mem (by rw [ordL_length]; exact hom_lt (by omega))

theorem pairs_ident (n : Nat) : pairs (ident n) = 0 := by
  rw [pairs_eq]
  refine sumTo_zero _ _ fun i hi => sumTo_zero _ _ fun k hk => ?_
  rw [ident_length] at hi
  unfold moreI
  rw [ident_get n i hi, ident_get n k (by omega), if_neg (by omega)]

theorem sign_ord {zs : List Int} {n : Nat} (ho : IsOrd zs) (hn : zs.length = n) : signN (pairs (ordL zs n)) = signN (pairs (hms zs n)) := by
  have h := pairs_mul (hms zs n) (ordL zs n) (ident n) (hms_ord ho hn) (ordL_ord ho hn) (by rw [hms_length, ordL_length]) (by rw [ident_length, ordL_length]) (fun i hi => by
    rw [ordL_length] at hi
    obtain ⟨p, e, hp, hh⟩ := ord_next ho hn hi
    rw [e, Int.toNat_natCast, hms_at zs n p hp, hh, ident_get n i hi])
  rw [pairs_ident] at h
  unfold signN at h ⊢
  revert h
  (repeat' split) <;> simp_all

theorem hom_gap {zs : List Int} {n g : Nat} (h0 : 0 < n) (hz : zs.getD g 0 = 0) : hom zs n g = n - 1 := by
  unfold hom
  rw [hz]
  simp only [Int.toNat_zero, Nat.zero_add]
  exact Nat.mod_eq_of_lt (by omega)

theorem last_mod {W H n : Nat} (hW : 2 ≤ W) (hH : 2 ≤ H) (hN : W * H = n) : (n - 1) % W = W - 1 ∧ (n - 1) / W = H - 1 := by
  obtain ⟨h, rfl⟩ : ∃ h, H = h + 1 := ⟨H - 1, by omega⟩
  have e : n - 1 = (W - 1) + W * h := by rw [← hN, Nat.mul_add]; omega
  constructor
  · rw [e, Nat.add_mul_mod_self_left, Nat.mod_eq_of_lt (by omega)]
  · rw [e, Nat.add_mul_div_left _ _ (by omega), Nat.div_eq_of_lt (by omega)]; omega

theorem can_eq {zs : List Int} {W H n g : Nat} (hu : 2 ≤ W ∧ W ≤ 5) (hv : 2 ≤ H ∧ H ≤ 5) (hN : W * H = n) (ho : IsOrd zs) (hn : zs.length = n) (hg : g < n) (hz : zs.getD g 0 = 0) :
    canR zs W H n g = decide (pairs (hms zs n) % 2 = dst W g (hom zs n g) % 2) := by
  unfold canR
  rw [sign_ord ho hn, hom_gap (by omega) hz]
  obtain ⟨e1, e2⟩ := last_mod hu.1 hv.1 hN
  have hX : g % W < W := Nat.mod_lt _ (by omega)
  have hY : g / W < H := Nat.div_lt_of_lt_mul (by omega)
  unfold dst
  rw [e1, e2]
  generalize g % W = X at *
  generalize g / W = Y at *
  generalize pairs (hms zs n) = P
  unfold signN
  rw [Bool.eq_iff_iff, beq_iff_eq, decide_eq_true_iff, decide_eq_decide]
  constructor
  · intro h
    split at h
    · have := h.1 rfl; omega
    · have : ¬ (((W : Int) - 1 - X + H - 1 - Y) % 2 = 0) := fun x => by have := h.2 x; omega
      omega
  · intro h
    split
    · exact ⟨fun _ => by omega, fun _ => rfl⟩
    · exact ⟨fun x => by omega, fun x => by omega⟩

theorem sumTo_shift (G : Nat → Nat) (m : Nat) : sumTo G (m + 1) = G 0 + sumTo (fun i => G (i + 1)) m := by
  induction m with
  | zero => simp [sumTo]
  | succ m ih => rw [sumTo, ih]; simp only [sumTo]; omega

theorem lst_eq {zs : List Int} {W n g : Nat} (ho : IsOrd zs) (hn : zs.length = n) (h0 : 0 < n) (hg : g < n) (hz : zs.getD g 0 = 0) : lst W zs n g n = lsr W zs (n - 1) := by
  let G : Nat → Nat := fun s => if s = 0 then 0 else dst W (ix zs (s : Int)).toNat (s - 1)
  have h1 : lst W zs n g n = sumTo (fun p => G (zs.getD p 0).toNat) n := by
    unfold lst
    refine sumTo_congr _ _ _ fun p hp => ?_
    have hr := ho.rng hn p hp
    have hself := ix_self ho (show p < zs.length by omega)
    by_cases h : p = g
    · subst h
      rw [if_pos rfl, hz]
      rfl
    · have hne : zs.getD p 0 ≠ 0 := fun e => h (nodup_getD ho.nodup (by omega) (by omega) (e.trans hz.symm))
      obtain ⟨z, hzz⟩ := Int.eq_ofNat_of_zero_le hr.1
      rw [if_neg h]
      have hh : hom zs n p = z - 1 := by
        unfold hom
        rw [hzz, Int.toNat_natCast, show z + n - 1 = (z - 1) + n by omega, Nat.add_mod_right, Nat.mod_eq_of_lt (by omega)]
      rw [hh]
      show _ = if (zs.getD p 0).toNat = 0 then 0 else dst W (ix zs (((zs.getD p 0).toNat : Nat) : Int)).toNat ((zs.getD p 0).toNat - 1)
      rw [Int.toNat_of_nonneg hr.1, hself, Int.toNat_natCast, hzz, Int.toNat_natCast, if_neg (by omega)]
  rw [h1, ← hn, sum_reindex zs ho G, hn]
  obtain ⟨m, rfl⟩ : ∃ m, n = m + 1 := ⟨n - 1, by omega⟩
  rw [sumTo_shift, show G 0 = 0 from rfl, Nat.zero_add]
  unfold lsr
  refine sumTo_congr _ _ _ fun i _ => ?_
  show (if i + 1 = 0 then 0 else _) = _
  rw [if_neg (by omega), Nat.add_sub_cancel]

theorem mvl_at {Z : List Int} {g q n : Nat} (hn : Z.length = n) (hg : g < n) (hq : q < n) (p : Nat) : (mvl Z g q).getD p 0 = if p = q then 0 else if p = g then Z.getD q 0 else Z.getD p 0 := by
  unfold mvl
  rw [getD_set _ _ _ _ (by simp; omega), getD_set _ _ _ _ (by omega)]

theorem mvl_ord {Z : List Int} {g q n : Nat} (ho : IsOrd Z) (hn : Z.length = n) (hg : g < n) (hq : q < n) (hz : Z.getD g 0 = 0) (hne : q ≠ g) : IsOrd (mvl Z g q) := by
  refine isOrd_of_all _ fun v hv => ?_
  rw [mvl_length, hn] at hv
  have hmem : ∀ p, p < n → (mvl Z g q).getD p 0 ∈ mvl Z g q := fun p hp => getD_mem (by rw [mvl_length]; omega)
  obtain ⟨p, -, hp, e⟩ := ix_ord ho hn hv
  by_cases h1 : p = q
  · have := hmem g hg
    rw [h1] at e
    rw [mvl_at hn hg hq, if_neg (fun e => hne e.symm), if_pos rfl, e] at this
    exact this
  · by_cases h2 : p = g
    · have := hmem q hq
      rw [h2, hz] at e
      rw [mvl_at hn hg hq, if_pos rfl, e] at this
      exact this
    · have := hmem p hp
      rw [mvl_at hn hg hq, if_neg h1, if_neg h2, e] at this
      exact this

theorem mvl_gap {Z : List Int} {g q n : Nat} (ho : IsOrd Z) (hn : Z.length = n) (hg : g < n) (hq : q < n) (hz : Z.getD g 0 = 0) (hne : q ≠ g) : ix (mvl Z g q) 0 = q := by
  have hl : q < (mvl Z g q).length := by rw [mvl_length]; omega
  have hz2 : (mvl Z g q).getD q 0 = 0 := by rw [mvl_at hn hg hq, if_pos rfl]
  have := ix_self (mvl_ord ho hn hg hq hz hne) hl
  rwa [hz2] at this

theorem frm_eq {W H g d : Nat} (h : cmv W H g d = true) : frm W H g d = (((g / W : Nat) : Int) + stab.getD (2 * d + 1) 0) * W + (((g % W : Nat) : Int) + stab.getD (2 * d) 0) := by
  unfold frm stq
  rw [if_pos (of_decide_eq_true h)]

theorem frm_ne {W H g d q : Nat} (hW : 2 ≤ W) (hd : d < 4) (h : cmv W H g d = true) (hq : frm W H g d = q) : q ≠ g := by
  rintro rfl
  rw [frm_eq h] at hq
  have e := Nat.div_add_mod q W
  have e2 : ((W * (q / W) + q % W : Nat) : Int) = (q : Int) := by rw [e]
  rw [← e2] at hq
  push_cast at hq
  rw [Int.add_mul, Int.mul_comm (W : Int) _] at hq
  generalize ((q : Int) / (W : Int)) * (W : Int) = A at hq
  generalize (q : Int) % (W : Int) = B at hq
  match d, hd with
  | 0, _ => simp [stab, dtab] at hq; omega
  | 1, _ => simp [stab, dtab] at hq; omega
  | 2, _ => simp [stab, dtab] at hq; omega
  | 3, _ => simp [stab, dtab] at hq; omega
  | d + 4, h => omega

end Go.Proofs.YticalbpohhpjaaaDoor
