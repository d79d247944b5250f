/-
  What the table says of five cards. No conditions beyond those that each theorem bears.
-/
import Derived.Test.YtneafmjbekafmaaCribTab
namespace Go.Proofs.Ytneafmjbekafmaa

/-- So many of each rank, from k on. -/
def unR : Nat → List Nat → List Nat
  | _, [] => []
  | k, t :: T => List.replicate t k ++ unR (k + 1) T

def ptR (r : Nat) : Nat := if r + 1 ≤ 10 then r + 1 else 10

theorem ptC_ptR (c : Nat) : ptC c = ptR (rkC c) := rfl

theorem unT_unR (k : Nat) (T : List Nat) : unT k T = (unR k T).map ptR := by
  induction T generalizing k with
  | nil => rfl
  | cons t T ih => simp only [unT, unR, List.map_append, List.map_replicate, ih]; rfl

theorem unR_ge (k : Nat) (T : List Nat) : ∀ x ∈ unR k T, k ≤ x := by
  induction T generalizing k with
  | nil => intro x hx; simp [unR] at hx
  | cons t T ih =>
    intro x hx
    simp only [unR, List.mem_append, List.mem_replicate] at hx
    rcases hx with hx | hx
    · omega
    · have := ih (k + 1) x hx; omega

theorem unR_count (k r : Nat) (T : List Nat) : (unR k T).count (k + r) = T.getD r 0 := by
  induction T generalizing k r with
  | nil => simp [unR]
  | cons t T ih =>
    rw [unR, List.count_append, List.count_replicate]
    cases r with
    | zero =>
      have h0 : (unR (k + 1) T).count (k + 0) = 0 := List.count_eq_zero.2 (fun h => by have := unR_ge (k + 1) T _ h; omega)
      rw [h0]; simp
    | succ r =>
      have := ih (k + 1) r
      rw [show k + 1 + r = k + (r + 1) by omega] at this
      rw [this, if_neg (by simp)]
      simp [List.getD]

theorem unR_perm (l : List Nat) : (unR 0 (tms l)).Perm (l.map rkC) := by
  rw [List.perm_iff_count]
  intro r
  have h := unR_count 0 r (tms l)
  rw [Nat.zero_add] at h
  rw [h]
  by_cases hr : r < 13
  · exact tms_getD l r hr
  · have h0 : (l.map rkC).count r = 0 := List.count_eq_zero.2 (fun hm => by
      obtain ⟨c, _, rfl⟩ := List.mem_map.1 hm
      exact hr (rkC_lt c))
    rw [h0, List.getD_eq_getElem?_getD, List.getElem?_eq_none (by rw [tms_length]; omega)]; rfl

theorem unR_len (k : Nat) (T : List Nat) : (unR k T).length = T.sum := by
  induction T generalizing k with
  | nil => rfl
  | cons t T ih => simp [unR, ih]

theorem tms_sum (l : List Nat) : (tms l).sum = l.length := by
  rw [← unR_len 0, (unR_perm l).length_eq, List.length_map]

theorem prL_rep (t k : Nat) (R : List Nat) (h : k ∉ R) : prL (List.replicate t k ++ R) = t * (t - 1) + prL R := by
  induction t with
  | zero => simp
  | succ t ih =>
    rw [List.replicate_succ, List.cons_append, prL, ih, List.count_append, List.count_replicate_self, List.count_eq_zero.2 h]
    cases t with
    | zero => simp
    | succ t =>
      have e1 := Nat.add_mul t 2 (t + 1)
      have e2 := Nat.mul_comm t (t + 1)
      show (t + 1) * t + prL R + 2 * (t + 1 + 0) = (t + 2) * (t + 1) + prL R
      omega

theorem prL_unR (k : Nat) (T : List Nat) : prL (unR k T) = prsL T := by
  induction T generalizing k with
  | nil => rfl
  | cons t T ih =>
    rw [unR, prsL, prL_rep t k _ (fun h => by have := unR_ge (k + 1) T k h; omega), ih]

theorem prsL_tms (l : List Nat) : prsL (tms l) = prL (l.map rkC) := by
  rw [← prL_unR 0, prL_perm (unR_perm l)]

theorem prL_snoc (l : List Nat) (x : Nat) : prL (l ++ [x]) = prL l + 2 * l.count x := by
  rw [prL_perm (List.perm_append_singleton x l)]; rfl

theorem prsTo_drop (T : List Nat) (k : Nat) (h : k ≤ T.length) : prsTo T k + prsL (T.drop k) = prsL T := by
  induction k with
  | zero => simp [prsTo]
  | succ k ih =>
    have h1 := ih (by omega)
    rw [List.drop_eq_getElem_cons (by omega), prsL] at h1
    rw [prsTo, show T.getD k 0 = T[k] by simp [List.getD, show k < T.length by omega]]
    omega

theorem prsTo_all (T : List Nat) : prsTo T T.length = prsL T := by
  have := prsTo_drop T T.length (Nat.le_refl _)
  rw [List.drop_length] at this
  exact this

theorem tms_check (l : List Nat) (h : l.length = 5) : checkT (tms l) = true := by
  have := mem_vecs (tms l)
  rw [tms_length, tms_sum, h] at this
  exact List.all_eq_true.1 ct_all _ this

theorem rows_ref (l : List Nat) (h : l.length = 5) : rowsF (tms l) 0 1 = refRows (tms l) := by
  have := tms_check l h
  simp only [checkT, Bool.and_eq_true] at this
  exact Nat.eq_of_beq_eq_true this.1

theorem cnt_tms (l : List Nat) (s : Nat) : cnt (unT 0 (tms l)) s = cnt (l.map ptC) s := by
  rw [unT_unR]
  have h1 : ((unR 0 (tms l)).map ptR).Perm ((l.map rkC).map ptR) := (unR_perm l).map _
  rw [cnt_perm h1, List.map_map]
  rfl

/-- What ranks alone bring, of five cards. -/
def rkN (l : List Nat) : Nat := fifN l + prsL (tms l) + rowsF (tms l) 0 1

theorem five_of (l : List Nat) (h : l.length = 5) : ∃ a b c d e, l = [a, b, c, d, e] := by
  match l, h with
  | [a, b, c, d, e], _ => exact ⟨a, b, c, d, e, rfl⟩

theorem rkN_rkS (l : List Nat) (h : l.length = 5) : rkN l = rkS (tms l) := by
  obtain ⟨a, b, c, d, e, rfl⟩ := five_of l h
  rw [rkN, rkS, cnt_tms, fifN]
  simp only [List.map_cons, List.map_nil]
  rw [fif_cnt]

theorem tms_perm {l l' : List Nat} (h : l.Perm l') : tms l = tms l' := by
  simp only [tms]
  apply List.map_congr_left
  intro r _
  exact (h.map rkC).count_eq r

theorem fifN_perm {l l' : List Nat} (h : l.Perm l') (h5 : l.length = 5) : fifN l = fifN l' := by
  obtain ⟨a, b, c, d, e, rfl⟩ := five_of l h5
  obtain ⟨a', b', c', d', e', rfl⟩ := five_of l' (h.length_eq ▸ h5)
  rw [fifN, fifN]
  simp only [List.map_cons, List.map_nil]
  rw [fif_cnt, fif_cnt]
  have := cnt_perm (h.map ptC) 15
  simp only [List.map_cons, List.map_nil] at this
  rw [this]

theorem rkN_perm {l l' : List Nat} (h : l.Perm l') (h5 : l.length = 5) : rkN l = rkN l' := by
  rw [rkN, rkN, fifN_perm h h5, tms_perm h]

theorem rkN_le (l : List Nat) (h5 : l.length = 5) (h4 : ∀ r, (l.map rkC).count r ≤ 4) : rkN l ≤ 28 ∧ (prsL (tms l) ≤ 2 → rkN l ≤ 17) := by
  have hc := tms_check l h5
  simp only [checkT, Bool.and_eq_true, Bool.or_eq_true] at hc
  rw [rkN_rkS l h5]
  rcases hc.2 with h | ⟨h1, h2⟩
  · exfalso
    obtain ⟨t, ht, h⟩ := List.any_eq_true.1 h
    have h5' := Nat.le_of_ble_eq_true h
    simp only [tms, List.mem_map] at ht
    obtain ⟨r, _, rfl⟩ := ht
    have := h4 r
    omega
  · refine ⟨Nat.le_of_ble_eq_true h1, fun hp => ?_⟩
    rcases h2 with h2 | h2
    · have := Nat.le_of_ble_eq_true h2; omega
    · exact Nat.le_of_ble_eq_true h2

end Go.Proofs.Ytneafmjbekafmaa
