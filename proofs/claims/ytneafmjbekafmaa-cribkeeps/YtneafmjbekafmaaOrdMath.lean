/-
  29 is the most; no order of the hand counts; a crib brings no more. No conditions beyond those that each theorem bears.
-/
import Derived.Test.YtneafmjbekafmaaShow
import Derived.Test.YtneafmjbekafmaaNthB
namespace Go.Proofs.Ytneafmjbekafmaa
open Go.RowKit Go.Shelf

theorem mayE_cards {L : List Nat} (hn : L.Nodup) (hlt : ∀ x ∈ L, x < 52) : mayE (toI L) = 0 := by
  have hr : inRange (toI L) = true := by
    simp only [inRange, List.all_eq_true, decide_eq_true_eq]
    intro z hz
    obtain ⟨x, hx, rfl⟩ := List.mem_map.1 hz
    have := hlt x hx
    omega
  have hd : (toI L).Nodup := by
    rw [toI]
    exact List.pairwise_map.2 (hn.imp (fun h e => h (by omega)))
  rw [mayE, if_pos hr, if_pos hd]

theorem natL_back (L : List Nat) : natL (toI L) = L := by
  rw [natL, toI, List.map_map]
  have : (Int.toNat ∘ fun x : Nat => (x : Int)) = id := by funext x; simp
  rw [this]; simp

theorem shE_ok {L : List Nat} {s : Nat} (h4 : L.length = 4) (hn : (L ++ [s]).Nodup) (hlt : ∀ x ∈ L ++ [s], x < 52) : shE (toI L) (s : Int) = 0 := by
  rw [shE, if_pos (by rw [toI_length, h4])]
  have := mayE_cards hn hlt
  rw [toI, List.map_append] at this
  exact this

theorem shV_ok {L : List Nat} {s : Nat} (crib : Bool) (h4 : L.length = 4) (hn : (L ++ [s]).Nodup) (hlt : ∀ x ∈ L ++ [s], x < 52) : shV (toI L) (s : Int) crib = ((scN L s crib : Nat) : Int) := by
  rw [shV, if_pos (shE_ok h4 hn hlt), natL_back]
  simp

theorem prL_four (a b c d e : Nat) (h1 : ¬ a = b) (h2 : ¬ a = c) (h3 : ¬ a = d) (h4 : ¬ b = c) (h5 : ¬ b = d) (h6 : ¬ c = d) : prL [a, b, c, d, e] ≤ 2 := by
  have g1 : ¬ b = a := fun h => h1 h.symm
  have g2 : ¬ c = a := fun h => h2 h.symm
  have g3 : ¬ d = a := fun h => h3 h.symm
  have g4 : ¬ c = b := fun h => h4 h.symm
  have g5 : ¬ d = b := fun h => h5 h.symm
  have g6 : ¬ d = c := fun h => h6 h.symm
  simp only [prL, List.count_cons, List.count_nil, beq_iff_eq, g1, g2, g3, g4, g5, g6, if_false]
  by_cases ea : e = a
  · have : ¬ e = b := by omega
    have : ¬ e = c := by omega
    have : ¬ e = d := by omega
    simp [*]
  · by_cases eb : e = b
    · have : ¬ e = c := by omega
      have : ¬ e = d := by omega
      simp [*]
    · by_cases ec : e = c
      · have : ¬ e = d := by omega
        simp [*]
      · by_cases ed : e = d
        · simp [*]
        · simp [*]

theorem rk_div {x y : Nat} (hx : x < 52) (hy : y < 52) (h : rkC x = rkC y) : x / 4 = y / 4 := by
  unfold rkC at h; omega

theorem rk_ne {x y : Nat} (hx : x < 52) (hy : y < 52) (h : x % 4 = y % 4) (hn : ¬ x = y) : ¬ rkC x = rkC y := by
  intro h2
  have := rk_div hx hy h2
  omega

theorem count_four (a b c d e r : Nat) (hlt : ∀ x ∈ [a, b, c, d, e], x < 52) (hn : [a, b, c, d, e].Nodup) : ([a, b, c, d, e].map rkC).count r ≤ 4 := by
  rcases Nat.lt_or_ge 4 (([a, b, c, d, e].map rkC).count r) with h | h
  · exfalso
    have hle : ([a, b, c, d, e].map rkC).count r ≤ ([a, b, c, d, e].map rkC).length := List.count_le_length
    have h5 : ([a, b, c, d, e].map rkC).count r = ([a, b, c, d, e].map rkC).length := by simp at hle ⊢; simp at h; omega
    have hall := List.count_eq_length.1 h5
    have ha := hall (rkC a) (by simp)
    have hb := hall (rkC b) (by simp)
    have hc := hall (rkC c) (by simp)
    have hd := hall (rkC d) (by simp)
    have he := hall (rkC e) (by simp)
    have la := hlt a (by simp)
    have lb := hlt b (by simp)
    have lc := hlt c (by simp)
    have ld := hlt d (by simp)
    have le := hlt e (by simp)
    have qb := rk_div la lb (ha.symm.trans hb)
    have qc := rk_div la lc (ha.symm.trans hc)
    have qd := rk_div la ld (ha.symm.trans hd)
    have qe := rk_div la le (ha.symm.trans he)
    clear hall h5 hle h ha hb hc hd he
    simp only [List.nodup_cons, List.mem_cons, List.not_mem_nil, or_false, not_or] at hn
    omega
  · exact h

theorem scN_le (L : List Nat) (s : Nat) (crib : Bool) (h4 : L.length = 4) (hn : (L ++ [s]).Nodup) (hlt : ∀ x ∈ L ++ [s], x < 52) : scN L s crib ≤ 29 := by
  match L, h4 with
  | [x0, x1, x2, x3], _ =>
    have hlt' : ∀ x ∈ [x0, x1, x2, x3, s], x < 52 := hlt
    have hn' : [x0, x1, x2, x3, s].Nodup := hn
    obtain ⟨r1, r2⟩ := rkN_le [x0, x1, x2, x3, s] rfl (fun r => count_four x0 x1 x2 x3 s r hlt' hn')
    have hj := jk_le [x0, x1, x2, x3] s
    have hf := fl_le [x0, x1, x2, x3] s crib
    have m0 := hlt' x0 (by simp)
    have m1 := hlt' x1 (by simp)
    have m2 := hlt' x2 (by simp)
    have m3 := hlt' x3 (by simp)
    have ms := hlt' s (by simp)
    show rkN [x0, x1, x2, x3, s] + flN [x0, x1, x2, x3] s crib + jkN [x0, x1, x2, x3] s ≤ 29
    by_cases h0 : flN [x0, x1, x2, x3] s crib = 0
    · omega
    · have hs : x0 % 4 = x1 % 4 ∧ x0 % 4 = x2 % 4 ∧ x0 % 4 = x3 % 4 := by
        rw [fl_eq x0 x1 x2 x3 s m0 m1 m2 m3 ms, flR] at h0
        apply Classical.byContradiction
        intro hh
        exact h0 (if_neg hh)
      obtain ⟨s1, s2, s3⟩ := hs
      simp only [List.nodup_cons, List.mem_cons, List.not_mem_nil, or_false, not_or] at hn'
      obtain ⟨⟨n01, n02, n03, _⟩, ⟨n12, n13, _⟩, ⟨n23, _⟩, _⟩ := hn'
      have hp : prsL (tms [x0, x1, x2, x3, s]) ≤ 2 := by
        rw [prsL_tms]
        exact prL_four _ _ _ _ _ (rk_ne m0 m1 s1 n01) (rk_ne m0 m2 s2 n02) (rk_ne m0 m3 s3 n03) (rk_ne m1 m2 (s1.symm.trans s2) n12) (rk_ne m1 m3 (s1.symm.trans s3) n13) (rk_ne m2 m3 (s2.symm.trans s3) n23)
      have := r2 hp
      omega

theorem crib_le (L : List Nat) (s : Nat) : scN L s true ≤ scN L s false := by
  have : flN L s true ≤ flN L s false := by
    unfold flN
    split
    · exact Nat.le_refl _
    · split
      · simp
      · exact Nat.le_refl _
  unfold scN; omega

theorem any_perm {p : Nat → Bool} {l l' : List Nat} (h : l.Perm l') : l.any p = l'.any p := by
  rw [Bool.eq_iff_iff, List.any_eq_true, List.any_eq_true]
  exact ⟨fun ⟨x, hx, hp⟩ => ⟨x, h.mem_iff.1 hx, hp⟩, fun ⟨x, hx, hp⟩ => ⟨x, h.mem_iff.2 hx, hp⟩⟩

theorem other_all {L : List Nat} {s : Nat} (h : L.any (otherP s) = false) : ∀ x ∈ L, x % 52 % 4 = s % 4 := by
  intro x hx
  have := List.any_eq_false.1 h x hx
  simp only [otherP, decide_eq_true_eq, Classical.not_not] at this
  exact this

theorem fl_perm {L L' : List Nat} (hp : L.Perm L') (h4 : L.length = 4) (hlt : ∀ x ∈ L, x < 52) (s : Nat) (crib : Bool) : flN L s crib = flN L' s crib := by
  have m : L.getD 0 0 ∈ L := mem_getD L 0 (by omega)
  have m' : L'.getD 0 0 ∈ L' := mem_getD L' 0 (by rw [← hp.length_eq]; omega)
  have l0 := hlt _ m
  have l0' := hlt _ (hp.mem_iff.2 m')
  unfold flN
  have key : ∀ {A B : List Nat}, A.Perm B → A.getD 0 0 ∈ A → B.getD 0 0 ∈ B → A.getD 0 0 < 52 → B.getD 0 0 < 52 → A.any (otherP (A.getD 0 0)) = false → A.getD 0 0 % 4 = B.getD 0 0 % 4 := by
    intro A B hAB _ mB _ lB h
    have := other_all h _ (hAB.mem_iff.2 mB)
    rw [Nat.mod_eq_of_lt lB] at this
    exact this.symm
  have same : ∀ {x y : Nat}, x % 4 = y % 4 → otherP x = otherP y := by
    intro x y h
    funext z
    simp only [otherP, h]
  cases hA : L.any (otherP (L.getD 0 0)) with
  | false =>
    have e := same (key hp m m' l0 l0' hA)
    have hB : L'.any (otherP (L'.getD 0 0)) = false := by rw [← any_perm hp, ← e]; exact hA
    rw [hB, e]
  | true =>
    cases hB : L'.any (otherP (L'.getD 0 0)) with
    | true => rfl
    | false =>
      have e := same (key hp.symm m' m l0' l0 hB)
      rw [any_perm hp, ← e, hB] at hA
      cases hA

theorem scN_perm {L L' : List Nat} (hp : L.Perm L') (h4 : L.length = 4) (hlt : ∀ x ∈ L, x < 52) (s : Nat) (crib : Bool) : scN L s crib = scN L' s crib := by
  unfold scN jkN
  rw [fl_perm hp h4 hlt, any_perm hp, rkN_perm (hp.append_right [s]) (by simp [h4])]

def fO (q i : Nat) : Nat := ((nthSt 4 q 4).1.getD i 0).toNat

theorem best29 : scN [12, 13, 15, 38] 14 false = 29 := by decide +kernel

end Go.Proofs.Ytneafmjbekafmaa
