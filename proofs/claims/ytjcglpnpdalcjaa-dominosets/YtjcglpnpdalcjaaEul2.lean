/-
  Where a row of all pieces begins, and that all are laid just if one comes to all. No conditions beyond those that each theorem bears.
-/
import Derived.Test.YtjcglpnpdalcjaaEul
import Derived.Test.YtjcglpnpdalcjaaRow
namespace Go.Proofs.Ytjcglpnpdalcjaa
open Go.RowKit
attribute [local irreducible] hz hzL

/-- How many odd ones there are among the first k. -/
def odN (E : Nat → Nat) : Nat → Nat
  | 0 => 0
  | k + 1 => if E k % 2 = 1 then odN E k + 1 else odN E k

theorem begTo_odd (E : Nat → Nat) (f0 : Int) (k : Nat) : (begTo E f0 k).2 = odN E k := by
  induction k with
  | zero => rfl
  | succ k ih =>
    rw [begTo, odN]
    split
    · simp only [ih]
    · exact ih

theorem begTo_first (E : Nat → Nat) (f0 : Int) (k : Nat) : (odN E k = 0 ∧ (begTo E f0 k).1 = f0) ∨ (∃ u, u < k ∧ E u % 2 = 1 ∧ (begTo E f0 k).1 = (u : Int)) := by
  induction k with
  | zero => exact Or.inl ⟨rfl, rfl⟩
  | succ k ih =>
    by_cases h : E k % 2 = 1
    · rw [begTo, if_pos h]
      exact Or.inr ⟨k, by omega, h, rfl⟩
    · rw [begTo, if_neg h, odN, if_neg h]
      rcases ih with h1 | ⟨u, h1, h2, h3⟩
      · exact Or.inl h1
      · exact Or.inr ⟨u, by omega, h2, h3⟩

theorem odN0 (E : Nat → Nat) : ∀ k, odN E k = 0 → ∀ u, u < k → E u % 2 = 0 := by
  intro k
  induction k with
  | zero => intro _ u hu; omega
  | succ k ih =>
    intro h u hu
    rw [odN] at h
    by_cases hk : E k % 2 = 1
    · rw [if_pos hk] at h; omega
    · rw [if_neg hk] at h
      by_cases e : u = k
      · subst e; omega
      · exact ih h u (by omega)

theorem odN1 (E : Nat → Nat) : ∀ k, odN E k = 1 → ∃ a, a < k ∧ E a % 2 = 1 ∧ ∀ u, u < k → u ≠ a → E u % 2 = 0 := by
  intro k
  induction k with
  | zero => intro h; simp [odN] at h
  | succ k ih =>
    intro h
    rw [odN] at h
    by_cases hk : E k % 2 = 1
    · rw [if_pos hk] at h
      refine ⟨k, by omega, hk, fun u hu hne => odN0 E k (by omega) u (by omega)⟩
    · rw [if_neg hk] at h
      obtain ⟨a, h1, h2, h3⟩ := ih h
      refine ⟨a, by omega, h2, fun u hu hne => ?_⟩
      by_cases e : u = k
      · subst e; omega
      · exact h3 u (by omega) hne

theorem odN2 (E : Nat → Nat) : ∀ k, odN E k = 2 → ∃ a b, a < k ∧ b < k ∧ a ≠ b ∧ E a % 2 = 1 ∧ E b % 2 = 1 ∧ ∀ u, u < k → u ≠ a → u ≠ b → E u % 2 = 0 := by
  intro k
  induction k with
  | zero => intro h; simp [odN] at h
  | succ k ih =>
    intro h
    rw [odN] at h
    by_cases hk : E k % 2 = 1
    · rw [if_pos hk] at h
      obtain ⟨a, h1, h2, h3⟩ := odN1 E k (by omega)
      exact ⟨a, k, by omega, by omega, by omega, h2, hk, fun u hu hne1 hne2 => h3 u (by omega) hne1⟩
    · rw [if_neg hk] at h
      obtain ⟨a, b, h1, h2, h3, h4, h5, h6⟩ := ih h
      refine ⟨a, b, by omega, by omega, h3, h4, h5, fun u hu hne1 hne2 => ?_⟩
      by_cases e : u = k
      · subst e; omega
      · exact h6 u (by omega) hne1 hne2

theorem sumTo_odd (E : Nat → Nat) (k : Nat) : sumTo E k % 2 = odN E k % 2 := by
  induction k with
  | zero => rfl
  | succ k ih => rw [sumTo, odN]; split <;> omega

theorem sumTo_addN (g h : Nat → Nat) (k : Nat) : sumTo (fun u => g u + h u) k = sumTo g k + sumTo h k := by
  induction k with
  | zero => rfl
  | succ k ih => rw [sumTo, sumTo, sumTo, ih]; omega

theorem sumTo_pt (a k : Nat) : sumTo (fun u => if u = a then 1 else 0) k = if a < k then 1 else 0 := by
  induction k with
  | zero => rfl
  | succ k ih =>
    rw [sumTo, ih]
    by_cases h : k = a
    · rw [if_pos h, if_neg (by omega), if_pos (by omega)]
    · rw [if_neg h]
      by_cases h2 : a < k
      · rw [if_pos h2, if_pos (by omega)]
      · rw [if_neg h2, if_neg (by omega)]

theorem shake (m : List Pc) (h : OkM m) : sumTo (endN m) 10 = 2 * m.length := by
  induction m with
  | nil => rfl
  | cons p m ih =>
    obtain ⟨a, b, rfl, ha, hb⟩ := h p (by simp)
    have e : endN (pr a b :: m) = fun u => ((if u = a then 1 else 0) + (if u = b then 1 else 0)) + endN m u := by
      funext u; rw [endN_pr]; rfl
    rw [e, sumTo_addN, sumTo_addN, sumTo_pt, sumTo_pt, if_pos ha, if_pos hb, ih (h.sub (fun q hq => by simp [hq])), List.length_cons]
    omega

theorem okM_map (ps : List Pc) (h : pcsB ps = true) : OkM (ps.map lf) := by
  intro p hp
  obtain ⟨q, hq, rfl⟩ := List.mem_map.1 hp
  obtain ⟨X, Y, e, hX, hY⟩ := pc_nat (List.all_eq_true.1 h q hq)
  exact ⟨X, Y, by rw [e]; rfl, hX, hY⟩

theorem row_par (ps : List Pc) (h : pcsB ps = true) (ho : (begF ps).2 ≤ 2) (v : Nat) (hv : v < 10) (hve : (begF ps).1 = (v : Int)) :
    ∃ t, t < 10 ∧ Par (ps.map lf) v t ∧ ((odN (endN ps) 10 = 0 ∧ (v : Int) = (ps.getD 0 (0, 0)).1) ∨ 0 < endN ps v) := by
  have hE : endN (ps.map lf) = endN ps := funext (endN_map ps)
  have hs := shake _ (okM_map ps h)
  have hso := sumTo_odd (endN (ps.map lf)) 10
  rw [hs, hE] at hso
  rw [begF, begTo_odd] at ho
  rw [begF] at hve
  rcases begTo_first (endN ps) (ps.getD 0 (0, 0)).1 10 with ⟨h1, h2⟩ | ⟨u, h1, h2, h3⟩
  · refine ⟨v, hv, fun u hu => ?_, Or.inl ⟨h1, by rw [← hve, h2]⟩⟩
    rw [hE, odN0 _ 10 h1 u hu]
    split <;> rfl
  · have huv : u = v := by rw [hve] at h3; omega
    subst huv
    have hpos : 0 < endN ps u := by omega
    have h02 : odN (endN ps) 10 = 2 := by
      by_cases e : odN (endN ps) 10 = 0
      · have := odN0 _ 10 e u h1; omega
      · omega
    obtain ⟨a, b, ha, hb, hab, hea, heb, hr⟩ := odN2 _ 10 h02
    by_cases e1 : u = a
    · subst e1
      refine ⟨b, hb, fun x hx => ?_, Or.inr hpos⟩
      rw [hE]
      by_cases x1 : x = u
      · subst x1; rw [if_pos rfl, if_neg hab, hea]
      · by_cases x2 : x = b
        · subst x2; rw [if_neg x1, if_pos rfl, heb]
        · rw [if_neg x1, if_neg x2, hr x hx x1 x2]
    · have e2 : u = b := by
        by_cases e2 : u = b
        · exact e2
        · have := hr u h1 e1 e2; omega
      subst e2
      refine ⟨a, ha, fun x hx => ?_, Or.inr hpos⟩
      rw [hE]
      by_cases x1 : x = u
      · subst x1; rw [if_pos rfl, if_neg e1, heb]
      · by_cases x2 : x = a
        · subst x2; rw [if_neg x1, if_pos rfl, hea]
        · rw [if_neg x1, if_neg x2, hr x hx x2 x1]

/-- What is laid, and what is left. -/
theorem laid_fin (ps : List Pc) (h : pcsB ps = true) (ho : (begF ps).2 ≤ 2) :
    ∃ (v t : Nat) (L : List Pc), v < 10 ∧ ((odN (endN ps) 10 = 0 ∧ (v : Int) = (ps.getD 0 (0, 0)).1) ∨ 0 < endN ps v) ∧ Tr v t (laid ps) ∧ ((laid ps).map lf ++ L).Perm (ps.map lf) ∧ endN L v = 0 ∧ (∀ p ∈ laid ps, ∀ u : Nat, (p.1 = (u : Int) ∨ p.2 = (u : Int)) → endN L u = 0) ∧ OkM L := by
  obtain ⟨v, hv, hve⟩ := begF_nat ps h
  obtain ⟨t, ht, hP, hb⟩ := row_par ps h ho v hv hve
  obtain ⟨h1, h2, h3, h4⟩ := hz_fin ((ps.map lf).length + 1) (ps.map lf) v t hv ht (okM_map ps h) (by omega) hP
  have hl : laid ps = (hz ((ps.map lf).length + 1) (ps.map lf) v).1.reverse := by rw [laid, hve]; rfl
  generalize hz ((ps.map lf).length + 1) (ps.map lf) v = r at *
  refine ⟨v, t, r.2, hv, hb, by rw [hl]; exact h1, ?_, h3, fun p hp => h4 p (by rw [hl] at hp; exact List.mem_reverse.1 hp), (okM_map ps h).sub (fun p hp => h2.mem_iff.1 (List.mem_append.2 (Or.inr hp)))⟩
  rw [hl, List.map_reverse]
  exact (List.Perm.append_right _ (List.reverse_perm _)).trans h2

/-- No piece leads out of Z. -/
def Cl (Z : Nat → Prop) (ps : List Pc) : Prop := ∀ p ∈ ps, ∀ a b : Nat, p = ((a : Int), (b : Int)) → (Z a ↔ Z b)

theorem Cl.not {Z : Nat → Prop} {ps : List Pc} (h : Cl Z ps) : Cl (fun u => ¬ Z u) ps := fun p hp a b e => not_congr (h p hp a b e)

theorem lf_eq {a b : Nat} {q : Pc} (h : lf q = lf ((a : Int), (b : Int))) : q = ((a : Int), (b : Int)) ∨ q = ((b : Int), (a : Int)) := by
  obtain ⟨x, y⟩ := q
  have e1 : min x y = min (a : Int) (b : Int) := congrArg Prod.fst h
  have e2 : max x y = max (a : Int) (b : Int) := congrArg Prod.snd h
  by_cases h1 : x = (a : Int)
  · left; rw [h1]; congr 1; omega
  · right; congr 1 <;> omega

theorem cl_left {ps R L : List Pc} (hp : (R.map lf ++ L).Perm (ps.map lf)) (ht : ∀ p ∈ R, ∀ u : Nat, (p.1 = (u : Int) ∨ p.2 = (u : Int)) → endN L u = 0) : Cl (fun u => endN L u = 0) ps := by
  intro p hpm a b e
  have hm : lf p ∈ R.map lf ++ L := hp.mem_iff.2 (List.mem_map.2 ⟨p, hpm, rfl⟩)
  rcases List.mem_append.1 hm with hm | hm
  · obtain ⟨q, hq, hqe⟩ := List.mem_map.1 hm
    rw [e] at hqe
    rcases lf_eq hqe with hqe | hqe
    · exact ⟨fun _ => ht q hq b (Or.inr (by rw [hqe])), fun _ => ht q hq a (Or.inl (by rw [hqe]))⟩
    · exact ⟨fun _ => ht q hq b (Or.inl (by rw [hqe])), fun _ => ht q hq a (Or.inr (by rw [hqe]))⟩
  · rw [e] at hm
    have h1 := endN_mem (a := a) (b := b) hm a (Or.inl rfl)
    have h2 := endN_mem (a := a) (b := b) hm b (Or.inr rfl)
    exact ⟨fun h => absurd h (by omega), fun h => absurd h (by omega)⟩

theorem left_nil {ps R L : List Pc} (hB : pcsB ps = true) (hp : (R.map lf ++ L).Perm (ps.map lf)) (hall : ∀ p ∈ ps, ∀ a b : Nat, p = ((a : Int), (b : Int)) → endN L a = 0) : L = [] := by
  cases L with
  | nil => rfl
  | cons q L =>
    have hm : q ∈ ps.map lf := hp.mem_iff.1 (by simp)
    obtain ⟨p, hpm, rfl⟩ := List.mem_map.1 hm
    obtain ⟨X, Y, e, hX, hY⟩ := pc_nat (List.all_eq_true.1 hB p hpm)
    have h1 := hall p hpm X Y e
    have h2 : 0 < endN (lf p :: L) X := endN_mem (a := X) (b := Y) (by rw [e]; exact List.mem_cons_self) X (Or.inl rfl)
    omega

theorem tr_all {Z : Nat → Prop} {v t : Nat} {R : List Pc} (h : Tr v t R) (hc : Cl Z R) : ∀ q ∈ R, ∀ a b : Nat, q = ((a : Int), (b : Int)) → ((Z a ↔ Z v) ∧ (Z b ↔ Z v)) := by
  induction R generalizing v with
  | nil => intro q hq; simp at hq
  | cons p R ih =>
    obtain ⟨x, hx, rfl, hr⟩ := h
    have h1 := hc _ (by simp) v x rfl
    intro q hq a b e
    rcases List.mem_cons.1 hq with hq | hq
    · rw [hq] at e
      simp only [Prod.mk.injEq] at e
      obtain ⟨e1, e2⟩ := e
      obtain rfl : v = a := by omega
      obtain rfl : x = b := by omega
      exact ⟨Iff.rfl, h1.symm⟩
    · obtain ⟨h2, h3⟩ := ih hr (fun q hq => hc q (by simp [hq])) q hq a b e
      exact ⟨h2.trans h1.symm, h3.trans h1.symm⟩

theorem end_of (ps : List Pc) (h : pcsB ps = true) (v : Nat) (hv : 0 < endN ps v) : ∃ p ∈ ps, ∃ a b : Nat, p = ((a : Int), (b : Int)) ∧ (v = a ∨ v = b) := by
  induction ps with
  | nil => simp [endN_nil] at hv
  | cons p ps ih =>
    obtain ⟨X, Y, e, hX, hY⟩ := pc_nat (List.all_eq_true.1 h p (by simp))
    by_cases h1 : v = X ∨ v = Y
    · exact ⟨p, by simp, X, Y, e, h1⟩
    · rw [endN_cons, e, if_neg (by simp only; omega), if_neg (by simp only; omega)] at hv
      obtain ⟨q, hq, a, b, he, hab⟩ := ih (by unfold pcsB at h ⊢; rw [List.all_cons, Bool.and_eq_true] at h; exact h.2) (by omega)
      exact ⟨q, by simp [hq], a, b, he, hab⟩

end Go.Proofs.Ytjcglpnpdalcjaa
