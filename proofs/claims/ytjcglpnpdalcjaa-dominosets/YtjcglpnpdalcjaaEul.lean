/-
  Euler: what is laid from an end is a row of all pieces that one comes to. No conditions beyond those that each theorem bears.
-/
import Derived.Test.YtjcglpnpdalcjaaBegin
namespace Go.Proofs.Ytjcglpnpdalcjaa
open Go.RowKit
attribute [local irreducible] hz hzL

/-- How often a piece of these ends has the end u. -/
def pe (a b u : Nat) : Nat := (if u = a then 1 else 0) + (if u = b then 1 else 0)

/-- Pieces with the lesser end first, of ends below ten. -/
def OkM (m : List Pc) : Prop := ∀ p ∈ m, ∃ a b : Nat, p = pr a b ∧ a < 10 ∧ b < 10

theorem endN_nil (u : Nat) : endN [] u = 0 := rfl
theorem endN_cons (p : Pc) (m : List Pc) (u : Nat) : endN (p :: m) u = ((if p.1 = (u : Int) then 1 else 0) + (if p.2 = (u : Int) then 1 else 0)) + endN m u := by
  simp [endN]
theorem endN_append (a b : List Pc) (u : Nat) : endN (a ++ b) u = endN a u + endN b u := by
  induction a with
  | nil => simp [endN_nil]
  | cons p a ih => rw [List.cons_append, endN_cons, endN_cons, ih]; omega
theorem endN_perm {a b : List Pc} (h : a.Perm b) (u : Nat) : endN a u = endN b u := by
  induction h with
  | nil => rfl
  | cons x _ ih => rw [endN_cons, endN_cons, ih]
  | swap x y l => rw [endN_cons, endN_cons, endN_cons, endN_cons]; omega
  | trans _ _ h1 h2 => rw [h1, h2]

theorem one_end (p : Pc) (a b u : Nat) (h : lf p = pr a b) : (if p.1 = (u : Int) then 1 else 0) + (if p.2 = (u : Int) then 1 else 0) = pe a b u := by
  have h1 : (p.1 = (a : Int) ∧ p.2 = (b : Int)) ∨ (p.1 = (b : Int) ∧ p.2 = (a : Int)) := by
    have e1 : min p.1 p.2 = min (a : Int) (b : Int) := congrArg Prod.fst h
    have e2 : max p.1 p.2 = max (a : Int) (b : Int) := congrArg Prod.snd h
    omega
  unfold pe
  rcases h1 with ⟨h1, h2⟩ | ⟨h1, h2⟩
  · rw [h1, h2]
    congr 1
    · by_cases e : u = a
      · rw [if_pos e, if_pos (by omega)]
      · rw [if_neg e, if_neg (by omega)]
    · by_cases e : u = b
      · rw [if_pos e, if_pos (by omega)]
      · rw [if_neg e, if_neg (by omega)]
  · rw [h1, h2, Nat.add_comm]
    congr 1
    · by_cases e : u = a
      · rw [if_pos e, if_pos (by omega)]
      · rw [if_neg e, if_neg (by omega)]
    · by_cases e : u = b
      · rw [if_pos e, if_pos (by omega)]
      · rw [if_neg e, if_neg (by omega)]

theorem lf_lf (p : Pc) : lf (lf p) = lf p := by
  unfold lf
  simp only [Prod.mk.injEq]
  omega

theorem lf_pr (a b : Nat) : lf (pr a b) = pr a b := lf_lf _

theorem endN_pr (a b u : Nat) (m : List Pc) : endN (pr a b :: m) u = pe a b u + endN m u := by
  rw [endN_cons, one_end (pr a b) a b u (lf_pr a b)]

theorem endN_map (ps : List Pc) (u : Nat) : endN (ps.map lf) u = endN ps u := by
  induction ps with
  | nil => rfl
  | cons p ps ih =>
    rw [List.map_cons, endN_cons, endN_cons, ih]
    congr 1
    unfold lf
    simp only
    by_cases h : p.1 ≤ p.2
    · rw [show min p.1 p.2 = p.1 by omega, show max p.1 p.2 = p.2 by omega]
    · rw [show min p.1 p.2 = p.2 by omega, show max p.1 p.2 = p.1 by omega, Nat.add_comm]

theorem endN_erase (a b u : Nat) (m : List Pc) (h : pr a b ∈ m) : endN m u = pe a b u + endN (m.erase (pr a b)) u := by
  rw [endN_perm (List.perm_cons_erase h) u, endN_pr]

theorem OkM.sub {m m' : List Pc} (h : OkM m) (hs : ∀ p ∈ m', p ∈ m) : OkM m' := fun p hp => h p (hs p hp)

theorem endN_mem {m : List Pc} {a b : Nat} (h : pr a b ∈ m) (u : Nat) (hu : u = a ∨ u = b) : 0 < endN m u := by
  rw [endN_erase a b u m h]
  unfold pe
  rcases hu with rfl | rfl
  · rw [if_pos rfl]; omega
  · rw [if_pos rfl (c := u = u)]; omega

theorem endN_pos {m : List Pc} (h : OkM m) (v : Nat) (hv : 0 < endN m v) : ∃ x, x < 10 ∧ pr v x ∈ m := by
  induction m with
  | nil => simp [endN_nil] at hv
  | cons p m ih =>
    obtain ⟨a, b, rfl, ha, hb⟩ := h p (by simp)
    rw [endN_pr] at hv
    by_cases h1 : v = a
    · subst h1; exact ⟨b, hb, by simp⟩
    · by_cases h2 : v = b
      · subst h2
        refine ⟨a, ha, ?_⟩
        have : pr v a = pr a v := by unfold pr lf; simp only [Prod.mk.injEq]; omega
        rw [this]; simp
      · obtain ⟨x, hx, hm⟩ := ih (h.sub (fun q hq => by simp [hq])) (by unfold pe at hv; rw [if_neg h1, if_neg h2] at hv; omega)
        exact ⟨x, hx, by simp [hm]⟩

/-- A row from v to t. -/
def Tr : Nat → Nat → List Pc → Prop
  | v, t, [] => v = t
  | v, t, p :: r => ∃ x : Nat, x < 10 ∧ p = ((v : Int), (x : Int)) ∧ Tr x t r

theorem Tr.append {v s t : Nat} {A B : List Pc} (h : Tr v s A) (k : Tr s t B) : Tr v t (A ++ B) := by
  induction A generalizing v with
  | nil => cases h; exact k
  | cons p A ih =>
    obtain ⟨x, hx, hp, hr⟩ := h
    exact ⟨x, hx, hp, ih hr⟩

theorem Tr.isR {v t : Nat} {A : List Pc} (h : Tr v t A) : isR A = true := by
  induction A generalizing v with
  | nil => rfl
  | cons p A ih =>
    obtain ⟨x, hx, rfl, hr⟩ := h
    cases A with
    | nil => rfl
    | cons q A =>
      have h1 := ih hr
      obtain ⟨y, hy, rfl, hr'⟩ := hr
      rw [Go.Proofs.Ytjcglpnpdalcjaa.isR]
      simp [h1]

/-- Just v and t have odd numbers of ends; none, if they are one. -/
def Par (m : List Pc) (v t : Nat) : Prop := ∀ u : Nat, u < 10 → endN m u % 2 = ((if u = v then 1 else 0) + (if u = t then 1 else 0)) % 2

theorem Tr.par {v t : Nat} {A : List Pc} (h : Tr v t A) : Par A v t := by
  induction A generalizing v with
  | nil => cases h; intro u _; rw [endN_nil]; split <;> rfl
  | cons p A ih =>
    obtain ⟨x, hx, rfl, hr⟩ := h
    intro u hu
    have h1 := ih hr u hu
    rw [endN_cons, one_end ((v : Int), (x : Int)) v x u rfl]
    unfold pe
    by_cases e1 : u = v <;> by_cases e2 : u = x <;> by_cases e3 : u = t <;> simp only [e1, e2, e3, if_true, if_false] at h1 ⊢ <;> simp_all <;> omega

theorem endN_rev (A : List Pc) (u : Nat) : endN A.reverse u = endN A u := endN_perm (List.reverse_perm A) u

theorem mapLf_rev (A : List Pc) (u : Nat) : endN (A.map lf) u = endN A.reverse u := by rw [endN_map, endN_rev]

/-- What holds at the head of the loop. -/
def Inv (v t j : Nat) (m : List Pc) (r : List Pc × List Pc) : Prop :=
  ∃ s, s < 10 ∧ Par r.2 v s ∧ Tr s t r.1.reverse ∧ (r.1.map lf ++ r.2).Perm m ∧ (∀ i, i < j → pr v i ∉ r.2) ∧ (∀ p ∈ r.1, ∀ u : Nat, (p.1 = (u : Int) ∨ p.2 = (u : Int)) → u = v ∨ endN r.2 u = 0)

/-- What holds at the end. -/
def Fin' (v t : Nat) (m : List Pc) (r : List Pc × List Pc) : Prop :=
  Tr v t r.1.reverse ∧ (r.1.map lf ++ r.2).Perm m ∧ endN r.2 v = 0 ∧ (∀ p ∈ r.1, ∀ u : Nat, (p.1 = (u : Int) ∨ p.2 = (u : Int)) → endN r.2 u = 0)

theorem loop_inv (k v t : Nat) (m : List Pc) (hv : v < 10) (ht : t < 10) (hok : OkM m) (hlen : m.length < k + 1) (hP : Par m v t)
    (ih : ∀ m' v' t', v' < 10 → t' < 10 → OkM m' → m'.length < k → Par m' v' t' → Fin' v' t' m' (hz k m' v')) :
    ∀ j, j ≤ 10 → Inv v t j m (hzL (hz k) v j m) := by
  intro j
  induction j with
  | zero =>
    intro _
    rw [hzL_zero]
    exact ⟨t, ht, hP, rfl, by simp, fun i hi => by omega, fun p hp => by simp at hp⟩
  | succ j ihj =>
    intro hj
    obtain ⟨s, hs, hPs, hTr, hPm, hno, htch⟩ := ihj (by omega)
    by_cases hin : pr v j ∈ (hzL (hz k) v j m).2
    · rw [hzL_yes _ _ _ _ hin]
      generalize hzL (hz k) v j m = r at *
      obtain ⟨A, L⟩ := r
      simp only at hPs hTr hPm hno htch hin ⊢
      have hLlen : L.length ≤ m.length := by have := hPm.length_eq; rw [List.length_append] at this; omega
      have hL1 : (L.erase (pr v j)).length = L.length - 1 := List.length_erase_of_mem hin
      have hL2 := List.length_pos_of_mem hin
      have hsubL : ∀ p ∈ L, p ∈ m := fun p hp => hPm.mem_iff.1 (List.mem_append.2 (Or.inr hp))
      have hsubE : ∀ p ∈ L.erase (pr v j), p ∈ m := fun p hp => hsubL p (List.mem_of_mem_erase hp)
      have hPar : Par (L.erase (pr v j)) j s := by
        intro u hu
        have h1 := hPs u hu
        rw [endN_erase v j u L hin] at h1
        unfold pe at h1
        omega
      obtain ⟨hT', hPm', h0', htch'⟩ := ih (L.erase (pr v j)) j s (by omega) hs (hok.sub hsubE) (by omega) hPar
      generalize hz k (L.erase (pr v j)) j = r' at *
      obtain ⟨A', L''⟩ := r'
      simp only at hT' hPm' h0' htch' ⊢
      have hE : ∀ u, endN L u = pe v j u + (endN A'.reverse u + endN L'' u) := by
        intro u
        rw [endN_erase v j u L hin, ← endN_perm hPm' u, endN_append, mapLf_rev]
      refine ⟨v, hv, ?_, ?_, ?_, ?_, ?_⟩
      · intro u hu
        have h1 := hPs u hu
        have h2 := hT'.par u hu
        rw [hE u] at h1
        unfold pe at h1
        simp only
        omega
      · simp only [List.reverse_append, List.reverse_cons, List.reverse_nil, List.nil_append, List.singleton_append]
        exact ⟨j, by omega, rfl, hT'.append hTr⟩
      · refine List.Perm.trans ?_ hPm
        simp only [List.map_append, List.map_cons, List.map_nil, List.append_assoc]
        refine List.Perm.append_left _ ?_
        refine List.Perm.trans ?_ (List.perm_cons_erase hin).symm
        refine List.Perm.trans ?_ (List.Perm.cons (pr v j) hPm')
        show (A'.map lf ++ (lf ((v : Int), (j : Int)) :: L'')).Perm (pr v j :: (A'.map lf ++ L''))
        exact List.perm_middle
      · intro i hi hmem
        by_cases e : i = j
        · subst e
          have := endN_mem hmem i (Or.inr rfl)
          simp only at this
          omega
        · refine hno i (by omega) (List.mem_of_mem_erase (hPm'.mem_iff.1 (List.mem_append.2 (Or.inr hmem))))
      · intro p hp u hu
        simp only [List.mem_append, List.mem_singleton] at hp
        rcases hp with (hp | hp) | hp
        · rcases htch p hp u hu with h | h
          · exact Or.inl h
          · right
            have := hE u
            simp only
            omega
        · exact Or.inr (htch' p hp u hu)
        · subst hp
          simp only at hu
          rcases hu with hu | hu
          · left; omega
          · right
            have : u = j := by omega
            rw [this]; exact h0'
    · rw [hzL_no _ _ _ _ hin]
      refine ⟨s, hs, hPs, hTr, hPm, fun i hi => ?_, htch⟩
      by_cases e : i = j
      · subst e; exact hin
      · exact hno i (by omega)

set_option maxHeartbeats 1000000 in
theorem hz_fin : ∀ (k : Nat) (m : List Pc) (v t : Nat), v < 10 → t < 10 → OkM m → m.length < k → Par m v t → Fin' v t m (hz k m v) := by
  intro k
  induction k with
  | zero => intro m v t _ _ _ h; omega
  | succ k ih =>
    intro m v t hv ht hok hlen hP
    rw [hz_succ]
    obtain ⟨s, hs, hPs, hTr, hPm, hno, htch⟩ := loop_inv k v t m hv ht hok hlen hP ih 10 (by omega)
    generalize hzL (hz k) v 10 m = r at *
    obtain ⟨A, L⟩ := r
    simp only at hPs hTr hPm hno htch
    have hokL : OkM L := hok.sub (fun p hp => hPm.mem_iff.1 (List.mem_append.2 (Or.inr hp)))
    have h0 : endN L v = 0 := by
      by_cases h : 0 < endN L v
      · obtain ⟨x, hx, hm⟩ := endN_pos hokL v h
        exact absurd hm (hno x hx)
      · omega
    have hsv : s = v := by
      have := hPs v hv
      rw [h0, if_pos rfl] at this
      by_cases e : v = s
      · exact e.symm
      · rw [if_neg e] at this; omega
    subst hsv
    refine ⟨hTr, hPm, h0, fun p hp u hu => ?_⟩
    rcases htch p hp u hu with h | h
    · rw [h]; exact h0
    · exact h

end Go.Proofs.Ytjcglpnpdalcjaa
