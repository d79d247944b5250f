/-
  The two counts of rows of drops agree; 'gameroomlaw.FourCounts' returns true. No conditions beyond those that each theorem bears.
-/
import Derived.Test.YtaglhmkjdajgpaaDoorCd
import Derived.Test.YtaglhmkjdajgpaaDoorCt
namespace Go.Proofs.YtaglhmkjdajgpaaDoor
open Go.RowKit

theorem cnt_all_set {Z : List Int} {p : Nat} {v x : Int} (hp : p < Z.length) : cnt (Z.set p x) v (Z.set p x).length + (if Z.getD p 0 = v then 1 else 0) = cnt Z v Z.length + (if x = v then 1 else 0) := by
  unfold cnt
  rw [List.take_length, List.take_length]
  induction Z generalizing p with
  | nil => simp at hp
  | cons z Z ih =>
    cases p with
    | zero =>
      rw [List.set_cons_zero, List.filter_cons, List.filter_cons]
      simp only [List.getD, List.getElem?_cons_zero, Option.getD_some]
      by_cases e1 : z = v <;> by_cases e2 : x = v <;> simp [e1, e2] <;> omega
    | succ p =>
      have hi := ih (p := p) (by simpa using hp)
      rw [List.set_cons_succ, List.filter_cons, List.filter_cons]
      have hg : (z :: Z).getD (p + 1) 0 = Z.getD p 0 := by simp [List.getD]
      rw [hg]
      by_cases e1 : z = v
      · simp only [e1, beq_self_eq_true, if_true, List.length_cons]; omega
      · have e1' : (z == v) = false := by simpa using e1
        simp only [e1', Bool.false_eq_true, if_false]
        exact hi

/-- The mover puts his sign: then the other moves. -/
theorem mvO_set {Z : List Int} {p m : Nat} (hp : p < Z.length) (h0 : Z.getD p 0 = 0) (hm : m = 1 ∨ m = 2) (h : mvO Z = m) : mvO (Z.set p (m : Int)) = 3 - m := by
  have h1 := cnt_all_set (v := 1) (x := (m : Int)) hp
  have h2 := cnt_all_set (v := 2) (x := (m : Int)) hp
  rw [h0, if_neg (by omega)] at h1 h2
  unfold mvO at h ⊢
  rcases hm with rfl | rfl
  · rw [if_pos (show ((1 : Nat) : Int) = 1 from rfl)] at h1
    rw [if_neg (by omega)] at h2
    by_cases e : cnt Z 1 Z.length = cnt Z 2 Z.length
    · rw [if_neg (by omega), if_pos (by omega)]
    · rw [if_neg e] at h
      split at h <;> omega
  · rw [if_neg (by omega)] at h1
    rw [if_pos (show ((2 : Nat) : Int) = 2 from rfl)] at h2
    by_cases e : cnt Z 1 Z.length = cnt Z 2 Z.length
    · rw [if_pos e] at h; omega
    · rw [if_neg e] at h
      split at h
      · rename_i e2
        rw [if_pos (by omega)]
      · omega

theorem drK_mem {W H : Nat} {Z : List Int} {x : Nat × Nat} : ∀ {j : Nat}, x ∈ drK W H Z j ↔ x.1 < j ∧ fallN W Z x.1 H = some x.2
  | 0 => by rw [drK_zero]; simp
  | j + 1 => by
    obtain ⟨c, p⟩ := x
    cases hf : fallN W Z j H with
    | none =>
      rw [drK_none hf, drK_mem]
      constructor
      · rintro ⟨h1, h2⟩; exact ⟨by dsimp only at h1 ⊢; omega, h2⟩
      · rintro ⟨h1, h2⟩
        dsimp only at h1 h2 ⊢
        by_cases e : c = j
        · subst e; rw [hf] at h2; cases h2
        · exact ⟨by omega, h2⟩
    | some q =>
      rw [drK_some hf, List.mem_append, drK_mem, List.mem_singleton]
      dsimp only
      constructor
      · rintro (⟨h1, h2⟩ | h)
        · exact ⟨by omega, h2⟩
        · obtain ⟨rfl, rfl⟩ := Prod.mk.inj h; exact ⟨by omega, hf⟩
      · rintro ⟨h1, h2⟩
        by_cases e : c = j
        · subst e; rw [hf] at h2; right; rw [Option.some.inj h2]
        · exact Or.inl ⟨by omega, h2⟩

/-- The two counts agree, where nobody has a row. -/
theorem rcd_cdp {W H k : Nat} (hW : 1 ≤ W) (hk : 1 ≤ k) : ∀ (l : Nat) (Z : List Int) (m : Nat), (m = 1 ∨ m = 2) → Zok (W * H) Z → mvO Z = m → wnZ W H k Z = 0 → rcd W H k l Z = cdp W H k l Z m
  | 0, _, _, _, _, _, _ => by rw [rcd_zero, cdp_zero]
  | l + 1, Z, m, hm, hz, hv, h0 => by
    rw [rcd_succ (by omega), cdp_succ]
    congr 1
    apply List.map_congr_left
    intro x hx
    obtain ⟨hx1, hx2⟩ := drK_mem.1 hx
    obtain ⟨hp, hp0, _⟩ := fallN_lt hx1 _ _ hx2
    rw [hv]
    have hs := hz.set x.2 (x := (m : Int)) (by omega)
    have hw := wnZ_set (p := x.2) (m := m) (by omega) hk hz.1 hp hm hz.2 h0
    unfold tmC
    by_cases hr : inR W H (Z.set x.2 (m : Int)) x.2 k = true
    · rw [if_pos hr] at hw
      cases l with
      | zero => rw [if_pos (Or.inl rfl), rcd_zero, cdp_zero]
      | succ l =>
        rw [if_neg (by rintro (h | h); · omega
                       · rw [hr] at h; cases h), rcd_won (by omega)]
    · rw [if_neg hr] at hw
      rw [if_pos (Or.inr (by simpa using hr))]
      exact rcd_cdp hW hk l _ (3 - m) (by omega) hs (mvO_set (by rw [hz.1]; exact hp) hp0 hm hv) hw

theorem zer_ok (n : Nat) : Zok n (zer n) := ⟨zer_len n, fun i _ => by rw [zer_getD]; omega⟩

theorem mvO_zer (n : Nat) : mvO (zer n) = 1 := by
  unfold mvO
  have h : ∀ v : Int, v ≠ 0 → cnt (zer n) v (zer n).length = 0 := by
    intro v hv
    unfold cnt zer
    rw [List.take_length, List.filter_replicate, if_neg (by simpa using fun e : (0 : Int) = v => hv e.symm)]
    rfl
  rw [h 1 (by omega), h 2 (by omega), if_pos rfl]

theorem wnZ_zer (W H k : Nat) : wnZ W H k (zer (W * H)) = 0 := by
  have : prt W H (zer (W * H)) k (W * H) = [] := by
    apply List.eq_nil_iff_forall_not_mem.2
    intro q hq
    have := (mem_prt.1 hq).2.1
    rw [zer_getD] at this
    exact this rfl
  unfold wnZ
  rw [this]
  unfold wn sg
  simp

theorem count_same (W H k l : Nat) (hW : 1 ≤ W) (hk : 1 ≤ k) : rcd W H k l (zer (W * H)) = cdp W H k l (zer (W * H)) 1 :=
  rcd_cdp hW hk l _ 1 (Or.inl rfl) (zer_ok _) (mvO_zer _) (wnZ_zer W H k)

end Go.Proofs.YtaglhmkjdajgpaaDoor
