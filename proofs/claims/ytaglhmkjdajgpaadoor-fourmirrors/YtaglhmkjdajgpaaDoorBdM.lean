/-
  The two searches agree: what the program finds with its first winning column is what the document finds by looking at all. No conditions beyond those that each theorem bears.
-/
import Derived.Test.YtaglhmkjdajgpaaDoorBd
import Derived.Test.YtaglhmkjdajgpaaDoorCtM
namespace Go.Proofs.YtaglhmkjdajgpaaDoor

theorem rst_keep {V : Nat × Nat → Int} {B : Int} : ∀ (xs : List (Nat × Nat)) (r : Int × Int), (∀ x, x ∈ xs → V x ≤ B) → r.1 = B → xs.foldl (rst1 V) r = r
  | [], _, _, _ => rfl
  | x :: xs, r, h, hr => by
    have hx := h x (by simp)
    rw [List.foldl_cons, show rst1 V r x = r by unfold rst1; rw [if_neg (by omega)]]
    exact rst_keep xs r (fun y hy => h y (by simp [hy])) hr

theorem rst_lt {V : Nat × Nat → Int} {B : Int} : ∀ (xs : List (Nat × Nat)) (r : Int × Int), (∀ x, x ∈ xs → V x < B) → r.1 < B → (xs.foldl (rst1 V) r).1 < B
  | [], _, _, hr => hr
  | x :: xs, r, h, hr => by
    rw [List.foldl_cons]
    refine rst_lt xs _ (fun y hy => h y (by simp [hy])) ?_
    unfold rst1
    split
    · exact h x (by simp)
    · exact hr

theorem rst1_hit {V : Nat × Nat → Int} {B : Int} {r : Int × Int} {x : Nat × Nat} (h : r.1 < B) (hv : V x = B) : rst1 V r x = (B, (x.1 : Int)) := by
  subst hv
  unfold rst1
  rw [if_pos h]

theorem rst_stp {V V' : Nat × Nat → Int} : ∀ (xs : List (Nat × Nat)) (r r' : Int × Int), (∀ x, x ∈ xs → V x = V' x ∧ -1000 < V x) → (r = (-1000, -1) ∧ r' = (0, -1) ∨ r = r' ∧ 0 ≤ r.2) →
    (xs.foldl (rst1 V) r = (-1000, -1) ∧ xs.foldl (stp1 V') r' = (0, -1) ∨ xs.foldl (rst1 V) r = xs.foldl (stp1 V') r' ∧ 0 ≤ (xs.foldl (rst1 V) r).2)
  | [], _, _, _, h => h
  | x :: xs, r, r', hx, h => by
    rw [List.foldl_cons, List.foldl_cons]
    obtain ⟨e, hb⟩ := hx x (by simp)
    refine rst_stp xs _ _ (fun y hy => hx y (by simp [hy])) (Or.inr ?_)
    rcases h with ⟨rfl, rfl⟩ | ⟨rfl, h2⟩
    · unfold rst1 stp1
      rw [if_pos hb, if_pos (Or.inl rfl), e]
      exact ⟨rfl, by dsimp only; omega⟩
    · unfold rst1 stp1
      by_cases hlt : r.1 < V x
      · rw [if_pos hlt, if_pos (Or.inr (by rw [← e]; exact hlt)), e]
        exact ⟨rfl, by dsimp only; omega⟩
      · rw [if_neg hlt, if_neg (by rintro (h | h); · omega
                                   · rw [← e] at h; exact hlt h)]
        exact ⟨rfl, h2⟩

theorem rst_abs {V : Nat × Nat → Int} {B : Int} (hB : 0 ≤ B) : ∀ (xs : List (Nat × Nat)) (r : Int × Int), (∀ x, x ∈ xs → -B ≤ V x ∧ V x ≤ B) → (r = (-1000, -1) ∨ (-B ≤ r.1 ∧ r.1 ≤ B)) → (xs.foldl (rst1 V) r = (-1000, -1) ∨ (-B ≤ (xs.foldl (rst1 V) r).1 ∧ (xs.foldl (rst1 V) r).1 ≤ B))
  | [], _, _, h => h
  | x :: xs, r, hx, h => by
    rw [List.foldl_cons]
    refine rst_abs hB xs _ (fun y hy => hx y (by simp [hy])) ?_
    unfold rst1
    split
    · exact Or.inr (hx x (by simp))
    · exact h

/-- The two searches agree, where nobody has a row; and what they find is less than a row at once. -/
theorem rbd_bvl {W H k : Nat} (hW : 1 ≤ W ∧ W ≤ 10) (hk : 1 ≤ k) : ∀ (d s : Nat) (Z : List Int) (m : Nat), (m = 1 ∨ m = 2) → s + d ≤ 6 → Zok (W * H) Z → wnZ W H k Z = 0 →
    rbd W H k d s Z m = bvl W H k d s Z m ∧ -(99 - (s : Int)) ≤ (rbd W H k d s Z m).1 ∧ (rbd W H k d s Z m).1 ≤ 99 - (s : Int)
  | 0, s, Z, m, hm, hs, hz, h0 => by
    rw [rbd_zero (by omega) (by omega), bvl_zero]
    exact ⟨rfl, by dsimp only; omega, by dsimp only; omega⟩
  | d + 1, s, Z, m, hm, hs, hz, h0 => by
    have hmem : ∀ x, x ∈ drK W H Z W → (inR W H (Z.set x.2 (m : Int)) x.2 k = true → -(rbd W H k d (s + 1) (Z.set x.2 (m : Int)) (3 - m)).1 = 99 - (s : Int)) ∧
        (inR W H (Z.set x.2 (m : Int)) x.2 k = false → -(rbd W H k d (s + 1) (Z.set x.2 (m : Int)) (3 - m)).1 = -(bvl W H k d (s + 1) (Z.set x.2 (m : Int)) (3 - m)).1 ∧ -(98 - (s : Int)) ≤ -(rbd W H k d (s + 1) (Z.set x.2 (m : Int)) (3 - m)).1 ∧ -(rbd W H k d (s + 1) (Z.set x.2 (m : Int)) (3 - m)).1 ≤ 98 - (s : Int)) := by
      intro x hx
      obtain ⟨hx1, hx2⟩ := drK_mem.1 hx
      obtain ⟨hp, hp0, _⟩ := fallN_lt hx1 _ _ hx2
      have hw := wnZ_set (p := x.2) (m := m) (by omega) hk hz.1 hp hm hz.2 h0
      refine ⟨fun hr => ?_, fun hr => ?_⟩
      · rw [if_pos hr] at hw
        rw [rbd_won (by omega) (by omega)]
        dsimp only
        omega
      · rw [if_neg (by rw [hr]; simp)] at hw
        obtain ⟨i1, i2, i3⟩ := rbd_bvl hW hk d (s + 1) (Z.set x.2 (m : Int)) (3 - m) (by omega) (by omega) (hz.set x.2 (by omega)) hw
        rw [i1] at i2 i3
        rw [i1]
        refine ⟨rfl, ?_, ?_⟩ <;> omega
    rw [rbd_succ (by omega) (by omega)]
    cases hf : (drK W H Z W).find? (fun x => inR W H (Z.set x.2 (m : Int)) x.2 k) with
    | some x0 =>
      obtain ⟨hx0, pre, rest, hDL, hpre⟩ := List.find?_eq_some_iff_append.1 hf
      have hpre' : ∀ y, y ∈ pre → inR W H (Z.set y.2 (m : Int)) y.2 k = false := fun y hy => by simpa using hpre y hy
      rw [bvl_hit hDL hpre' hx0]
      have hval : (drK W H Z W).foldl (rst1 fun x => -(rbd W H k d (s + 1) (Z.set x.2 (m : Int)) (3 - m)).1) (-1000, -1) = (99 - (s : Int), (x0.1 : Int)) := by
        have hin : ∀ y, y ∈ pre ++ x0 :: rest → y ∈ drK W H Z W := fun y hy => by rw [hDL]; exact hy
        rw [hDL, List.foldl_append, List.foldl_cons]
        have h1 := rst_lt (V := fun x => -(rbd W H k d (s + 1) (Z.set x.2 (m : Int)) (3 - m)).1) (B := 99 - (s : Int)) pre (-1000, -1) (fun y hy => by
          have := ((hmem y (hin y (by simp [hy]))).2 (hpre' y hy)).2.2
          omega) (by dsimp only; omega)
        have h2 := (hmem x0 (hin x0 (by simp))).1 hx0
        have h3 : rst1 (fun x => -(rbd W H k d (s + 1) (Z.set x.2 (m : Int)) (3 - m)).1) (pre.foldl (rst1 fun x => -(rbd W H k d (s + 1) (Z.set x.2 (m : Int)) (3 - m)).1) (-1000, -1)) x0 = (99 - (s : Int), (x0.1 : Int)) := by
          exact rst1_hit h1 h2
        rw [h3]
        refine rst_keep (B := 99 - (s : Int)) rest _ (fun y hy => ?_) rfl
        have := hmem y (hin y (by simp [hy]))
        cases hr : inR W H (Z.set y.2 (m : Int)) y.2 k with
        | true => have := this.1 hr; omega
        | false => have := (this.2 hr).2.2; omega
      rw [hval]
      unfold rfin
      rw [if_neg (by dsimp only; omega)]
      refine ⟨?_, by dsimp only; omega, by dsimp only; omega⟩
      rw [show (99 - (s : Int)) = 100 - ((s + 1 : Nat) : Int) by omega]
    | none =>
      have hall : ∀ y, y ∈ drK W H Z W → inR W H (Z.set y.2 (m : Int)) y.2 k = false := fun y hy => by simpa using List.find?_eq_none.1 hf y hy
      rw [bvl_all hall]
      have h1 := rst_stp (V := fun x => -(rbd W H k d (s + 1) (Z.set x.2 (m : Int)) (3 - m)).1) (V' := fun x => -(bvl W H k d (s + 1) (Z.set x.2 (m : Int)) (3 - m)).1) (drK W H Z W) (-1000, -1) (0, -1) (fun x hx => by
        have := (hmem x hx).2 (hall x hx)
        exact ⟨this.1, by omega⟩) (Or.inl ⟨rfl, rfl⟩)
      have h2 := rst_abs (V := fun x => -(rbd W H k d (s + 1) (Z.set x.2 (m : Int)) (3 - m)).1) (B := 98 - (s : Int)) (by omega) (drK W H Z W) (-1000, -1) (fun x hx => ((hmem x hx).2 (hall x hx)).2) (Or.inl rfl)
      rcases h1 with ⟨e1, e2⟩ | ⟨e1, e2⟩
      · rw [e1, e2]
        unfold rfin
        rw [if_pos (by dsimp only; omega)]
        exact ⟨rfl, by dsimp only; omega, by dsimp only; omega⟩
      · unfold rfin
        rw [if_neg (by omega)]
        refine ⟨e1, ?_⟩
        rcases h2 with h2 | h2
        · rw [h2] at e2; dsimp only at e2; omega
        · omega

end Go.Proofs.YtaglhmkjdajgpaaDoor
