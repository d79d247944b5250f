/-
  Draughts: a way keeps the mover's pieces and takes as many of the other's as it jumps over. No conditions beyond those that each theorem bears.
-/
import Derived.Test.YtnbaangnpoblfaaDoorMg
import Derived.Test.YtnbaangnpoblfaaDoorTu
namespace Go.Proofs.YtnbaangnpoblfaaDoor

theorem nd_eq {α : Type} [DecidableEq α] {L M : List α} (hL : L.Nodup) (hM : M.Nodup) (h : ∀ x, x ∈ L ↔ x ∈ M) : L.length = M.length :=
  Nat.le_antisymm (nd_le L M hL (fun x hx => (h x).1 hx)) (nd_le M L hM (fun x hx => (h x).2 hx))

/-- So many of the places are among ov. -/
theorem count_in {ov : List Nat} (hn : ov.Nodup) (hr : ∀ m ∈ ov, 1 ≤ m ∧ m ≤ 32) : (List.range 32).countP (fun i => decide (i + 1 ∈ ov)) = ov.length := by
  rw [List.countP_eq_length_filter]
  have h1 : (((List.range 32).filter fun i => decide (i + 1 ∈ ov)).map fun i => i + 1).length = ov.length := by
    refine nd_eq ?_ hn (fun x => ?_)
    · unfold List.Nodup
      rw [List.pairwise_map]
      exact (List.Pairwise.filter _ List.nodup_range).imp (fun {a b} (h : a ≠ b) (e : a + 1 = b + 1) => h (by omega))
    · simp only [List.mem_map, List.mem_filter, List.mem_range, decide_eq_true_eq]
      constructor
      · rintro ⟨i, ⟨_, hi⟩, rfl⟩
        exact hi
      · intro hx
        have := hr x hx
        exact ⟨x - 1, ⟨by omega, by rw [show x - 1 + 1 = x by omega]; exact hx⟩, by omega⟩
  rw [List.length_map] at h1
  exact h1

theorem countP_part (p q : Nat → Bool) : ∀ L : List Nat, L.countP p = L.countP (fun i => p i && q i) + L.countP (fun i => p i && !q i)
  | [] => rfl
  | x :: L => by
    rw [List.countP_cons, List.countP_cons, List.countP_cons, countP_part p q L]
    cases p x <;> cases q x <;> simp <;> omega

theorem taken {Z : List Int} {t : Nat} (hM : Mb Z t) {y : List Nat × List Nat} (hy : y ∈ wyN Z t) : cn (doR Z y.1) t 32 = cn Z t 32 ∧ cn (doR Z y.1) (3 - t) 32 + y.2.length = cn Z (3 - t) 32 := by
  have hW := wyN_ok hM hy
  have hD := wyN_legs hy
  have hfr := wyN_free hy
  have ht : t = 1 ∨ t = 2 := by have := hM.tt; omega
  have h2' := hW.two
  have r0 : 1 ≤ y.1.getD 0 0 ∧ y.1.getD 0 0 ≤ 32 := hW.rng _ (by simp [List.getD, show 0 < y.1.length by omega])
  have rl : 1 ≤ y.1.getD (y.1.length - 1) 0 ∧ y.1.getD (y.1.length - 1) 0 ≤ 32 := hW.rng _ (by simp [List.getD, show y.1.length - 1 < y.1.length by omega])
  have h0 : own3 (Z.getD (y.1.getD 0 0) 0) = t := by
    have := (mem_plc.1 hW.fst).2.2
    rw [headD_getDq] at this
    exact this
  have hat := fun p (hp : p ≤ 32) => doR_at (Z := Z) hM.len hD hW.rng hp
  have hlen := doR_len (Z := Z) hM.len hD hW.rng
  have hnd := hW.nd
  have hov := hW.own
  have hzl := hM.len
  generalize y.1.getD 0 0 = W0 at *
  generalize y.1.getD (y.1.length - 1) 0 = L at *
  generalize doR Z y.1 = R at *
  generalize y.2 = ov at *
  have z0 : own3 0 = 0 := rfl
  have hLn : own3 (Z.getD L 0) ≠ 3 - t := by
    rcases hfr with e | e
    · rw [e, z0]; omega
    · rw [e, h0]; omega
  have hfar : ∀ (Y : List Int), Y.length = 33 → ∀ i, ¬ i + 1 ≤ 32 → Y.getD (i + 1) 0 = 0 := fun Y hl i h => by simp [List.getD, show ¬ i + 1 < Y.length by omega]
  constructor
  · have hle := count_swap (fun i => own3 (Z.getD (i + 1) 0) == t) (fun i => own3 (R.getD (i + 1) 0) == t) (W0 - 1) (L - 1) (by simp only [beq_iff_eq]; rw [show W0 - 1 + 1 = W0 by omega]; exact h0) (fun i hib hh => by
      simp only [beq_iff_eq] at hh ⊢
      by_cases h32 : i + 1 ≤ 32
      · rw [hat (i + 1) h32, if_neg (by omega)] at hh
        split at hh
        · omega
        · rename_i hc
          exact ⟨hh, fun e => hc (Or.inl (by omega))⟩
      · rw [hfar R hlen i h32] at hh
        omega) 32
    have hge := count_swap (fun i => own3 (R.getD (i + 1) 0) == t) (fun i => own3 (Z.getD (i + 1) 0) == t) (L - 1) (W0 - 1) (by
      simp only [beq_iff_eq]
      rw [show L - 1 + 1 = L by omega, hat L rl.2, if_pos rfl]
      exact own3_cwn h0 L) (fun i hib hh => by
      simp only [beq_iff_eq] at hh ⊢
      by_cases h32 : i + 1 ≤ 32
      · have hno : i + 1 ∉ ov := fun hm => by have := (hov _ hm).2.2; omega
        have hnl : i + 1 ≠ L := fun e => by
          rw [e] at hh
          rcases hfr with e2 | e2
          · rw [e2, z0] at hh; omega
          · omega
        rw [hat (i + 1) h32, if_neg hnl, if_neg (fun h => h.elim (fun e => hib (by omega)) hno)]
        exact ⟨hh, by omega⟩
      · rw [hfar Z hzl i h32] at hh
        omega) 32
    rw [if_pos (by omega), if_pos (by omega)] at hle hge
    unfold cn
    omega
  · unfold cn
    rw [countP_part (fun i => own3 (Z.getD (i + 1) 0) == 3 - t) (fun i => decide (i + 1 ∈ ov)), ← count_in hnd (fun m hm => ⟨(hov m hm).1, (hov m hm).2.1⟩), Nat.add_comm]
    congr 1
    · apply List.countP_congr
      intro i hi
      simp only [Bool.and_eq_true, beq_iff_eq, decide_eq_true_eq]
      exact ⟨fun h => ⟨(hov _ h).2.2, h⟩, fun h => h.2⟩
    · apply List.countP_congr
      intro i hi
      have hi' := List.mem_range.1 hi
      simp only [Bool.and_eq_true, beq_iff_eq, Bool.not_eq_true', decide_eq_false_iff_not]
      rw [hat (i + 1) (by omega)]
      by_cases e : i + 1 = L
      · rw [if_pos e, own3_cwn h0, e]
        exact ⟨fun h => by omega, fun h => absurd h.1 hLn⟩
      · rw [if_neg e]
        by_cases e2 : i + 1 = W0 ∨ i + 1 ∈ ov
        · rw [if_pos e2, z0]
          refine ⟨fun h => by omega, fun h => ?_⟩
          rcases e2 with e2 | e2
          · rw [e2, h0] at h; omega
          · exact absurd e2 h.2
        · rw [if_neg e2]
          exact ⟨fun h => ⟨h, fun hm => e2 (Or.inr hm)⟩, fun h => h.1⟩

/-- A step takes nothing; a jump as many as it has leaps. -/
theorem wyN_taken {Z : List Int} {t : Nat} (hM : Mb Z t) {y : List Nat × List Nat} (hy : y ∈ wyN Z t) : (y.2.length = 0 ∧ y.1.length = 2) ∨ (1 ≤ y.2.length ∧ y.1.length = y.2.length + 1) := by
  have h2 := (wyN_ok hM hy).two
  rcases wyN_legs hy with h | ⟨p, d, _, _, e1, e2⟩
  · have := h.1
    exact Or.inr ⟨by omega, this⟩
  · left
    rw [e1, e2]
    exact ⟨rfl, rfl⟩

end Go.Proofs.YtnbaangnpoblfaaDoor
