/-
  What a map's key of a side's type is. No conditions beyond those that each theorem bears.
-/
import Derived.Test.YtmboikpcbkiepaaKy
namespace Go.Proofs.Ytmboikpcbkiepaa
open Go.RowKit Go.Maps Go.WideMaps

theorem mapM_each {α β : Type} (f : α → Option β) : ∀ (l : List α) (ys : List β), l.mapM f = some ys → ∀ x ∈ l, ∃ y, f x = some y
  | [], _, _, x, hx => by cases hx
  | z :: l, ys, h, x, hx => by
    rw [List.mapM_cons] at h
    cases hz : f z with
    | none => rw [hz] at h; cases h
    | some y =>
      rw [hz] at h
      cases hl : l.mapM f with
      | none => simp [hl] at h
      | some rest =>
        rcases List.mem_cons.1 hx with rfl | hx
        · exact ⟨y, hz⟩
        · exact mapM_each f l rest hl x hx

set_option maxRecDepth 100000 in
theorem array_ints (d : Nat) (cs : List Value) (L : List Lit) (h : Try.prog.keyLits (d + 2) 52 cs = some L) : cs.length = 26 ∧ ∀ i, i < 26 → ∃ z, cs[i]? = some (.int .i64 z) ∧ (Lit.int .i64 z).wf = true := by
  unfold Program.keyLits at h
  rw [Try.underlying52] at h
  simp only at h
  rw [ky_c52] at h
  by_cases hl : cs.length = 26
  · rw [if_pos hl] at h
    refine ⟨hl, fun i hi => ?_⟩
    obtain ⟨ys, hy, -⟩ := Option.map_eq_some_iff.1 h
    obtain ⟨y, hy'⟩ := mapM_each _ _ _ hy i (by simpa using hi)
    rw [ky_c3, Nat.mul_one] at hy'
    have hi' : i < cs.length := by omega
    have e : (cs.drop i).take 1 = [cs[i]] := by
      rw [List.drop_eq_getElem_cons hi']
      rfl
    rw [e] at hy'
    unfold Program.keyLits at hy'
    rw [Try.underlying3] at hy'
    rw [List.getElem?_eq_getElem hi']
    generalize cs[i] = v at *
    cases v <;> simp at hy'
    obtain ⟨⟨rfl, hw⟩, -⟩ := hy'
    exact ⟨_, rfl, hw⟩
  · rw [if_neg hl] at h
    cases h

set_option maxRecDepth 100000 in
theorem side_ints (d : Nat) (cs : List Value) (L : List Lit) (h : Try.prog.keyLits (d + 3) 54 cs = some L) : cs.length = 52 ∧ ∀ i, i < 52 → ∃ z, cs[i]? = some (.int .i64 z) ∧ (Lit.int .i64 z).wf = true := by
  unfold Program.keyLits at h
  rw [Try.underlying54] at h
  simp only at h
  rw [ky_c54] at h
  by_cases hl : cs.length = 52
  · rw [if_pos ⟨hl, by kernel_rfl⟩] at h
    refine ⟨hl, ?_⟩
    obtain ⟨ys, hy, -⟩ := Option.map_eq_some_iff.1 h
    have m1 := mapM_each _ _ _ hy ⟨"men", 52, 0, false, "", "gameroom/gammon", 0⟩ (by simp)
    have m2 := mapM_each _ _ _ hy ⟨"others", 52, 26, false, "", "gameroom/gammon", 208⟩ (by simp)
    simp only [ky_c52, List.drop_zero] at m1 m2
    obtain ⟨y1, m1⟩ := m1
    obtain ⟨y2, m2⟩ := m2
    have a1 := (array_ints d _ _ m1).2
    have a2 := (array_ints d _ _ m2).2
    intro i hi
    by_cases h26 : i < 26
    · obtain ⟨z, e, hw⟩ := a1 i h26
      rw [List.getElem?_take, if_pos h26] at e
      exact ⟨z, e, hw⟩
    · obtain ⟨z, e, hw⟩ := a2 (i - 26) (by omega)
      rw [List.getElem?_take, if_pos (by omega), List.getElem?_drop, show 26 + (i - 26) = i by omega] at e
      exact ⟨z, e, hw⟩
  · rw [if_neg (fun e => hl e.1)] at h
    cases h

set_option maxRecDepth 100000 in
/-- A key of this type is a side. -/
theorem key_inv (v : Value) (kl : Lit) (h : keyOf Try.prog 54 v = some kl) : ∃ S : List Int, S.length = 52 ∧ v = .agg (ivs S).toArray ∧ ∀ z ∈ S, (Lit.int .i64 z).wf = true := by
  obtain ⟨d, hd⟩ := ky_deep
  unfold keyOf at h
  rw [Try.underlying54] at h
  simp only at h
  rw [ky_type, hd] at h
  cases hf : v.formed Try.prog 54 with
  | false => rw [hf] at h; cases h
  | true =>
    rw [hf] at h
    have h' : (Try.prog.keyLits (d + 3) 54 v.cells.toList).map (fun ls => Lit.string (keyBytes ls)) = some kl := h
    obtain ⟨L, hL, -⟩ := Option.map_eq_some_iff.1 h'
    obtain ⟨hl, hz⟩ := side_ints d _ _ hL
    have hv : ∃ xs, v = .agg xs := by
      simp only [Value.formed, Try.underlying54] at hf
      cases v <;> simp_all
    obtain ⟨xs, rfl⟩ := hv
    have hc : (Value.agg xs).cells.toList = xs.toList := by simp [Value.cells]
    rw [hc] at hl hz
    have hS : xs.toList = ivs (xs.toList.map (fun v => intOf v)) := by
      apply List.ext_getElem?
      intro i
      by_cases hi : i < 52
      · obtain ⟨z, e, _⟩ := hz i hi
        rw [e]
        simp only [ivs, List.getElem?_map, e, Option.map_some]
        rfl
      · rw [List.getElem?_eq_none (by omega), List.getElem?_eq_none (by rw [ivs_length, List.length_map]; omega)]
    refine ⟨xs.toList.map (fun v => intOf v), by rw [List.length_map]; exact hl, by rw [← hS], fun z hz' => ?_⟩
    obtain ⟨u, hu, rfl⟩ := List.mem_map.1 hz'
    obtain ⟨i, hi, e⟩ := List.getElem_of_mem hu
    obtain ⟨z, e2, hw⟩ := hz i (by omega)
    rw [List.getElem?_eq_getElem hi, e] at e2
    simp only [Option.some.injEq] at e2
    rw [e2]
    exact hw

end Go.Proofs.Ytmboikpcbkiepaa
