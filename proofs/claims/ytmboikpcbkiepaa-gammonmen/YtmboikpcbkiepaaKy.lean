/-
  Sides as the keys of a map. No conditions beyond those that each theorem bears.
-/
import Derived.Test.YtmboikpcbkiepaaSd
import Derived.DeepKeys4
import Derived.Maps.Keyed
namespace Go.Proofs.Ytmboikpcbkiepaa
open Go.RowKit Go.Maps Go.WideMaps

theorem ky_laidOut : laidOutB Try.prog = true := by kernel_rfl
theorem ky_row : 54 < Try.prog.types.size := of_decide_eq_true (by kernel_rfl)
theorem ky_type : Try.prog.keyType 54 = true := by kernel_rfl
theorem ky_at : Try.prog.keyTypeAt 3 54 = true := by kernel_rfl
theorem ky_c3 : Try.prog.cellsOf 3 = 1 := by kernel_rfl
theorem ky_c52 : Try.prog.cellsOf 52 = 26 := by kernel_rfl
theorem ky_c54 : Try.prog.cellsOf 54 = 52 := by kernel_rfl
theorem ky_deep : ∃ d, Try.prog.types.size + 1 = d + 3 := ⟨Try.prog.types.size - 2, by have := ky_row; omega⟩

/-- What the laws on a map's block need of a side. -/
theorem side_keyed : Keyed Try.prog 54 := Keyed.of_law (deep_law_laid ky_laidOut (m := 3) (by omega) ky_row ky_at (by rw [Try.underlying54]))

theorem mapM_all {α β : Type} (f : α → Option β) (g : α → β) : ∀ l : List α, (∀ x ∈ l, f x = some (g x)) → l.mapM f = some (l.map g)
  | [], _ => rfl
  | x :: l, h => by
    rw [List.mapM_cons, h x List.mem_cons_self, mapM_all f g l (fun y hy => h y (List.mem_cons_of_mem _ hy))]
    rfl

theorem key_array (d : Nat) (S : List Int) (hl : S.length = 26) (hw : ∀ z ∈ S, (Lit.int .i64 z).wf = true) : Try.prog.keyLits (d + 2) 52 (ivs S) = some (((List.range 26).map fun i => [Lit.int .i64 (S.getD i 0)]).flatten) := by
  unfold Program.keyLits
  rw [Try.underlying52]
  simp only
  rw [if_pos (by rw [ky_c52, ivs_length, hl]), mapM_all _ (fun i => [Lit.int .i64 (S.getD i 0)]) _ (fun i hi => ?_)]
  · rfl
  · have hi' : i < S.length := by rw [hl]; simpa using hi
    rw [ky_c3, Nat.mul_one]
    have e : ((ivs S).drop i).take 1 = [.int .i64 (S.getD i 0)] := by
      simp [ivs, List.getD, hi', List.drop_eq_getElem_cons, List.take]
    rw [e]
    unfold Program.keyLits
    rw [Try.underlying3]
    simp only
    rw [if_pos ⟨by trivial, hw _ (by simp [List.getD, hi'])⟩]

theorem key_side (d : Nat) (S : List Int) (hl : S.length = 52) (hw : ∀ z ∈ S, (Lit.int .i64 z).wf = true) : ∃ L, Try.prog.keyLits (d + 3) 54 (ivs S) = some L := by
  unfold Program.keyLits
  rw [Try.underlying54]
  simp only
  have h1 : (ivs S).take 26 = ivs (S.take 26) := by simp [ivs, List.map_take]
  have h2 : ((ivs S).drop 26).take 26 = ivs (S.drop 26) := by
    rw [show (ivs S).drop 26 = ivs (S.drop 26) by simp [ivs, List.map_drop], List.take_of_length_le (by rw [ivs_length, List.length_drop, hl]; omega)]
  rw [if_pos ⟨by rw [ky_c54, ivs_length, hl], by kernel_rfl⟩]
  simp only [List.mapM_cons, List.mapM_nil, ky_c52, List.drop_zero, h1, h2]
  rw [key_array d (S.take 26) (by rw [List.length_take, hl]; rfl) (fun z hz => hw z (List.mem_of_mem_take hz)), key_array d (S.drop 26) (by rw [List.length_drop, hl]) (fun z hz => hw z (List.mem_of_mem_drop hz))]
  exact ⟨_, rfl⟩

/-- A side has a key. -/
theorem key_mk (S : List Int) (hl : S.length = 52) (hw : ∀ z ∈ S, (Lit.int .i64 z).wf = true) : ∃ kl, keyOf Try.prog 54 (.agg (ivs S).toArray) = some kl := by
  obtain ⟨d, hd⟩ := ky_deep
  obtain ⟨L, hL⟩ := key_side d S hl hw
  refine ⟨.string (keyBytes L), ?_⟩
  unfold keyOf
  rw [Try.underlying54]
  simp only
  have hf : (Value.agg (ivs S).toArray).formed Try.prog 54 = true := by
    simp only [Value.formed, Try.underlying54, ky_c54]
    simp [ivs_length, hl]
  rw [ky_type, hf, hd]
  show (if (true && true) = true then (Try.prog.keyLits (d + 3) 54 (ivs S)).map _ else none) = _
  rw [hL]
  rfl

end Go.Proofs.Ytmboikpcbkiepaa
