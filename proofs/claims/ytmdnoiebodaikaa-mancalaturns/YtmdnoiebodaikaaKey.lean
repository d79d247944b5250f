/-
  Boards as the keys of a map. No conditions beyond those that each theorem bears.
-/
import Derived.Test.YtmdnoiebodaikaaPlace
import Derived.DeepKeys4
import Derived.Maps.Keyed
namespace Go.Proofs.Ytmdnoiebodaikaa
open Go.RowKit Go.Maps Go.WideMaps

theorem ky_laidOut : laidOutB Try.prog = true := by kernel_rfl
theorem ky_row : 46 < Try.prog.types.size := of_decide_eq_true (by kernel_rfl)
theorem ky_type : Try.prog.keyType 46 = true := by kernel_rfl
theorem ky_at : Try.prog.keyTypeAt 3 46 = true := by kernel_rfl
theorem ky_c3 : Try.prog.cellsOf 3 = 1 := by kernel_rfl
theorem ky_c44 : Try.prog.cellsOf 44 = 14 := by kernel_rfl
theorem ky_c46 : Try.prog.cellsOf 46 = 16 := by kernel_rfl
theorem ky_deep : ∃ d, Try.prog.types.size + 1 = d + 3 := ⟨Try.prog.types.size - 2, by have := ky_row; omega⟩

/-- What the laws on a map's block need of a board. -/
theorem board_keyed : Keyed Try.prog 46 := Keyed.of_law (deep_law_laid ky_laidOut (m := 3) (by omega) ky_row ky_at (by rw [Try.underlying46]))

theorem mapM_all {α β : Type} (f : α → Option β) (g : α → β) : ∀ l : List α, (∀ x ∈ l, f x = some (g x)) → l.mapM f = some (l.map g)
  | [], _ => rfl
  | x :: l, h => by
    rw [List.mapM_cons, h x List.mem_cons_self, mapM_all f g l (fun y hy => h y (List.mem_cons_of_mem _ hy))]
    rfl

theorem key_int (d : Nat) (z : Int) (hw : (Lit.int .i64 z).wf = true) : Try.prog.keyLits (d + 1) 3 [.int .i64 z] = some [Lit.int .i64 z] := by
  unfold Program.keyLits
  rw [Try.underlying3]
  simp only
  rw [if_pos ⟨by trivial, hw⟩]

theorem key_array (d : Nat) (S : List Int) (hl : S.length = 14) (hw : ∀ z ∈ S, (Lit.int .i64 z).wf = true) : Try.prog.keyLits (d + 2) 44 (ivs S) = some (((List.range 14).map fun i => [Lit.int .i64 (S.getD i 0)]).flatten) := by
  unfold Program.keyLits
  rw [Try.underlying44]
  simp only
  rw [if_pos (by rw [ky_c44, ivs_length, hl]), mapM_all _ (fun i => [Lit.int .i64 (S.getD i 0)]) _ (fun i hi => ?_)]
  · rfl
  · have hi' : i < S.length := by rw [hl]; simpa using hi
    rw [ky_c3, Nat.mul_one]
    have e : ((ivs S).drop i).take 1 = [.int .i64 (S.getD i 0)] := by
      simp [ivs, List.getD, hi', List.drop_eq_getElem_cons, List.take]
    rw [e]
    exact key_int d _ (hw _ (by simp [List.getD, hi']))

theorem key_board (d : Nat) (S : List Int) (p t : Nat) (hl : S.length = 14) (hw : ∀ z ∈ S, (Lit.int .i64 z).wf = true) (hp : (Lit.int .i64 (p : Int)).wf = true) (ht : (Lit.int .i64 (t : Int)).wf = true) : ∃ L, Try.prog.keyLits (d + 3) 46 (ivs (bdL S p t)) = some L := by
  unfold Program.keyLits
  rw [Try.underlying46]
  simp only
  have h1 : (ivs (bdL S p t)).take 14 = ivs S := by simp [ivs, bdL, hl]
  have h2 : ((ivs (bdL S p t)).drop 14).take 1 = [.int .i64 p] := by simp [ivs, bdL, hl]
  have h3 : ((ivs (bdL S p t)).drop 15).take 1 = [.int .i64 t] := by
    rw [show (15 : Nat) = 14 + 1 from rfl, ← List.drop_drop, show (ivs (bdL S p t)).drop 14 = [.int .i64 p, .int .i64 t] by simp [ivs, bdL, hl]]
    rfl
  rw [if_pos ⟨by rw [ky_c46, ivs_length, bdL_length _ _ _ hl], by kernel_rfl⟩]
  simp only [List.mapM_cons, List.mapM_nil, ky_c44, ky_c3, List.drop_zero, h1, h2, h3]
  rw [key_array d S hl hw, key_int (d + 1) _ hp, key_int (d + 1) _ ht]
  exact ⟨_, rfl⟩

/-- A board has a key. -/
theorem key_mk (S : List Int) (p t : Nat) (hl : S.length = 14) (hw : ∀ z ∈ S, (Lit.int .i64 z).wf = true) (hp : (Lit.int .i64 (p : Int)).wf = true) (ht : (Lit.int .i64 (t : Int)).wf = true) : ∃ kl, keyOf Try.prog 46 (bv S p t) = some kl := by
  obtain ⟨d, hd⟩ := ky_deep
  obtain ⟨L, hL⟩ := key_board d S p t hl hw hp ht
  refine ⟨.string (keyBytes L), ?_⟩
  unfold keyOf
  rw [Try.underlying46]
  simp only
  have hf : (Value.agg (ivs (bdL S p t)).toArray).formed Try.prog 46 = true := by
    simp only [Value.formed, Try.underlying46, ky_c46]
    simp [ivs_length, bdL_length _ _ _ hl]
  rw [ky_type, hf, hd]
  show (if (true && true) = true then (Try.prog.keyLits (d + 3) 46 (ivs (bdL S p t))).map _ else none) = _
  rw [hL]
  rfl

end Go.Proofs.Ytmdnoiebodaikaa
