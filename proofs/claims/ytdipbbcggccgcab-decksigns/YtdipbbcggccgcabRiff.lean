/-
  Small facts on lists, and on rows of ints that the call itself made.
-/
import Derived.Test.YtdipbbcggccgcabBase
namespace Go.Proofs.Ytdipbbcggccgcab
open Go.RowKit

theorem ints_set (L : List Int) (i : Nat) (x : Int) : (L.map (Value.int .i64)).set i (.int .i64 x) = (L.set i x).map (Value.int .i64) := by
  rw [List.map_set]

theorem getD_set (L : List Int) (i j : Nat) (x : Int) (hi : i < L.length) : (L.set i x).getD j 0 = if j = i then x else L.getD j 0 := by
  simp only [List.getD, List.getElem?_set]
  by_cases h : i = j
  · subst h; simp [hi]
  · rw [if_neg h, if_neg (fun e => h e.symm)]

theorem made_ints (n : Nat) : (madeCells #[Value.int .i64 0] n).toList = (List.replicate n (0 : Int)).map (Value.int .i64) := by
  rw [toList_madeCells_one, List.map_replicate]

theorem own_cell {wr : World} {base g n : Nat} {L : List Int} (h : wr.ownsRow base 3 1 (.slice (some ⟨g, 0, none⟩) n n) n (L.map (Value.int .i64))) (p : Nat) (hp : p < n) :
    wr.cell? ⟨g, p, none⟩ = some (.int .i64 (L.getD p 0)) ∧ wr.frozen? ⟨g, p, none⟩ = false := by
  refine ⟨?_, h.frozenAt p⟩
  have hl : L.length = n := by simpa using h.1
  rw [h.cellAt p (by omega)]
  simp [List.getD, hl, hp]

theorem own_set {wr : World} {base g n : Nat} {L : List Int} (h : wr.ownsRow base 3 1 (.slice (some ⟨g, 0, none⟩) n n) n (L.map (Value.int .i64))) (p : Nat) (x : Int) :
    (wr.setCell ⟨g, p, none⟩ (.int .i64 x)).ownsRow base 3 1 (.slice (some ⟨g, 0, none⟩) n n) n ((L.set p x).map (Value.int .i64)) := by
  have := (h.stored p (.int .i64 x)).1
  rwa [ints_set] at this

end Go.Proofs.Ytdipbbcggccgcab
