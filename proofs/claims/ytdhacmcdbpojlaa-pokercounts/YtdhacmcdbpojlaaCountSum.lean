/-
  The counts of all classes are 2598960 together. No conditions beyond those that each theorem bears.
-/
import Derived.Test.YtdhacmcdbpojlaaCounts
namespace Go.Proofs.Ytdhacmcdbpojlaa
open Go.RowKit Go.Shelf

/-- How many lists of 0, 1, .., 5 there are, of one thing more. -/
def rowUp : List Nat → List Nat
  | [a, b, c, d, e, f] => [a, a + b, b + c, c + d, d + e, e + f]
  | l => l

def rowOf : Nat → List Nat
  | 0 => [1, 0, 0, 0, 0, 0]
  | n + 1 => rowUp (rowOf n)

theorem comb_lens : ∀ (l : List Nat), rowOf l.length = [(comb 0 l).length, (comb 1 l).length, (comb 2 l).length, (comb 3 l).length, (comb 4 l).length, (comb 5 l).length] := by
  intro l
  induction l with
  | nil => rfl
  | cons x l ih =>
    rw [List.length_cons, rowOf, ih]
    simp only [rowUp, comb, List.length_append, List.length_map, List.length_cons, List.length_nil]

theorem comb52 : (comb 5 (List.range 52)).length = 2598960 := by
  have h := comb_lens (List.range 52)
  rw [List.length_range] at h
  have h2 : rowOf 52 = [1, 52, 1326, 22100, 270725, 2598960] := by decide +kernel
  rw [h2] at h
  simp only [List.cons.injEq] at h
  exact h.2.2.2.2.2.1.symm

theorem count_nine : ∀ (l : List Nat), (∀ x ∈ l, x < 9) → l.count 0 + l.count 1 + l.count 2 + l.count 3 + l.count 4 + l.count 5 + l.count 6 + l.count 7 + l.count 8 = l.length := by
  intro l
  induction l with
  | nil => intro _; rfl
  | cons x l ih =>
    intro h
    have h1 := ih (fun y hy => h y (by simp [hy]))
    have hx := h x (by simp)
    simp only [List.count_cons, List.length_cons]
    obtain e | e | e | e | e | e | e | e | e : x = 0 ∨ x = 1 ∨ x = 2 ∨ x = 3 ∨ x = 4 ∨ x = 5 ∨ x = 6 ∨ x = 7 ∨ x = 8 := by omega
    all_goals (subst e; simp; omega)

/-- All classes together. -/
theorem cnt_sum (hs : List (List Nat)) : cntC hs 0 + cntC hs 1 + cntC hs 2 + cntC hs 3 + cntC hs 4 + cntC hs 5 + cntC hs 6 + cntC hs 7 + cntC hs 8 = hs.length := by
  have := count_nine (hs.map (fun h => valL h / 371293)) (fun x hx => by
    obtain ⟨h, _, rfl⟩ := List.mem_map.1 hx
    have := valN_lt (h.getD 0 0) (h.getD 1 0) (h.getD 2 0) (h.getD 3 0) (h.getD 4 0)
    show valL h / 371293 < 9
    unfold valL
    omega)
  rw [List.length_map] at this
  exact this

end Go.Proofs.Ytdhacmcdbpojlaa
