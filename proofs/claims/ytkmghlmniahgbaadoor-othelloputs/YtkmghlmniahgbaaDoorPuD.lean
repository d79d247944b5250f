/-
  othello.New, othello.Places, othello.Put and othello.Next answer just what the document says. No conditions beyond those that each theorem bears.
-/
import Derived.Test.YtkmghlmniahgbaaDoorLn
namespace Go.Proofs.YtkmghlmniahgbaaDoor
open Go.RowKit

/-- Sides that a new board may not have. -/
def bad (x y : Int) : Bool := !(sd x && sd y)

theorem bad_of {x y : Int} (h : x < 4 ∨ 8 < x ∨ y < 4 ∨ 8 < y ∨ x % 2 = 1 ∨ y % 2 = 1) : bad x y = true := by
  unfold bad sd
  rw [Bool.not_eq_true', Bool.and_eq_false_iff, decide_eq_false_iff_not, decide_eq_false_iff_not]
  omega
theorem good_of {x y : Int} (h : 4 ≤ x ∧ x ≤ 8 ∧ 4 ≤ y ∧ y ≤ 8 ∧ ¬ x % 2 = 1 ∧ ¬ y % 2 = 1) : bad x y = false := by
  unfold bad sd
  rw [Bool.not_eq_false', Bool.and_eq_true, decide_eq_true_iff, decide_eq_true_iff]
  omega

/-- What a new board is. -/
def NewP (x y : Int) (w : World) (NW NH : Int) (na : Option Addr) (nn nc : Nat) (NE : Int) : Prop :=
  (bad x y = true ∧ NW = 0 ∧ NH = 0 ∧ na = none ∧ nn = 0 ∧ nc = 0 ∧ NE = 3) ∨
  ∃ a b : Nat, (2 ≤ a ∧ a ≤ 4) ∧ (2 ≤ b ∧ b ≤ 4) ∧ x = (2 * a : Nat) ∧ y = (2 * b : Nat) ∧ NW = (2 * a : Nat) ∧ NH = (2 * b : Nat) ∧ nn = 2 * a * (2 * b) ∧ NE = 0 ∧ bad x y = false ∧ Rd w na nn nc (st0 a b)

theorem NewP.mono {x y : Int} {w w' : World} {NW NH : Int} {na : Option Addr} {nn nc : Nat} {NE : Int} (h : NewP x y w NW NH na nn nc NE) (hb : Below w.heap.size w w') : NewP x y w' NW NH na nn nc NE := by
  rcases h with h | ⟨a, b, h1, h2, h3, h4, h5, h6, h7, h8, h9, h10⟩
  · exact Or.inl h
  · exact Or.inr ⟨a, b, h1, h2, h3, h4, h5, h6, h7, h8, h9, h10.mono hb⟩

theorem NewP.err {x y : Int} {w : World} {NW NH : Int} {na : Option Addr} {nn nc : Nat} {NE : Int} (h : NewP x y w NW NH na nn nc NE) : NE = 0 ∨ NE = 3 := by
  rcases h with ⟨-, -, -, -, -, -, h⟩ | ⟨a, b, -, -, -, -, -, -, -, h, -, -⟩
  · exact Or.inr h
  · exact Or.inl h

theorem New_both (x y : Int) (w : World) : Calls Tryd.prog 8 #[.int .i64 x, .int .i64 y] w fun e w' => ∃ NW NH na nn nc NE, e = .returned (.tuple #[.agg (gdA NW NH na nn nc), .int .i64 NE]) ∧ NewP x y w' NW NH na nn nc NE ∧ Below w.heap.size w w' := by
  by_cases hb : bad x y = true
  · have h1 : sd x = false ∨ sd y = false := by
      unfold bad at hb
      rw [Bool.not_eq_true', Bool.and_eq_false_iff] at hb
      exact hb
    refine (New_no x y w h1).mono ?_
    rintro e w' ⟨rfl, h⟩
    exact ⟨0, 0, none, 0, 0, 3, rfl, Or.inl ⟨hb, rfl, rfl, rfl, rfl, rfl, rfl⟩, h⟩
  · have hb' : bad x y = false := by simpa using hb
    have h1 : (4 ≤ x ∧ x ≤ 8 ∧ x % 2 = 0) ∧ (4 ≤ y ∧ y ≤ 8 ∧ y % 2 = 0) := by
      unfold bad sd at hb'
      rw [Bool.not_eq_false', Bool.and_eq_true, decide_eq_true_iff, decide_eq_true_iff] at hb'
      exact hb'
    obtain ⟨a, rfl⟩ : ∃ a : Nat, x = (2 * a : Nat) := ⟨(x / 2).toNat, by omega⟩
    obtain ⟨b, rfl⟩ : ∃ b : Nat, y = (2 * b : Nat) := ⟨(y / 2).toNat, by omega⟩
    refine (New_yes a b (by omega) (by omega) w).mono ?_
    rintro e w' ⟨cb, cc, rfl, hO, h⟩
    exact ⟨_, _, _, _, _, _, rfl, Or.inr ⟨a, b, by omega, by omega, rfl, rfl, rfl, rfl, rfl, rfl, hb', Rd.of_own hO⟩, h⟩

end Go.Proofs.YtkmghlmniahgbaaDoor
