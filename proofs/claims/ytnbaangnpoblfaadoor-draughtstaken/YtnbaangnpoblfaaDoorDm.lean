/-
  Draughts by sets of places as bits: steps, jumps and ways, as the program finds them. No conditions beyond those that each theorem bears.
-/
import Derived.Test.YtnbaangnpoblfaaDoorBm
namespace Go.Proofs.YtnbaangnpoblfaaDoor

/-- All places' bits. -/
def ALL : Nat := 34292498175
def anot (x y : Nat) : Nat := x ^^^ (x &&& y)
theorem tb_anot (x y i : Nat) : (anot x y).testBit i = (x.testBit i && !y.testBit i) := by
  unfold anot
  rw [Nat.testBit_xor, Nat.testBit_and]
  cases x.testBit i <;> cases y.testBit i <;> rfl

def stp (d M : Nat) : Nat := (if d = 0 then M >>> 5 else if d = 1 then M >>> 4 else if d = 2 then M <<< 4 else M <<< 5) &&& ALL

/-- A board as its mover sees it. -/
structure Bm where
  own : Nat
  oth : Nat
  kin : Nat
  mov : Nat
deriving DecidableEq

def Bm.emp (b : Bm) : Nat := anot ALL (b.own ||| b.oth)
def Bm.goe (b : Bm) (d : Nat) : Nat := if decide (d < 2) = decide (b.mov = 1) then b.own else b.own &&& b.kin
def Bm.crw (b : Bm) : Nat := if b.mov = 1 then 15 else 32212254720
def Bm.jmD (b : Bm) (d : Nat) : Nat := stp d (stp d (b.goe d) &&& b.oth) &&& b.emp
def Bm.jms (b : Bm) : Bool := [0, 1, 2, 3].any fun d => decide (b.jmD d ≠ 0)

def hop (b : Bm) (fi la ov d : Nat) : Option (Nat × Nat) :=
  if fi &&& b.goe d = 0 then none
  else if stp d (anot (stp d la &&& b.oth) ov) &&& (b.emp ||| fi) = 0 then none
  else some (stp d (anot (stp d la &&& b.oth) ov) &&& (b.emp ||| fi), anot (stp d la &&& b.oth) ov)

/-- A way: its places, and what it jumps over. -/
abbrev Wy := List Nat × Nat

def hops (b : Bm) (fi la ov : Nat) : List (Nat × Nat) := [0, 1, 2, 3].filterMap (hop b fi la ov)

def jmp (b : Bm) : Nat → List Nat → Nat → List Wy
  | 0, _, _ => []
  | f + 1, W, ov =>
    (hops b (W.headD 0) (W.getLastD 0) ov).flatMap (fun h => jmp b f (W ++ [h.1]) (ov ||| h.2)) ++
      (if hops b (W.headD 0) (W.getLastD 0) ov = [] ∧ ov ≠ 0 then [(W, ov)] else [])

def stD (b : Bm) (fi d : Nat) : Nat := stp d (fi &&& b.goe d) &&& b.emp
def stF (b : Bm) (fi : Nat) : List Wy := [0, 1, 2, 3].filterMap fun d => if stD b fi d = 0 then none else some ([fi, stD b fi d], 0)
def way1 (b : Bm) (fi : Nat) : List Wy := if b.jms = true then jmp b 13 [fi] 0 else stF b fi
def ways (b : Bm) : List Wy := (bln b.own 64).flatMap fun i => way1 b (2 ^ i)

/-- What the other sees behind a way. -/
def aft (b : Bm) (w : Wy) : Bm :=
  { own := anot b.oth w.2, oth := anot b.own (w.1.headD 0) ||| w.1.getLastD 0,
    kin := if (w.1.headD 0 &&& b.kin) ||| (w.1.getLastD 0 &&& b.crw) = 0 then anot b.kin (w.2 ||| w.1.headD 0) else anot b.kin (w.2 ||| w.1.headD 0) ||| w.1.getLastD 0,
    mov := 3 - b.mov }

theorem ALL_lt : ALL < 2 ^ 36 := by decide
theorem stp_lt (d M : Nat) : stp d M < 2 ^ 36 := Nat.lt_of_le_of_lt Nat.and_le_right ALL_lt
theorem tb_stp (d M i : Nat) : (stp d M).testBit i = (ALL.testBit i && (if d = 0 then M.testBit (5 + i) else if d = 1 then M.testBit (4 + i) else if d = 2 then decide (4 ≤ i) && M.testBit (i - 4) else decide (5 ≤ i) && M.testBit (i - 5))) := by
  unfold stp
  rw [Nat.testBit_and, Bool.and_comm]
  congr 1
  by_cases h0 : d = 0
  · rw [if_pos h0, if_pos h0, Nat.testBit_shiftRight]
  · rw [if_neg h0, if_neg h0]
    by_cases h1 : d = 1
    · rw [if_pos h1, if_pos h1, Nat.testBit_shiftRight]
    · rw [if_neg h1, if_neg h1]
      by_cases h2 : d = 2
      · rw [if_pos h2, if_pos h2, Nat.testBit_shiftLeft]
      · rw [if_neg h2, if_neg h2, Nat.testBit_shiftLeft]

/-- What lies within the board. -/
def Sub (x y : Nat) : Prop := ∀ i, x.testBit i = true → y.testBit i = true
theorem Sub.lt {x : Nat} (h : Sub x ALL) : x < 2 ^ 36 := by
  refine Nat.lt_pow_two_of_testBit x (fun i hi => ?_)
  cases hx : x.testBit i with
  | false => rfl
  | true =>
    have h1 := h i hx
    rw [Nat.testBit_lt_two_pow (Nat.lt_of_lt_of_le ALL_lt (Nat.pow_le_pow_right (by decide) hi))] at h1
    cases h1
theorem Sub.trans {x y z : Nat} (h : Sub x y) (k : Sub y z) : Sub x z := fun i hi => k i (h i hi)
theorem Sub.refl (x : Nat) : Sub x x := fun _ h => h
theorem Sub.and_left {x y z : Nat} (h : Sub x z) : Sub (x &&& y) z := fun i hi => h i (by rw [Nat.testBit_and, Bool.and_eq_true] at hi; exact hi.1)
theorem Sub.and_right {x y z : Nat} (h : Sub y z) : Sub (x &&& y) z := fun i hi => h i (by rw [Nat.testBit_and, Bool.and_eq_true] at hi; exact hi.2)
theorem Sub.or {x y z : Nat} (h : Sub x z) (k : Sub y z) : Sub (x ||| y) z := fun i hi => by
  rw [Nat.testBit_or, Bool.or_eq_true] at hi
  exact hi.elim (h i) (k i)
theorem Sub.anot {x y z : Nat} (h : Sub x z) : Sub (anot x y) z := fun i hi => h i (by rw [tb_anot, Bool.and_eq_true] at hi; exact hi.1)
theorem Sub.stp (d M : Nat) : Sub (stp d M) ALL := Sub.and_right (Sub.refl _)
theorem Sub.zero (x : Nat) : Sub 0 x := fun i hi => by rw [Nat.zero_testBit] at hi; cases hi

/-- A board within the board. -/
structure BOk (b : Bm) : Prop where
  own : Sub b.own ALL
  oth : Sub b.oth ALL
  kin : Sub b.kin ALL
  mov : b.mov = 1 ∨ b.mov = 2
  few : (bln b.oth 64).length ≤ 12
  few' : (bln b.own 64).length ≤ 12
  apart : ∀ i, b.own.testBit i = true → b.oth.testBit i = false
  kings : ∀ i, b.kin.testBit i = true → b.own.testBit i = true ∨ b.oth.testBit i = true

end Go.Proofs.YtnbaangnpoblfaaDoor
