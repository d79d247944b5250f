/-
  Chess: how far pieces reach along their lines, and what the document says of attacks: the same. No conditions beyond those that each theorem bears.
-/
import Derived.Test.YtbhlafdfpoacjaaDoorQ01
namespace Go.Proofs.YtbhlafdfpoacjaaDoor
set_option maxRecDepth 20000

/-- What stands at a place. -/
def zg (Z : List Int) (q : Nat) : Int := Z.getD q 0

def stA : List (Int × Int) := [(1, 0), (0, 1), (-1, 0), (0, -1), (1, 1), (-1, 1), (1, -1), (-1, -1), (1, 2), (2, 1), (2, -1), (1, -2), (-1, -2), (-2, -1), (-2, 1), (-1, 2)]
def sX (i : Nat) : Int := (stA.getD i (0, 0)).1
def sY (i : Nat) : Int := (stA.getD i (0, 0)).2

/-- The place so many steps on from t, by its file and rank. -/
def rX (t i j : Nat) : Int := ((t % 8 : Nat) : Int) + ((j : Int) + 1) * sX i
def rY (t i j : Nat) : Int := ((t / 8 : Nat) : Int) + ((j : Int) + 1) * sY i
def ins (x y : Int) : Bool := decide (0 ≤ x) && decide (x < 8) && decide (0 ≤ y) && decide (y < 8)
def rl (t i : Nat) : Nat := ((List.range 8).takeWhile fun j => ins (rX t i j) (rY t i j)).length
def rP (t i j : Nat) : Nat := (rY t i j * 8 + rX t i j).toNat

/-- All places on from t by step i. -/
def R (t i : Nat) : List Nat := (List.range (rl t i)).map (rP t i)

/-- The places between two. -/
def sg (x : Int) : Int := if 0 < x then 1 else if x < 0 then -1 else 0
def dX (f t : Nat) : Int := ((t % 8 : Nat) : Int) - ((f % 8 : Nat) : Int)
def dY (f t : Nat) : Int := ((t / 8 : Nat) : Int) - ((f / 8 : Nat) : Int)
def sD (f t : Nat) : Int := sg (dX f t) + 8 * sg (dY f t)
def mD (f t : Nat) : Nat := max (dX f t).natAbs (dY f t).natAbs
def bt (f t j : Nat) : Nat := ((f : Int) + ((j : Int) + 1) * sD f t).toNat
def btw (f t : Nat) : List Nat := (List.range (mD f t - 1)).map (bt f t)
def slant (f t : Nat) : Bool := (dX f t).natAbs == (dY f t).natAbs
def strai (f t : Nat) : Bool := dX f t == 0 || dY f t == 0

/-- As far as nothing is in the way. -/
def vis (Z : List Int) (far : Bool) : List Nat → List Nat
  | [] => []
  | q :: r => q :: (if far = true ∧ zg Z q = 0 then vis Z far r else [])

def far (x : Int) : Bool := x.natAbs == 3 || x.natAbs == 4 || x.natAbs == 5

/-- The steps of a piece: from, how many. -/
def sB (x : Int) : Nat := if x = 1 then 4 else if x = -1 then 6 else if x.natAbs = 2 then 8 else if x.natAbs = 3 then 4 else 0
def sE (x : Int) : Nat := if x = 1 then 6 else if x = -1 then 8 else if x.natAbs = 2 then 16 else if x.natAbs = 4 then 4 else 8
def ixs (x : Int) : List Nat := (List.range (sE x - sB x)).map (sB x + ·)

/-- What a piece x at t reaches. -/
def rch (Z : List Int) (x : Int) (t : Nat) : List Nat := (ixs x).flatMap fun i => vis Z (far x) (R t i)

/-- A piece of a side, by its kind. -/
def pc (b : Nat) (k : Nat) : Int := if b = 0 then (k : Int) else -(k : Int)

/-- The attackers of t, as the program finds them. -/
def atk (Z : List Int) (t b : Nat) : List Nat := (List.range 6).flatMap fun k => (rch Z (-(pc b (k + 1))) t).filter fun q => zg Z q == pc b (k + 1)

/-- Whose a piece is. -/
def sd (x : Int) : Int := if 0 < x then 0 else if x < 0 then 1 else -1

/-- The document's attack. -/
def atR (Z : List Int) (f t : Nat) : Bool :=
  if dX f t = 0 ∧ dY f t = 0 then false
  else if (zg Z f).natAbs = 1 then (dX f t).natAbs == 1 && dY f t == zg Z f
  else if (zg Z f).natAbs = 2 then (dX f t * dY f t).natAbs == 2
  else if (zg Z f).natAbs = 6 then decide ((dX f t).natAbs ≤ 1) && decide ((dY f t).natAbs ≤ 1)
  else if zg Z f = 0 ∨ (slant f t = false ∧ strai f t = false) ∨ ((zg Z f).natAbs = 3 ∧ slant f t = false) ∨ ((zg Z f).natAbs = 4 ∧ strai f t = false) then false
  else (btw f t).all fun k => zg Z k == 0

def atL (Z : List Int) (t b : Nat) : List Nat := (List.range 64).filter fun i => sd (zg Z i) == (b : Int) && atR Z i t

theorem all64 {p : Nat → Bool} (h : (List.range 64).all p = true) {t : Nat} (ht : t < 64) : p t = true := (List.all_eq_true.1 h) t (List.mem_range.2 ht)
theorem allN {n : Nat} {p : Nat → Bool} (h : (List.range n).all p = true) {t : Nat} (ht : t < n) : p t = true := (List.all_eq_true.1 h) t (List.mem_range.2 ht)

theorem tab_ins : ((List.range 64).all fun t => (List.range 16).all fun i => Nat.ble (rl t i) 7 && (List.range 8).all fun j => (ins (rX t i j) (rY t i j) == Nat.blt j (rl t i)) && (!(Nat.blt j (rl t i)) || (Nat.blt (rP t i j) 64 && decide (((rP t i j : Nat) : Int) = rY t i j * 8 + rX t i j)))) = true := by decide +kernel

theorem tab_A : ((List.range 64).all fun t => (List.range 8).all fun i => (List.range (rl t i)).all fun j => decide ((R t i).take j = (btw (rP t i j) t).reverse) && !(decide (dX (rP t i j) t = 0) && decide (dY (rP t i j) t = 0)) && (if Nat.blt i 4 then strai (rP t i j) t else slant (rP t i j) t)) = true := by decide +kernel

theorem tab_B : ((List.range 64).all fun t => (List.range 64).all fun f => (Nat.beq f t) || ((!(strai f t) || (List.range 4).any fun i => (R t i).elem f) && (!(slant f t) || (List.range 4).any fun i => (R t (4 + i)).elem f))) = true := by decide +kernel

theorem tab_C : ((List.range 64).all fun t => decide (((List.range 8).flatMap (R t)).Nodup) && decide ((((List.range 8).map (8 + ·)).flatMap fun i => (R t i).take 1).Nodup)) = true := by decide +kernel

/-- Pieces of one step. -/
def near (x : Int) (f t : Nat) : Bool :=
  !(decide (dX f t = 0) && decide (dY f t = 0)) && (if x.natAbs = 1 then (dX f t).natAbs == 1 && dY f t == x else if x.natAbs = 2 then (dX f t * dY f t).natAbs == 2 else decide ((dX f t).natAbs ≤ 1) && decide ((dY f t).natAbs ≤ 1))

theorem tab_D : ([1, -1, 2, -2, 6, -6].all fun x => (List.range 64).all fun t => (List.range 64).all fun f => near x f t == (((ixs (-x)).flatMap fun i => (R t i).take 1).elem f)) = true := by decide +kernel

end Go.Proofs.YtbhlafdfpoacjaaDoor
