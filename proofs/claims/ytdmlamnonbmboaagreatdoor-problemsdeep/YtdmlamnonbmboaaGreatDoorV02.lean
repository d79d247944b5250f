/-
  What a slice of ints reads as; a slice copied by 'append([]int(nil), l...)' reads the same, in new memory; two slices compared. No conditions beyond those that each theorem bears.
  Chess: how far pieces reach along their lines, and what the document says of attacks: the same. No conditions beyond those that each theorem bears.
-/
import Derived.Test.YtdmlamnonbmboaaGreatDoorRows
import Derived.WalkKit
import Derived.WalkSpells
import Derived.WalkLawsBesides
import Derived.Laws.AppendOwnNone
import Derived.Deep.QuietTactic
import Derived.BigQuiet
namespace Go.Proofs.YtdmlamnonbmboaaGreatDoor
open Go.RowKit

theorem Tryz.info3 : (Tryz.prog.info? 3).map (fun i => (i.zero, i.size, i.bytes)) = some (some (.int .i64 0), 1, 8) := by kernel_rfl

theorem hide {p : Prop} (h : p) : Hid p := h

/-- A slice of ints, of length n and capacity c, reads zs. -/
structure Rd (w : World) (a : Option Addr) (n c : Nat) (zs : List Int) : Prop where
  len : zs.length = n
  cap : n ≤ c
  max : c ≤ maxLen
  nil : a = none → c = 0
  cells : 0 < n → ∃ b off, a = some ⟨b, off, none⟩ ∧ ∀ i, i < n → w.cell? ⟨b, off + i, none⟩ = some (.int .i64 (zs.getD i 0))

theorem Rd.of_nil (w : World) : Rd w none 0 0 [] := ⟨rfl, Nat.le_refl _, Nat.zero_le _, fun _ => rfl, fun h => absurd h (by omega)⟩

theorem Rd.mono {w w' : World} {a n c zs} (h : Rd w a n c zs) (hb : Below w.heap.size w w') : Rd w' a n c zs := by
  refine ⟨h.len, h.cap, h.max, h.nil, fun hn => ?_⟩
  obtain ⟨b, off, rfl, hc⟩ := h.cells hn
  refine ⟨b, off, rfl, fun i hi => ?_⟩
  rw [hb.cell (World.block_lt_of_cell? w _ (hc i hi))]
  exact hc i hi

/-- What the call owns reads so. -/
theorem Rd.of_own {w : World} {base : Nat} {a : Option Addr} {n c : Nat} {zs : List Int} (h : w.ownsRow base 3 1 (.slice a n c) n (zs.map (Value.int .i64))) : Rd w a n c zs := by
  have hl : zs.length = n := by simpa using h.1
  rcases h.2 with ⟨hv, h0⟩ | ⟨g, cap, cur, hv, hb, hg, hnc, hcm, hcs, ht⟩
  · simp only [Value.slice.injEq] at hv
    obtain ⟨rfl, rfl, rfl⟩ := hv
    exact ⟨hl, Nat.le_refl _, Nat.zero_le _, fun _ => rfl, fun h => absurd h (by omega)⟩
  · simp only [Value.slice.injEq] at hv
    obtain ⟨rfl, -, rfl⟩ := hv
    refine ⟨hl, hnc, hcm, (fun h => by simp at h), fun _ => ⟨g, 0, rfl, fun i hi => ?_⟩⟩
    rw [Nat.zero_add, h.cellAt i (by omega)]
    simp [List.getD, hl, hi]

/-- The cells of a slice that reads so, as the laws on append ask for them. -/
theorem Rd.news {w : World} {ad : Addr} {n c : Nat} {zs : List Int} (h : Rd w (some ad) n c zs) : ∀ j u, (zs.map (Value.int .i64))[j]? = some u → w.cell? (ad.add j) = some u := by
  intro j u hu
  have hj : j < n := by have := (List.getElem?_eq_some_iff.1 hu).1; simpa [h.len] using this
  obtain ⟨b, off, he, hc⟩ := h.cells (by omega)
  obtain rfl := Option.some.inj he
  rw [Addr.add_lit, hc j hj]
  have hz : j < zs.length := by rw [h.len]; exact hj
  simpa [List.getD, hz] using hu

/-- 'append(s, x...)', s the call's own, x whatever slice of ints can be read: as an operation. -/
theorem wp_append_rd {o : Oper} {a : Act} {K : Act → World → Prop} {Q : Exit → Act → World → Prop} (w : World) (s x : Operand)
    (ho : o.op = .call { callee := .builtin .append, args := #[s, x], argTypes := #[22, 22] }) (base : Nat) (v : Value) (n : Nat) (xs : List Int) (hs : a.eval s = v) (hown : w.ownsRow base 3 1 v n (xs.map (Value.int .i64)))
    (ao : Option Addr) (m c : Nat) (ys : List Int) (hx : a.eval x = .slice ao m c) (hR : Rd w ao m c ys) (hbytes : (n + m) * 8 ≤ 140737488355328) (hbase : base ≤ w.heap.size)
    (h : ∀ v' w', w'.ownsRow base 3 1 v' (n + m) ((xs ++ ys).map (Value.int .i64)) → w.grownBy w' v.ownBlock → K (a.put o.dst v') w') : o.wp Tryz.prog a w K Q := by
  obtain ⟨i0, hi, hz0, hz1, hz2⟩ := info_parts Tryz.info3
  cases ao with
  | none =>
    obtain rfl := hR.nil rfl
    obtain rfl : m = 0 := by have := hR.cap; omega
    have hy : ys = [] := List.eq_nil_of_length_eq_zero hR.len
    subst hy
    have hrun := run_append_owned_none (P := Tryz.prog) (w := w) base 22 o.type 3 i0 1 Tryz.underlying22 hi v n _ hown
    unfold Oper.wp
    simp [execOp, ho, resolve, invoke, builtin, hs, hx, hrun, Result.andThen]
    exact h v w (by simpa using hown) (World.grownBy.refl _ _)
  | some ad =>
    refine wp_append_own w s x 22 ho base 3 i0 (.int .i64 0) 1 8 Tryz.underlying22 hi hz0 hz1 hz2 rfl (by decide) v n _ hs hown ad m c (ys.map (Value.int .i64)) hx (by simp [hR.len]) hR.news (ints_oneCell .i64 ys) (by unfold maxLen; omega) hbytes hbase ?_
    intro v' w' h1 h2 _
    exact h v' w' (by rw [List.map_append]; exact h1) h2

theorem wpList_append_rd {ops : Array Oper} {rest : List Oper} {o : Oper} {a : Act} {Q : Exit → Act → World → Prop} (w : World) (hgd : o.guard = none) (s x : Operand)
    (ho : o.op = .call { callee := .builtin .append, args := #[s, x], argTypes := #[22, 22] }) (base : Nat) (v : Value) (n : Nat) (xs : List Int) (hs : a.eval s = v) (hown : w.ownsRow base 3 1 v n (xs.map (Value.int .i64)))
    (ao : Option Addr) (m c : Nat) (ys : List Int) (hx : a.eval x = .slice ao m c) (hR : Rd w ao m c ys) (hbytes : (n + m) * 8 ≤ 140737488355328) (hbase : base ≤ w.heap.size)
    (h : ∀ v' w', w'.ownsRow base 3 1 v' (n + m) ((xs ++ ys).map (Value.int .i64)) → w.grownBy w' v.ownBlock → wpList Tryz.prog ops Q rest (a.put o.dst v') w') : wpList Tryz.prog ops Q (o :: rest) a w :=
  wpList_plain hgd fun _ hK => wp_append_rd w s x ho base v n xs hs hown ao m c ys hx hR hbytes hbase fun v' w' h1 h2 => hK _ _ (h v' w' h1 h2)

/-- 'l[k:]'. -/
theorem Rd.from {w : World} {a : Option Addr} {n c : Nat} {zs : List Int} (h : Rd w a n c zs) {k : Nat} (hk : k ≤ n) : Rd w (if c = k then a else Option.map (fun x => x.add k) a) (n - k) (c - k) (zs.drop k) := by
  have hcap := h.cap
  have hmax := h.max
  refine ⟨by simp [h.len], by omega, by omega, fun hn => ?_, fun hn => ?_⟩
  · by_cases hck : c = k
    · omega
    · rw [if_neg hck] at hn
      have := h.nil (by simpa using hn)
      omega
  · obtain ⟨b, off, rfl, hc⟩ := h.cells (by omega)
    refine ⟨b, off + k, ?_, fun i hi => ?_⟩
    · rw [if_neg (by omega)]; simp [Addr.add_lit]
    · rw [Nat.add_assoc, hc (k + i) (by omega)]
      simp [List.getD]

/-- 'l[:k]'. -/
theorem Rd.upto {w : World} {a : Option Addr} {n c : Nat} {zs : List Int} (h : Rd w a n c zs) {k : Nat} (hk : k ≤ n) : Rd w a k c (zs.take k) := by
  have hcap := h.cap
  have hlen := h.len
  refine ⟨by simp; omega, by omega, h.max, h.nil, fun hn => ?_⟩
  obtain ⟨b, off, rfl, hc⟩ := h.cells (by omega)
  refine ⟨b, off, rfl, fun i hi => ?_⟩
  rw [hc i (by omega)]
  simp [List.getD, hi]

/-- The cell of an element. -/
theorem Rd.cell {w : World} {b off n c : Nat} {spot} {zs : List Int} (h : Rd w (some ⟨b, off, spot⟩) n c zs) {i : Nat} (hi : i < n) :
    spot = none ∧ w.cell? ⟨b, off + i, none⟩ = some (.int .i64 (zs.getD i 0)) := by
  obtain ⟨b', off', he, hc⟩ := h.cells (by omega)
  simp only [Option.some.injEq, Addr.mk.injEq] at he
  obtain ⟨rfl, rfl, rfl⟩ := he
  exact ⟨rfl, hc i hi⟩

/-- A slice that came in. -/
theorem Rd.of_open {w : World} {x : Addr} {n c : Nat} {zs : List Int} (hl : n ≤ c) (hm : c ≤ maxLen) (hz : zs.length = c) (hcell : ∀ i, i < zs.length → w.cell? (x.add i) = some (.int .i64 (zs.getD i 0))) : Rd w (some x) n c (zs.take n) := by
  refine ⟨by simp; omega, hl, hm, (fun h => by simp at h), fun hn => ?_⟩
  obtain ⟨b, off, spot⟩ := x
  have hspot : spot = none := by simpa [Addr.add] using World.cell?_spot (hcell 0 (by omega))
  subst hspot
  refine ⟨b, off, rfl, fun i hi => ?_⟩
  have := hcell i (by omega)
  rw [Addr.add_lit] at this
  rw [this]
  simp [List.getD, hi]

theorem Rd.drew {w : World} {a n c zs} (h : Rd w a n c zs) : Rd w.drew a n c zs := h.mono (Below.refl _ _).drew

theorem ret_bool {a b : Bool} (h : a = b) : Ending.returned (.bool a) = .returned (.bool b) := by rw [h]

theorem take_succ_eq (xs ys : List Int) (k : Nat) (hx : k < xs.length) (hy : k < ys.length) : xs.take (k + 1) = ys.take (k + 1) ↔ xs.take k = ys.take k ∧ xs.getD k 0 = ys.getD k 0 := by
  rw [List.take_succ_eq_append_getElem hx, List.take_succ_eq_append_getElem hy]
  constructor
  · intro h
    have := List.append_inj h (by simp; omega)
    exact ⟨this.1, by simpa [List.getD, hx, hy] using this.2⟩
  · rintro ⟨h1, h2⟩
    rw [h1]
    simp [List.getD, hx, hy] at h2
    rw [h2]

theorem drewN_below (B : Nat) (w : World) (q : Nat) : Below B w (w.drewN q) := by
  induction q with
  | zero => exact Below.refl _ _
  | succ q ih => exact ⟨rfl, rfl, rfl, Nat.le_refl _, fun _ _ => rfl⟩

end Go.Proofs.YtdmlamnonbmboaaGreatDoor

namespace Go.Proofs.YtdmlamnonbmboaaGreatDoor
set_option maxRecDepth 20000

/-- What stands at a place. -/
def zg (Z : List Int) (q : Nat) : Int := Z.getD q 0

def stA : List (Int × Int) := [(1, 0), (0, 1), (-1, 0), (0, -1), (1, 1), (-1, 1), (1, -1), (-1, -1), (1, 2), (2, 1), (2, -1), (1, -2), (-1, -2), (-2, -1), (-2, 1), (-1, 2)]
def sX (i : Nat) : Int := (stA.getD i (0, 0)).1
def sY (i : Nat) : Int := (stA.getD i (0, 0)).2

/-- The place so many steps on from t, by its file and rank. -/
def rX (t i j : Nat) : Int := ((t % 8 : Nat) : Int) + ((j : Int) + 1) * sX i
def rY (t i j : Nat) : Int := ((t / 8 : Nat) : Int) + ((j : Int) + 1) * sY i
def ins (x y : Int) : Bool := decide (0 ≤ x) && decide (x < 8) && decide (0 ≤ y) && decide (y < 8)
def rl (t i : Nat) : Nat := ((List.range 8).takeWhile fun j => ins (rX t i j) (rY t i j)).length
def rP (t i j : Nat) : Nat := (rY t i j * 8 + rX t i j).toNat

/-- All places on from t by step i. -/
def R (t i : Nat) : List Nat := (List.range (rl t i)).map (rP t i)

/-- The places between two. -/
def sg (x : Int) : Int := if 0 < x then 1 else if x < 0 then -1 else 0
def dX (f t : Nat) : Int := ((t % 8 : Nat) : Int) - ((f % 8 : Nat) : Int)
def dY (f t : Nat) : Int := ((t / 8 : Nat) : Int) - ((f / 8 : Nat) : Int)
def sD (f t : Nat) : Int := sg (dX f t) + 8 * sg (dY f t)
def mD (f t : Nat) : Nat := max (dX f t).natAbs (dY f t).natAbs
def bt (f t j : Nat) : Nat := ((f : Int) + ((j : Int) + 1) * sD f t).toNat
def btw (f t : Nat) : List Nat := (List.range (mD f t - 1)).map (bt f t)
def slant (f t : Nat) : Bool := (dX f t).natAbs == (dY f t).natAbs
def strai (f t : Nat) : Bool := dX f t == 0 || dY f t == 0

/-- As far as nothing is in the way. -/
def vis (Z : List Int) (far : Bool) : List Nat → List Nat
  | [] => []
  | q :: r => q :: (if far = true ∧ zg Z q = 0 then vis Z far r else [])

def far (x : Int) : Bool := x.natAbs == 3 || x.natAbs == 4 || x.natAbs == 5

/-- The steps of a piece: from, how many. -/
def sB (x : Int) : Nat := if x = 1 then 4 else if x = -1 then 6 else if x.natAbs = 2 then 8 else if x.natAbs = 3 then 4 else 0
def sE (x : Int) : Nat := if x = 1 then 6 else if x = -1 then 8 else if x.natAbs = 2 then 16 else if x.natAbs = 4 then 4 else 8
def ixs (x : Int) : List Nat := (List.range (sE x - sB x)).map (sB x + ·)

/-- What a piece x at t reaches. -/
def rch (Z : List Int) (x : Int) (t : Nat) : List Nat := (ixs x).flatMap fun i => vis Z (far x) (R t i)

/-- A piece of a side, by its kind. -/
def pc (b : Nat) (k : Nat) : Int := if b = 0 then (k : Int) else -(k : Int)

/-- The attackers of t, as the program finds them. -/
def atk (Z : List Int) (t b : Nat) : List Nat := (List.range 6).flatMap fun k => (rch Z (-(pc b (k + 1))) t).filter fun q => zg Z q == pc b (k + 1)

/-- Whose a piece is. -/
def sd (x : Int) : Int := if 0 < x then 0 else if x < 0 then 1 else -1

/-- The document's attack. -/
def atR (Z : List Int) (f t : Nat) : Bool :=
  if dX f t = 0 ∧ dY f t = 0 then false
  else if (zg Z f).natAbs = 1 then (dX f t).natAbs == 1 && dY f t == zg Z f
  else if (zg Z f).natAbs = 2 then (dX f t * dY f t).natAbs == 2
  else if (zg Z f).natAbs = 6 then decide ((dX f t).natAbs ≤ 1) && decide ((dY f t).natAbs ≤ 1)
  else if zg Z f = 0 ∨ (slant f t = false ∧ strai f t = false) ∨ ((zg Z f).natAbs = 3 ∧ slant f t = false) ∨ ((zg Z f).natAbs = 4 ∧ strai f t = false) then false
  else (btw f t).all fun k => zg Z k == 0

def atL (Z : List Int) (t b : Nat) : List Nat := (List.range 64).filter fun i => sd (zg Z i) == (b : Int) && atR Z i t

theorem all64 {p : Nat → Bool} (h : (List.range 64).all p = true) {t : Nat} (ht : t < 64) : p t = true := (List.all_eq_true.1 h) t (List.mem_range.2 ht)
theorem allN {n : Nat} {p : Nat → Bool} (h : (List.range n).all p = true) {t : Nat} (ht : t < n) : p t = true := (List.all_eq_true.1 h) t (List.mem_range.2 ht)

theorem tab_ins : ((List.range 64).all fun t => (List.range 16).all fun i => Nat.ble (rl t i) 7 && (List.range 8).all fun j => (ins (rX t i j) (rY t i j) == Nat.blt j (rl t i)) && (!(Nat.blt j (rl t i)) || (Nat.blt (rP t i j) 64 && decide (((rP t i j : Nat) : Int) = rY t i j * 8 + rX t i j)))) = true := by decide +kernel

theorem tab_A : ((List.range 64).all fun t => (List.range 8).all fun i => (List.range (rl t i)).all fun j => decide ((R t i).take j = (btw (rP t i j) t).reverse) && !(decide (dX (rP t i j) t = 0) && decide (dY (rP t i j) t = 0)) && (if Nat.blt i 4 then strai (rP t i j) t else slant (rP t i j) t)) = true := by decide +kernel

theorem tab_B : ((List.range 64).all fun t => (List.range 64).all fun f => (Nat.beq f t) || ((!(strai f t) || (List.range 4).any fun i => (R t i).elem f) && (!(slant f t) || (List.range 4).any fun i => (R t (4 + i)).elem f))) = true := by decide +kernel

theorem tab_C : ((List.range 64).all fun t => decide (((List.range 8).flatMap (R t)).Nodup) && decide ((((List.range 8).map (8 + ·)).flatMap fun i => (R t i).take 1).Nodup)) = true := by decide +kernel

/-- Pieces of one step. -/
def near (x : Int) (f t : Nat) : Bool :=
  !(decide (dX f t = 0) && decide (dY f t = 0)) && (if x.natAbs = 1 then (dX f t).natAbs == 1 && dY f t == x else if x.natAbs = 2 then (dX f t * dY f t).natAbs == 2 else decide ((dX f t).natAbs ≤ 1) && decide ((dY f t).natAbs ≤ 1))

theorem tab_D : ([1, -1, 2, -2, 6, -6].all fun x => (List.range 64).all fun t => (List.range 64).all fun f => near x f t == (((ixs (-x)).flatMap fun i => (R t i).take 1).elem f)) = true := by decide +kernel

end Go.Proofs.YtdmlamnonbmboaaGreatDoor
