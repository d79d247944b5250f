/-
  The game of Y by reduction: on a triangle whose cells all belong to one of two, just one has joined the three sides; on a rhombus just one has joined its two sides. No conditions beyond those that each theorem bears.
-/
import Derived.Test.YtldgikinmmkhiaaDoorRows
namespace Go.Proofs.YtldgikinmmkhiaaDoor

/-- Neighbours. -/
def adj (i j k l : Nat) : Prop := (k = i + 1 ∧ l = j) ∨ (i = k + 1 ∧ l = j) ∨ (k = i ∧ l = j + 1) ∨ (k = i ∧ j = l + 1) ∨ (k = i + 1 ∧ j = l + 1) ∨ (i = k + 1 ∧ l = j + 1)

theorem adj_symm {i j k l : Nat} (h : adj i j k l) : adj k l i j := by unfold adj at *; omega

/-- A way from one cell to another through cells that R names. -/
inductive Yc (R : Nat → Nat → Prop) (i j : Nat) : Nat → Nat → Prop
  | refl : R i j → Yc R i j i j
  | step {k l k' l' : Nat} : Yc R i j k l → adj k l k' l' → R k' l' → Yc R i j k' l'

theorem Yc.left {R i j k l} (h : Yc R i j k l) : R i j := by induction h with | refl h => exact h | step _ _ _ ih => exact ih
theorem Yc.right {R i j k l} (h : Yc R i j k l) : R k l := by cases h with | refl h => exact h | step _ _ h => exact h

theorem Yc.trans {R i j k l m n} (h : Yc R i j k l) (g : Yc R k l m n) : Yc R i j m n := by
  induction g with
  | refl _ => exact h
  | step _ ha hr ih => exact .step ih ha hr

theorem Yc.symm {R i j k l} (h : Yc R i j k l) : Yc R k l i j := by
  induction h with
  | refl h => exact .refl h
  | @step k l k' l' h ha hr ih => exact Yc.trans (Yc.step (Yc.refl hr) (adj_symm ha) h.right) ih

theorem Yc.mono {R S : Nat → Nat → Prop} (hs : ∀ k l, R k l → S k l) {i j k l} (h : Yc R i j k l) : Yc S i j k l := by
  induction h with
  | refl h => exact .refl (hs _ _ h)
  | step _ ha hr ih => exact .step ih ha (hs _ _ hr)

theorem Yc.one {R i j k l} (h : R i j) (g : R k l) (ha : adj i j k l) : Yc R i j k l := .step (.refl h) ha g

/-- The cells of one colour on a triangle. -/
def Rc (N : Nat) (c : Nat → Nat → Bool) (b : Bool) (i j : Nat) : Prop := c i j = b ∧ i + j < N

/-- It has joined the three sides. -/
def Yw (N : Nat) (c : Nat → Nat → Bool) (b : Bool) : Prop := ∃ i j, (∃ l, Yc (Rc N c b) i j 0 l) ∧ (∃ k, Yc (Rc N c b) i j k 0) ∧ ∃ k l, k + l + 1 = N ∧ Yc (Rc N c b) i j k l

def mj (x y z : Bool) : Bool := (x && y) || (x && z) || (y && z)
def red (c : Nat → Nat → Bool) (i j : Nat) : Bool := mj (c i j) (c (i + 1) j) (c i (j + 1))

/-- A cell of a small triangle. -/
def inT (i j k l : Nat) : Prop := (k = i ∧ l = j) ∨ (k = i + 1 ∧ l = j) ∨ (k = i ∧ l = j + 1)

theorem mj_two {x y z b : Bool} (h : mj x y z = b) : (x = b ∧ y = b) ∨ (x = b ∧ z = b) ∨ (y = b ∧ z = b) := by
  revert h; cases x <;> cases y <;> cases z <;> cases b <;> simp [mj]

theorem red_two {c : Nat → Nat → Bool} {i j : Nat} {b : Bool} (h : red c i j = b) : (c i j = b ∧ c (i + 1) j = b) ∨ (c i j = b ∧ c i (j + 1) = b) ∨ (c (i + 1) j = b ∧ c i (j + 1) = b) := mj_two h

theorem red_of {c : Nat → Nat → Bool} {i j k l m n : Nat} {b : Bool} (h1 : inT i j k l) (h2 : inT i j m n) (hne : ¬ (k = m ∧ l = n)) (c1 : c k l = b) (c2 : c m n = b) : red c i j = b := by
  unfold red
  rcases h1 with ⟨rfl, rfl⟩ | ⟨rfl, rfl⟩ | ⟨rfl, rfl⟩ <;> rcases h2 with ⟨rfl, rfl⟩ | ⟨rfl, rfl⟩ | ⟨rfl, rfl⟩ <;> first | exact absurd ⟨rfl, rfl⟩ hne | (rw [c1, c2]; generalize c _ _ = z; cases b <;> cases z <;> rfl)

/-- Two cells of a small triangle, of one colour, are joined. -/
theorem tri_conn {N : Nat} {c : Nat → Nat → Bool} {b : Bool} {i j k l m n : Nat} (hij : i + j < N) (h1 : inT i j k l) (h2 : inT i j m n) (c1 : c k l = b) (c2 : c m n = b) : Yc (Rc (N + 1) c b) k l m n := by
  have r1 : Rc (N + 1) c b k l := ⟨c1, by unfold inT at h1; omega⟩
  have r2 : Rc (N + 1) c b m n := ⟨c2, by unfold inT at h2; omega⟩
  by_cases he : k = m ∧ l = n
  · obtain ⟨rfl, rfl⟩ := he
    exact .refl r1
  · refine Yc.one r1 r2 ?_
    unfold inT at h1 h2
    unfold adj
    omega

/-- Of two small triangles that are neighbours, both of one colour, two cells of it are joined. -/
theorem tri_near {N : Nat} {c : Nat → Nat → Bool} {b : Bool} {i j p q : Nat} (hij : i + j < N) (hpq : p + q < N) (ha : adj i j p q) (h1 : red c i j = b) (h2 : red c p q = b) :
    ∃ k l m n, inT i j k l ∧ inT p q m n ∧ c k l = b ∧ c m n = b ∧ Yc (Rc (N + 1) c b) k l m n := by
  have key : ∀ k l m n, inT i j k l → inT p q m n → c k l = b → c m n = b → ((k = m ∧ l = n) ∨ adj k l m n) → ∃ k l m n, inT i j k l ∧ inT p q m n ∧ c k l = b ∧ c m n = b ∧ Yc (Rc (N + 1) c b) k l m n := by
    intro k l m n t1 t2 c1 c2 h
    refine ⟨k, l, m, n, t1, t2, c1, c2, ?_⟩
    have r1 : Rc (N + 1) c b k l := ⟨c1, by unfold inT at t1; omega⟩
    rcases h with ⟨rfl, rfl⟩ | h
    · exact .refl r1
    · exact Yc.one r1 ⟨c2, by unfold inT at t2; omega⟩ h
  have A1 : ∀ x y, inT x y x y := fun x y => Or.inl ⟨rfl, rfl⟩
  have A2 : ∀ x y, inT x y (x + 1) y := fun x y => Or.inr (Or.inl ⟨rfl, rfl⟩)
  have A3 : ∀ x y, inT x y x (y + 1) := fun x y => Or.inr (Or.inr ⟨rfl, rfl⟩)
  rcases red_two h1 with ⟨a1, a2⟩ | ⟨a1, a2⟩ | ⟨a1, a2⟩ <;> rcases red_two h2 with ⟨b1, b2⟩ | ⟨b1, b2⟩ | ⟨b1, b2⟩ <;>
    rcases ha with ⟨rfl, rfl⟩ | ⟨rfl, rfl⟩ | ⟨rfl, rfl⟩ | ⟨rfl, rfl⟩ | ⟨rfl, rfl⟩ | ⟨rfl, rfl⟩ <;>
    first
    | exact key _ _ _ _ (A1 _ _) (A1 _ _) (by assumption) (by assumption) (by unfold adj; omega)
    | exact key _ _ _ _ (A1 _ _) (A2 _ _) (by assumption) (by assumption) (by unfold adj; omega)
    | exact key _ _ _ _ (A1 _ _) (A3 _ _) (by assumption) (by assumption) (by unfold adj; omega)
    | exact key _ _ _ _ (A2 _ _) (A1 _ _) (by assumption) (by assumption) (by unfold adj; omega)
    | exact key _ _ _ _ (A2 _ _) (A2 _ _) (by assumption) (by assumption) (by unfold adj; omega)
    | exact key _ _ _ _ (A2 _ _) (A3 _ _) (by assumption) (by assumption) (by unfold adj; omega)
    | exact key _ _ _ _ (A3 _ _) (A1 _ _) (by assumption) (by assumption) (by unfold adj; omega)
    | exact key _ _ _ _ (A3 _ _) (A2 _ _) (by assumption) (by assumption) (by unfold adj; omega)
    | exact key _ _ _ _ (A3 _ _) (A3 _ _) (by assumption) (by assumption) (by unfold adj; omega)

/-- A way of small triangles is a way of cells. -/
theorem up_way {N : Nat} {c : Nat → Nat → Bool} {b : Bool} {i j p q : Nat} (h : Yc (Rc N (red c) b) i j p q) :
    ∀ k l m n, inT i j k l → c k l = b → inT p q m n → c m n = b → Yc (Rc (N + 1) c b) k l m n := by
  induction h with
  | refl hr =>
    intro k l m n t1 c1 t2 c2
    exact tri_conn hr.2 t1 t2 c1 c2
  | @step p q p' q' h ha hr ih =>
    intro k l m n t1 c1 t2 c2
    obtain ⟨k1, l1, m1, n1, s1, s2, d1, d2, hy⟩ := tri_near h.right.2 hr.2 ha h.right.1 hr.1
    exact ((ih k l k1 l1 t1 c1 s1 d1).trans hy).trans (tri_conn hr.2 s2 t2 d2 c2)

/-- A small triangle of a colour has a cell of it at each side that it is at. -/
theorem tri_side0 {c : Nat → Nat → Bool} {b : Bool} {l : Nat} (h : red c 0 l = b) : ∃ m, inT 0 l 0 m ∧ c 0 m = b := by
  rcases red_two h with ⟨a1, _⟩ | ⟨a1, _⟩ | ⟨_, a2⟩
  · exact ⟨l, Or.inl ⟨rfl, rfl⟩, a1⟩
  · exact ⟨l, Or.inl ⟨rfl, rfl⟩, a1⟩
  · exact ⟨l + 1, Or.inr (Or.inr ⟨rfl, rfl⟩), a2⟩

theorem tri_side1 {c : Nat → Nat → Bool} {b : Bool} {k : Nat} (h : red c k 0 = b) : ∃ m, inT k 0 m 0 ∧ c m 0 = b := by
  rcases red_two h with ⟨a1, _⟩ | ⟨a1, _⟩ | ⟨a1, _⟩
  · exact ⟨k, Or.inl ⟨rfl, rfl⟩, a1⟩
  · exact ⟨k, Or.inl ⟨rfl, rfl⟩, a1⟩
  · exact ⟨k + 1, Or.inr (Or.inl ⟨rfl, rfl⟩), a1⟩

theorem tri_side2 {c : Nat → Nat → Bool} {b : Bool} {k l : Nat} (h : red c k l = b) : ∃ m n, inT k l m n ∧ m + n = k + l + 1 ∧ c m n = b := by
  rcases red_two h with ⟨_, a1⟩ | ⟨_, a1⟩ | ⟨a1, _⟩
  · exact ⟨k + 1, l, Or.inr (Or.inl ⟨rfl, rfl⟩), by omega, a1⟩
  · exact ⟨k, l + 1, Or.inr (Or.inr ⟨rfl, rfl⟩), by omega, a1⟩
  · exact ⟨k + 1, l, Or.inr (Or.inl ⟨rfl, rfl⟩), by omega, a1⟩

theorem Yw_up {N : Nat} {c : Nat → Nat → Bool} {b : Bool} (h : Yw N (red c) b) : Yw (N + 1) c b := by
  obtain ⟨i, j, ⟨l, h0⟩, ⟨k, h1⟩, ⟨k2, l2, he, h2⟩⟩ := h
  obtain ⟨x, y, _, hx, _, hc⟩ : ∃ x y, inT i j x y ∧ inT i j x y ∧ True ∧ c x y = b := by
    obtain ⟨m, n, h3, _, h5⟩ := tri_side2 h0.left.1
    exact ⟨m, n, h3, h3, trivial, h5⟩
  obtain ⟨l', t0, c0⟩ := tri_side0 h0.right.1
  obtain ⟨k', t1, c1⟩ := tri_side1 h1.right.1
  obtain ⟨m, n, t2, e2, c2⟩ := tri_side2 h2.right.1
  exact ⟨x, y, ⟨l', up_way h0 x y 0 l' hx hc t0 c0⟩, ⟨k', up_way h1 x y k' 0 hx hc t1 c1⟩, m, n, by omega, up_way h2 x y m n hx hc t2 c2⟩

/-- The small triangle of two neighbours. -/
theorem edge_tri {N : Nat} {c : Nat → Nat → Bool} {b : Bool} {k l m n : Nat} (h1 : Rc (N + 1) c b k l) (h2 : Rc (N + 1) c b m n) (ha : adj k l m n) :
    ∃ i j, inT i j k l ∧ inT i j m n ∧ Rc N (red c) b i j := by
  have key : ∀ i j, inT i j k l → inT i j m n → i + j < N → ∃ i j, inT i j k l ∧ inT i j m n ∧ Rc N (red c) b i j := fun i j t1 t2 hl =>
    ⟨i, j, t1, t2, red_of t1 t2 (by unfold adj at ha; omega) h1.1 h2.1, hl⟩
  have e1 := h1.2
  have e2 := h2.2
  rcases ha with ⟨x1, x2⟩ | ⟨x1, x2⟩ | ⟨x1, x2⟩ | ⟨x1, x2⟩ | ⟨x1, x2⟩ | ⟨x1, x2⟩
  · exact key k l (by unfold inT; omega) (by unfold inT; omega) (by omega)
  · exact key m l (by unfold inT; omega) (by unfold inT; omega) (by omega)
  · exact key k l (by unfold inT; omega) (by unfold inT; omega) (by omega)
  · exact key k n (by unfold inT; omega) (by unfold inT; omega) (by omega)
  · exact key k n (by unfold inT; omega) (by unfold inT; omega) (by omega)
  · exact key m l (by unfold inT; omega) (by unfold inT; omega) (by omega)

theorem tri_share {i j p q k l : Nat} (h1 : inT i j k l) (h2 : inT p q k l) : (i = p ∧ j = q) ∨ adj i j p q := by
  unfold inT at h1 h2; unfold adj; omega

theorem down_way {N : Nat} {c : Nat → Nat → Bool} {b : Bool} {k l m n : Nat} (h : Yc (Rc (N + 1) c b) k l m n) :
    ∀ i j, inT i j k l → Rc N (red c) b i j → ∃ p q, inT p q m n ∧ Yc (Rc N (red c) b) i j p q := by
  induction h with
  | refl hr => exact fun i j t r => ⟨i, j, t, .refl r⟩
  | @step m n m' n' h ha hr ih =>
    intro i j t r
    obtain ⟨p, q, t1, hy⟩ := ih i j t r
    obtain ⟨x, y, t2, t3, r3⟩ := edge_tri h.right hr ha
    rcases tri_share t1 t2 with ⟨rfl, rfl⟩ | hs
    · exact ⟨p, q, t3, hy⟩
    · exact ⟨x, y, t3, .step hy hs r3⟩

theorem down_start {N : Nat} {c : Nat → Nat → Bool} {b : Bool} {k l m n : Nat} (h : Yc (Rc (N + 1) c b) k l m n) : (m = k ∧ n = l) ∨ ∃ i j, inT i j k l ∧ Rc N (red c) b i j := by
  induction h with
  | refl hr => exact .inl ⟨rfl, rfl⟩
  | @step m n m' n' h ha hr ih =>
    rcases ih with ⟨rfl, rfl⟩ | h2
    · obtain ⟨x, y, t2, _, r3⟩ := edge_tri h.right hr ha
      exact .inr ⟨x, y, t2, r3⟩
    · exact .inr h2

theorem Yw_down {N : Nat} (hN : 1 ≤ N) {c : Nat → Nat → Bool} {b : Bool} (h : Yw (N + 1) c b) : Yw N (red c) b := by
  obtain ⟨i, j, ⟨l, h0⟩, ⟨k, h1⟩, ⟨k2, l2, he, h2⟩⟩ := h
  have hs : ∃ x y, inT x y i j ∧ Rc N (red c) b x y := by
    rcases down_start h0 with ⟨e1, e2⟩ | h
    · rcases down_start h1 with ⟨e3, e4⟩ | h
      · rcases down_start h2 with ⟨e5, e6⟩ | h
        · omega
        · exact h
      · exact h
    · exact h
  obtain ⟨x, y, t, r⟩ := hs
  obtain ⟨p0, q0, t0, y0⟩ := down_way h0 x y t r
  obtain ⟨p1, q1, t1, y1⟩ := down_way h1 x y t r
  obtain ⟨p2, q2, t2, y2⟩ := down_way h2 x y t r
  obtain rfl : p0 = 0 := by unfold inT at t0; omega
  obtain rfl : q1 = 0 := by unfold inT at t1; omega
  have := y2.right.2
  exact ⟨x, y, ⟨q0, y0⟩, ⟨p1, y1⟩, p2, q2, by unfold inT at t2; omega, y2⟩

theorem Yw_one (c : Nat → Nat → Bool) (b : Bool) : Yw 1 c b ↔ c 0 0 = b := by
  constructor
  · rintro ⟨i, j, ⟨l, h⟩, _⟩
    have := h.right
    obtain rfl : l = 0 := by have := this.2; omega
    exact this.1
  · intro h
    exact ⟨0, 0, ⟨0, .refl ⟨h, by omega⟩⟩, ⟨0, .refl ⟨h, by omega⟩⟩, 0, 0, rfl, .refl ⟨h, by omega⟩⟩

/-- Just one has joined the three sides. -/
theorem Yw_just : ∀ (N : Nat) (c : Nat → Nat → Bool), Yw (N + 1) c true ↔ ¬ Yw (N + 1) c false
  | 0, c => by rw [Yw_one, Yw_one]; cases c 0 0 <;> simp
  | N + 1, c => by
    have a1 : Yw (N + 1 + 1) c true ↔ Yw (N + 1) (red c) true := ⟨Yw_down (by omega), Yw_up⟩
    have a2 : Yw (N + 1 + 1) c false ↔ Yw (N + 1) (red c) false := ⟨Yw_down (by omega), Yw_up⟩
    rw [a1, a2]
    exact Yw_just N (red c)

/-- The cells of one colour on a rhombus. -/
def Rh (n : Nat) (h : Nat → Nat → Bool) (b : Bool) (x y : Nat) : Prop := h x y = b ∧ x < n ∧ y < n

/-- A rhombus in a triangle: what lies beyond its right side is the one's, what lies below it the other's. -/
def pad (n : Nat) (h : Nat → Nat → Bool) (i j : Nat) : Bool := if n ≤ i then true else if n ≤ j then false else h i j

theorem pad_in {n : Nat} {h : Nat → Nat → Bool} {i j : Nat} (hi : i < n) (hj : j < n) : pad n h i j = h i j := by
  unfold pad; rw [if_neg (by omega), if_neg (by omega)]

theorem rh_lift {n : Nat} {h : Nat → Nat → Bool} {b : Bool} {x y x' y' : Nat} (hw : Yc (Rh n h b) x y x' y') : Yc (Rc (2 * n - 1) (pad n h) b) x y x' y' :=
  hw.mono fun k l hr => ⟨by rw [pad_in hr.2.1 hr.2.2]; exact hr.1, by have := hr.2.1; have := hr.2.2; omega⟩

def Jl (n : Nat) (h : Nat → Nat → Bool) : Prop := ∃ y x' y', x' + 1 = n ∧ Yc (Rh n h true) 0 y x' y'
def Jt (n : Nat) (h : Nat → Nat → Bool) : Prop := ∃ x x' y', y' + 1 = n ∧ Yc (Rh n h false) x 0 x' y'

theorem Jl_of_Yw {n : Nat} (hn : 1 ≤ n) {h : Nat → Nat → Bool} (hw : Yw (2 * n - 1) (pad n h) true) : Jl n h := by
  obtain ⟨i, j, ⟨l, h0⟩, _, k, m, he, h2⟩ := hw
  have hp := h0.symm.trans h2
  have h00 := h0.right.1
  have hl : l < n := by
    unfold pad at h00
    rw [if_neg (by omega)] at h00
    by_cases hh : n ≤ l
    · rw [if_pos hh] at h00; cases h00
    · omega
  have r0 : Rh n h true 0 l := ⟨by rw [pad_in (by omega) hl] at h00; exact h00, by omega, hl⟩
  have key : ∀ k m, Yc (Rc (2 * n - 1) (pad n h) true) 0 l k m → (∃ x' y', x' + 1 = n ∧ Yc (Rh n h true) 0 l x' y') ∨ Yc (Rh n h true) 0 l k m := by
    intro k m hy
    induction hy with
    | refl _ => exact .inr (.refl r0)
    | @step k m k' m' hh ha hr ih =>
      rcases ih with ih | ih
      · exact .inl ih
      · have hb := ih.right
        by_cases hk : n ≤ k'
        · exact .inl ⟨k, m, by have := hb.2.1; unfold adj at ha; omega, ih⟩
        · have hc := hr.1
          have hm : m' < n := by
            unfold pad at hc
            rw [if_neg hk] at hc
            by_cases hh : n ≤ m'
            · rw [if_pos hh] at hc; cases hc
            · omega
          exact .inr (.step ih ha ⟨by rw [pad_in (by omega) hm] at hc; exact hc, by omega, hm⟩)
  rcases key k m hp with ⟨x', y', e, hy⟩ | hy
  · exact ⟨l, x', y', e, hy⟩
  · have := hy.right.2
    exact ⟨l, k, m, by omega, hy⟩

theorem Jt_of_Yw {n : Nat} (hn : 1 ≤ n) {h : Nat → Nat → Bool} (hw : Yw (2 * n - 1) (pad n h) false) : Jt n h := by
  obtain ⟨i, j, _, ⟨l, h0⟩, k, m, he, h2⟩ := hw
  have hp := h0.symm.trans h2
  have h00 := h0.right.1
  have hl : l < n := by
    unfold pad at h00
    by_cases hh : n ≤ l
    · rw [if_pos hh] at h00; cases h00
    · omega
  have r0 : Rh n h false l 0 := ⟨by rw [pad_in hl (by omega)] at h00; exact h00, hl, by omega⟩
  have key : ∀ k m, Yc (Rc (2 * n - 1) (pad n h) false) l 0 k m → (∃ x' y', y' + 1 = n ∧ Yc (Rh n h false) l 0 x' y') ∨ Yc (Rh n h false) l 0 k m := by
    intro k m hy
    induction hy with
    | refl _ => exact .inr (.refl r0)
    | @step k m k' m' hh ha hr ih =>
      rcases ih with ih | ih
      · exact .inl ih
      · have hb := ih.right
        have hc := hr.1
        have hk : k' < n := by
          unfold pad at hc
          by_cases hh : n ≤ k'
          · rw [if_pos hh] at hc; cases hc
          · omega
        by_cases hm : n ≤ m'
        · exact .inl ⟨k, m, by have := hb.2.2; unfold adj at ha; omega, ih⟩
        · exact .inr (.step ih ha ⟨by rw [pad_in hk (by omega)] at hc; exact hc, hk, by omega⟩)
  rcases key k m hp with ⟨x', y', e, hy⟩ | hy
  · exact ⟨l, x', y', e, hy⟩
  · have := hy.right.2
    exact ⟨l, k, m, by omega, hy⟩

theorem Yw_of_Jl {n : Nat} (hn : 1 ≤ n) {h : Nat → Nat → Bool} (hj : Jl n h) : Yw (2 * n - 1) (pad n h) true := by
  obtain ⟨y, x', y', e, hw⟩ := hj
  have hl := rh_lift hw
  have hy' := hw.right.2.2
  by_cases h1 : n = 1
  · subst h1
    have e2 := hw.left.2.2
    obtain rfl : x' = 0 := by omega
    obtain rfl : y = 0 := by omega
    obtain rfl : y' = 0 := by omega
    exact ⟨0, 0, ⟨0, hl⟩, ⟨0, hl⟩, 0, 0, rfl, hl⟩
  · have pr : ∀ i j, n ≤ i → i + j < 2 * n - 1 → Rc (2 * n - 1) (pad n h) true i j := fun i j hi hij => ⟨by unfold pad; rw [if_pos hi], hij⟩
    obtain ⟨q, hq, hgo⟩ : ∃ q, q + 2 ≤ n ∧ Yc (Rc (2 * n - 1) (pad n h) true) 0 y n q := by
      by_cases hb : y' + 2 ≤ n
      · exact ⟨y', hb, .step hl (by unfold adj; omega) (pr n y' (by omega) (by omega))⟩
      · exact ⟨n - 2, by omega, .step hl (by unfold adj; omega) (pr n (n - 2) (by omega) (by omega))⟩
    have up : ∀ t, t ≤ q → Yc (Rc (2 * n - 1) (pad n h) true) 0 y n (q - t) := by
      intro t
      induction t with
      | zero => intro _; exact hgo
      | succ t ih => intro ht; exact .step (ih (by omega)) (by unfold adj; omega) (pr n _ (by omega) (by omega))
    have rt : ∀ t, n + t + q < 2 * n - 1 → Yc (Rc (2 * n - 1) (pad n h) true) 0 y (n + t) q := by
      intro t
      induction t with
      | zero => intro _; exact hgo
      | succ t ih => intro ht; exact .step (ih (by omega)) (by unfold adj; omega) (pr _ q (by omega) (by omega))
    refine ⟨0, y, ⟨y, .refl hl.left⟩, ⟨n, ?_⟩, n + (n - 2 - q), q, by omega, rt _ (by omega)⟩
    have := up q (Nat.le_refl _)
    rwa [Nat.sub_self] at this

theorem Yw_of_Jt {n : Nat} (hn : 1 ≤ n) {h : Nat → Nat → Bool} (hj : Jt n h) : Yw (2 * n - 1) (pad n h) false := by
  obtain ⟨x, x', y', e, hw⟩ := hj
  have hl := rh_lift hw
  have hx' := hw.right.2.1
  by_cases h1 : n = 1
  · subst h1
    have e2 := hw.left.2.1
    obtain rfl : y' = 0 := by omega
    obtain rfl : x = 0 := by omega
    obtain rfl : x' = 0 := by omega
    exact ⟨0, 0, ⟨0, hl⟩, ⟨0, hl⟩, 0, 0, rfl, hl⟩
  · have pr : ∀ i j, n ≤ j → i + j < 2 * n - 1 → Rc (2 * n - 1) (pad n h) false i j := fun i j hi hij => ⟨by unfold pad; rw [if_neg (by omega), if_pos hi], hij⟩
    obtain ⟨q, hq, hgo⟩ : ∃ q, q + 2 ≤ n ∧ Yc (Rc (2 * n - 1) (pad n h) false) x 0 q n := by
      by_cases hb : x' + 2 ≤ n
      · exact ⟨x', hb, .step hl (by unfold adj; omega) (pr x' n (by omega) (by omega))⟩
      · exact ⟨n - 2, by omega, .step hl (by unfold adj; omega) (pr (n - 2) n (by omega) (by omega))⟩
    have up : ∀ t, t ≤ q → Yc (Rc (2 * n - 1) (pad n h) false) x 0 (q - t) n := by
      intro t
      induction t with
      | zero => intro _; exact hgo
      | succ t ih => intro ht; exact .step (ih (by omega)) (by unfold adj; omega) (pr _ n (by omega) (by omega))
    have rt : ∀ t, n + t + q < 2 * n - 1 → Yc (Rc (2 * n - 1) (pad n h) false) x 0 q (n + t) := by
      intro t
      induction t with
      | zero => intro _; exact hgo
      | succ t ih => intro ht; exact .step (ih (by omega)) (by unfold adj; omega) (pr q _ (by omega) (by omega))
    refine ⟨x, 0, ⟨n, ?_⟩, ⟨x, .refl hl.left⟩, q, n + (n - 2 - q), by omega, rt _ (by omega)⟩
    have := up q (Nat.le_refl _)
    rwa [Nat.sub_self] at this

/-- On a rhombus whose cells all belong to one of two just one has joined its sides. -/
theorem hex_just {n : Nat} (hn : 1 ≤ n) (h : Nat → Nat → Bool) : Jl n h ↔ ¬ Jt n h := by
  have e : 2 * n - 1 = (2 * n - 2) + 1 := by omega
  have hj := Yw_just (2 * n - 2) (pad n h)
  rw [← e] at hj
  constructor
  · intro a b
    exact hj.1 (Yw_of_Jl hn a) (Yw_of_Jt hn b)
  · intro a
    exact Jl_of_Yw hn (hj.2 fun b => a (Jt_of_Yw hn b))

end Go.Proofs.YtldgikinmmkhiaaDoor
