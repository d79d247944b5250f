/-
  What is best, so many moves deep, as a number and a place; and a search between bounds that tells it. No conditions beyond those that each theorem bears.
-/
import Derived.Test.YtkmghlmniahgbaaDoorCt
namespace Go.Proofs.YtkmghlmniahgbaaDoor

/-- The greatest so far, and where it came first. -/
def updB (f : Nat → Int) (s : Int × Option Nat) (x : Nat) : Int × Option Nat := if s.1 < f x then (f x, some x) else s
def pickB (f : Nat → Int) (L : List Nat) : Int × Option Nat := L.foldl (updB f) (-1000, none)

theorem pickB_nil (f : Nat → Int) : pickB f [] = (-1000, none) := rfl
theorem pickB_snoc (f : Nat → Int) (L : List Nat) (x : Nat) : pickB f (L ++ [x]) = updB f (pickB f L) x := by
  unfold pickB; rw [List.foldl_append]; rfl

theorem fold_map (f : Nat → Int) (g : Nat → Nat) : ∀ (L : List Nat) (s : Int × Option Nat), (L.map g).foldl (updB f) (s.1, s.2.map g) = (((L.foldl (updB fun x => f (g x)) s)).1, ((L.foldl (updB fun x => f (g x)) s)).2.map g)
  | [], s => rfl
  | x :: L, s => by
    rw [List.map_cons, List.foldl_cons, List.foldl_cons]
    have h : updB f (s.1, s.2.map g) (g x) = ((updB (fun x => f (g x)) s x).1, (updB (fun x => f (g x)) s x).2.map g) := by
      unfold updB
      by_cases e : s.1 < f (g x)
      · rw [if_pos e, if_pos e]; rfl
      · rw [if_neg e, if_neg e]
    rw [h]
    exact fold_map f g L _

theorem pickB_map (f : Nat → Int) (g : Nat → Nat) (L : List Nat) : pickB f (L.map g) = ((pickB (fun x => f (g x)) L).1, (pickB (fun x => f (g x)) L).2.map g) := fold_map f g L (-1000, none)

theorem fold_ge (f : Nat → Int) : ∀ (L : List Nat) (s : Int × Option Nat), s.1 ≤ (L.foldl (updB f) s).1 ∧ ∀ x, x ∈ L → f x ≤ (L.foldl (updB f) s).1
  | [], s => ⟨Int.le_refl _, fun x hx => by cases hx⟩
  | y :: L, s => by
    obtain ⟨h1, h2⟩ := fold_ge f L (updB f s y)
    have h3 : s.1 ≤ (updB f s y).1 ∧ f y ≤ (updB f s y).1 := by
      unfold updB
      split
      · rename_i e; exact ⟨by dsimp only; omega, Int.le_refl _⟩
      · rename_i e; exact ⟨Int.le_refl _, by omega⟩
    rw [List.foldl_cons]
    refine ⟨by omega, fun x hx => ?_⟩
    rcases List.mem_cons.1 hx with rfl | hx
    · omega
    · exact h2 x hx

theorem fold_le (f : Nat → Int) (B : Int) : ∀ (L : List Nat) (s : Int × Option Nat), s.1 ≤ B → (∀ x, x ∈ L → f x ≤ B) → (L.foldl (updB f) s).1 ≤ B
  | [], _, h, _ => h
  | y :: L, s, h, hf => by
    rw [List.foldl_cons]
    refine fold_le f B L _ ?_ (fun x hx => hf x (by simp [hx]))
    unfold updB
    split
    · exact hf y (by simp)
    · exact h

theorem pick_ge {f : Nat → Int} {L : List Nat} {x : Nat} (hx : x ∈ L) : f x ≤ (pickB f L).1 := (fold_ge f L _).2 x hx
theorem pick_le {f : Nat → Int} {L : List Nat} {B : Int} (hB : -1000 ≤ B) (h : ∀ x, x ∈ L → f x ≤ B) : (pickB f L).1 ≤ B := fold_le f B L _ hB h

theorem pick_bd {f : Nat → Int} {L : List Nat} (h0 : L ≠ []) (h : ∀ x, -64 ≤ f x ∧ f x ≤ 64) : -64 ≤ (pickB f L).1 ∧ (pickB f L).1 ≤ 64 := by
  refine ⟨?_, pick_le (by omega) (fun x _ => (h x).2)⟩
  obtain ⟨x, hx⟩ := List.exists_mem_of_ne_nil L h0
  have := pick_ge (f := f) hx
  have := (h x).1
  omega

/-- What is best for m, so many moves deep: by how many signs, and where. -/
def ob (W H : Nat) : Nat → List Int → Nat → Int × Option Nat
  | 0, Z, m => (ldd W H Z m, none)
  | l + 1, Z, m =>
    if sps W H Z m ≠ [] then pickB (fun p => - (ob W H l (pz W H Z m p) (3 - m)).1) (sps W H Z m)
    else if sps W H Z (3 - m) ≠ [] then (- (pickB (fun p => - (ob W H l (pz W H Z (3 - m) p) m).1) (sps W H Z (3 - m))).1, none)
    else (ldd W H Z m, none)

theorem ob_zero (W H : Nat) (Z : List Int) (m : Nat) : ob W H 0 Z m = (ldd W H Z m, none) := by rw [ob]
theorem ob_own {W H l : Nat} {Z : List Int} {m : Nat} (h : sps W H Z m ≠ []) : ob W H (l + 1) Z m = pickB (fun p => - (ob W H l (pz W H Z m p) (3 - m)).1) (sps W H Z m) := by rw [ob, if_pos h]
theorem ob_none {W H l : Nat} {Z : List Int} {m : Nat} (h : sps W H Z m = []) (h2 : sps W H Z (3 - m) = []) : ob W H (l + 1) Z m = (ldd W H Z m, none) := by rw [ob, if_neg (by simp [h]), if_neg (by simp [h2])]
theorem ob_pass {W H l : Nat} {Z : List Int} {m : Nat} (hm : m = 1 ∨ m = 2) (h : sps W H Z m = []) (h2 : sps W H Z (3 - m) ≠ []) : ob W H (l + 1) Z m = (- (ob W H (l + 1) Z (3 - m)).1, none) := by
  rw [ob_own h2, show 3 - (3 - m) = m by omega, ob, if_neg (by simp [h]), if_pos h2]

theorem ldd_bd {W H : Nat} (hWH : W * H ≤ 64) (Z : List Int) (m : Nat) : -64 ≤ ldd W H Z m ∧ ldd W H Z m ≤ 64 := by
  have h1 := cnt_le W H Z m
  have h2 := cnt_le W H Z (3 - m)
  unfold ldd
  omega

theorem ob_bd {W H : Nat} (hWH : W * H ≤ 64) : ∀ (l : Nat) (Z : List Int) (m : Nat), -64 ≤ (ob W H l Z m).1 ∧ (ob W H l Z m).1 ≤ 64
  | 0, Z, m => by rw [ob_zero]; exact ldd_bd hWH Z m
  | l + 1, Z, m => by
    rw [ob]
    split
    · rename_i h
      exact pick_bd h (fun x => by have := ob_bd hWH l (pz W H Z m x) (3 - m); omega)
    · split
      · rename_i h
        have := pick_bd (f := fun p => - (ob W H l (pz W H Z (3 - m) p) m).1) h (fun x => by have := ob_bd hWH l (pz W H Z (3 - m) x) m; omega)
        dsimp only
        omega
      · exact ldd_bd hWH Z m

/-- A place as a set of one. -/
def Plc (W : Nat) (P : Option Nat) (a : Nat) : Prop := (P = none ∧ a = 0) ∨ ∃ i, i < 64 ∧ a = 2 ^ i ∧ P = some (num W i)

/-- What a search between two bounds tells of the best. -/
structure AB (W : Nat) (s : Int × Option Nat) (least most r : Int) (a : Nat) : Prop where
  lo : s.1 ≤ least → r ≤ least
  hi : most ≤ s.1 → most ≤ r
  eq : least < s.1 → s.1 < most → r = s.1 ∧ Plc W s.2 a
  bd : -65 ≤ r ∧ r ≤ 65

/-- While the moves are gone through. -/
def InvB (f : Nat → Int) (least most : Int) (pre : List Nat) (v : Int) (a : Nat) : Prop :=
  v < most ∧ -65 ≤ v ∧ (((pickB f pre).1 ≤ least ∧ v = least ∧ a = 0) ∨ (least < (pickB f pre).1 ∧ v = (pickB f pre).1 ∧ ∃ x, x ∈ pre ∧ (pickB f pre).2 = some x ∧ a = 2 ^ x))

theorem inv_nil {f : Nat → Int} {least most : Int} (h1 : -65 ≤ least) (h2 : least < most) : InvB f least most [] least 0 := ⟨h2, h1, Or.inl ⟨by rw [pickB_nil]; dsimp only; omega, rfl, rfl⟩⟩

theorem inv_keep {f : Nat → Int} {least most : Int} {pre : List Nat} {v : Int} {a x : Nat} (h : InvB f least most pre v a) (hx : f x ≤ v) : InvB f least most (pre ++ [x]) v a := by
  obtain ⟨h1, h1b, h2⟩ := h
  refine ⟨h1, h1b, ?_⟩
  rw [pickB_snoc]
  unfold updB
  rcases h2 with ⟨h2, h3, h4⟩ | ⟨h2, h3, y, hy, h4, h5⟩
  · left
    refine ⟨?_, h3, h4⟩
    split
    · dsimp only; omega
    · exact h2
  · right
    rw [if_neg (by omega)]
    exact ⟨h2, h3, y, by simp [hy], h4, h5⟩

theorem inv_new {f : Nat → Int} {least most : Int} {pre : List Nat} {v : Int} {a x : Nat} (h : InvB f least most pre v a) (hx : v < f x) (hm : f x < most) : InvB f least most (pre ++ [x]) (f x) (2 ^ x) := by
  obtain ⟨h1, h1b, h2⟩ := h
  refine ⟨hm, by omega, Or.inr ?_⟩
  rw [pickB_snoc]
  unfold updB
  have h3 : (pickB f pre).1 < f x ∧ least < f x := by
    rcases h2 with ⟨h2, h3, _⟩ | ⟨h2, h3, _⟩ <;> omega
  rw [if_pos h3.1]
  exact ⟨h3.2, rfl, x, by simp, rfl, rfl⟩

/-- All have been gone through. -/
theorem inv_end {W : Nat} {f : Nat → Int} {least most : Int} {L : List Nat} {v : Int} {a : Nat} (h2 : most ≤ 65) (hL : ∀ x, x ∈ L → x < 64) (h : InvB f least most L v a) :
    AB W ((pickB f L).1, (pickB f L).2.map (num W)) least most v a := by
  obtain ⟨h3, h3b, h4⟩ := h
  rcases h4 with ⟨h4, h5, h6⟩ | ⟨h4, h5, x, hx, h6, h7⟩
  · exact ⟨fun _ => by omega, fun e => by dsimp only at e; omega, fun e => by dsimp only at e; omega, by omega⟩
  · refine ⟨fun e => by dsimp only at e; omega, fun e => by dsimp only at e; omega, fun _ _ => ⟨h5, Or.inr ⟨x, hL x hx, h7, by dsimp only; rw [h6]; rfl⟩⟩, by omega⟩

/-- One was too good. -/
theorem inv_cut {W : Nat} {f : Nat → Int} {least most : Int} {L : List Nat} {v : Int} {a x : Nat} {P : Option Nat} (hlm : least < most) (hb : -65 ≤ v ∧ v ≤ 65) (hx : x ∈ L) (hf : most ≤ f x) (hv : most ≤ v) :
    AB W ((pickB f L).1, P) least most v a := by
  have := pick_ge (f := f) hx
  exact ⟨fun e => by dsimp only at e; omega, fun _ => hv, fun _ e => by dsimp only at e; omega, hb⟩

/-- The other's search, turned. -/
theorem AB.neg {W : Nat} {s : Int × Option Nat} {least most r : Int} {a : Nat} (h : AB W s (-most) (-least) r a) : AB W (- s.1, none) least most (-r) 0 :=
  ⟨fun e => by have := h.hi (by dsimp only at e; omega); omega, fun e => by have := h.lo (by dsimp only at e; omega); omega, fun e1 e2 => by
    have := (h.eq (by dsimp only at e2; omega) (by dsimp only at e1; omega)).1
    exact ⟨by dsimp only; omega, Or.inl ⟨rfl, rfl⟩⟩, by have := h.bd; omega⟩

theorem AB.exact {W : Nat} {V least most : Int} (hb : -64 ≤ V ∧ V ≤ 64) : AB W (V, none) least most V 0 :=
  ⟨id, id, fun _ _ => ⟨rfl, Or.inl ⟨rfl, rfl⟩⟩, by omega⟩

/-- What the other's answer says of a move. -/
theorem AB.move {W : Nat} {s : Int × Option Nat} {v most r : Int} {a : Nat} (h : AB W s (-most) (-v) r a) : (- s.1 ≤ v → - r ≤ v) ∧ (v < - s.1 → - s.1 < most → - r = - s.1) ∧ (most ≤ - s.1 → most ≤ - r) :=
  ⟨fun e => by have := h.hi (by omega); omega, fun e1 e2 => by have := (h.eq (by omega) (by omega)).1; omega, fun e => by have := h.lo (by omega); omega⟩

end Go.Proofs.YtkmghlmniahgbaaDoor
