/-
  What is held while the document looks who has joined. No conditions beyond those that each theorem bears.
-/
import Derived.Test.YtldgikinmmkhiaaDoorRj0
namespace Go.Proofs.YtldgikinmmkhiaaDoor
open Go.RowKit Go.Shelf

/-- The board, its groups and the marks. -/
structure Jq (g0 ib n cb co N bc : Nat) (a : Option Addr) (G c : Nat) (L : List (List Int)) (w W : World) (Q : List Nat) : Prop where
  bd : Gd W g0 n n (some ⟨cb, co, none⟩) N bc
  fr : Fr (fun k => k < ib) W a G c L
  vb : Vb W ib 4 (ibL N Q)
  be : Below w.heap.size w W
  lt : g0 < ib ∧ w.heap.size ≤ ib
  ab : ∀ b off, a = some ⟨b, off, none⟩ → b < ib

theorem Jq.keeps {g0 ib n cb co N bc : Nat} {a : Option Addr} {G c : Nat} {L : List (List Int)} {w W W' : World} {Q Q' : List Nat} (h : Jq g0 ib n cb co N bc a G c L w W Q) (hk : Keeps (fun k => k = ib) W W') (hv : Vb W' ib 4 (ibL N Q')) : Jq g0 ib n cb co N bc a G c L w W' Q' :=
  ⟨h.bd.keeps hk (by have := h.lt.1; show ¬ g0 = ib; omega), h.fr.keeps hk (fun k h1 e => by have h2 : k = ib := e; have h3 : k < ib := h1; omega) (fun b off e e2 => by have := h.ab b off e; have h2 : b = ib := e2; omega), hv,
   h.be.trans (hk.below h.be.size (fun k h1 e => by have h2 : k = ib := e; have := h.lt.2; omega)), h.lt, h.ab⟩

theorem Jq.set {g0 ib n cb co N bc : Nat} {a : Option Addr} {G c : Nat} {L : List (List Int)} {w W : World} {Q : List Nat} (h : Jq g0 ib n cb co N bc a G c L w W Q) (r : Nat) : Jq g0 ib n cb co N bc a G c L w (W.setCell ⟨ib, r, none⟩ (.bool true)) (Q ++ [r]) :=
  h.keeps (Keeps.set1 W ib r _) (by rw [← ibL_set]; exact h.vb.set r _)

theorem Jq.mono {g0 ib n cb co N bc : Nat} {a : Option Addr} {G c : Nat} {L : List (List Int)} {w W W' : World} {Q : List Nat} (h : Jq g0 ib n cb co N bc a G c L w W Q) (hb : Below W.heap.size W W') : Jq g0 ib n cb co N bc a G c L w W' Q :=
  ⟨h.bd.below hb h.bd.lt, h.fr.mono hb, h.vb.mono hb, h.be.trans (hb.mono h.be.size), h.lt, h.ab⟩

theorem Jq.begin {g0 ib n cb co N bc : Nat} {a : Option Addr} {c B : Nat} {gs : List (List Nat)} {G : Nat} {w W W' : World} (g : Gd W g0 n n (some ⟨cb, co, none⟩) N bc) (hf : Fl (fun k => B ≤ k) B W (.slice a G c) (toL gs)) (hib : W.heap.size = ib) (hb : Below W.heap.size W W') (hv : Vb W' ib 4 (ibL N [])) (be : Below w.heap.size w W) : Jq g0 ib n cb co N bc a G c (toL gs) w W' [] := by
  have f2 : Fl (fun k => k < ib) B W (.slice a G c) (toL gs) := hf.wide (fun k h1 _ => by omega)
  refine ⟨g.below hb g.lt, f2.fr.mono hb, hv, be.trans (hb.mono be.size), ⟨by rw [← hib]; exact g.lt, by rw [← hib]; exact be.size⟩, fun b off e => ?_⟩
  subst e
  obtain ⟨vs, ho, -, hO⟩ := f2
  rcases ho.2 with ⟨hv, _⟩ | ⟨g', cap, cur, hv, _⟩
  · simp at hv
  · simp only [Value.slice.injEq, Option.some.injEq, Addr.mk.injEq, and_true] at hv
    obtain ⟨⟨rfl, rfl⟩, _⟩ := hv
    exact hO b rfl

theorem toL_getD {gs : List (List Nat)} {j : Nat} : (toL gs).getD j [] = toI (gs.getD j []) := by
  simp only [toL, List.getD, List.getElem?_map]
  cases gs[j]? <;> rfl

theorem Jq.row {g0 ib n cb co N bc : Nat} {a : Option Addr} {G c : Nat} {gs : List (List Nat)} {w W : World} {Q : List Nat} (h : Jq g0 ib n cb co N bc a G c (toL gs) w W Q) {j : Nat} (hj : j < G) (hx : gs.getD j [] ≠ []) :
    ∃ b1 o1 rb ro c1, a = some ⟨b1, o1, none⟩ ∧ W.cell? ⟨b1, o1 + j, none⟩ = some (.slice (some ⟨rb, ro, none⟩) (gs.getD j []).length c1) ∧ rb < ib ∧ b1 < ib ∧ ∀ k, k < (gs.getD j []).length → W.cell? ⟨rb, ro + k, none⟩ = some (.int .i64 ((gs.getD j []).getD k 0 : Nat)) := by
  obtain ⟨b1, o1, ha, hc⟩ := h.fr.cells (by omega)
  obtain ⟨a1, c1, e1, r1⟩ := hc j hj
  rw [toL_getD, toI_len] at e1 r1
  have hl : 0 < (gs.getD j []).length := by
    cases hg : gs.getD j [] with
    | nil => exact absurd hg hx
    | cons _ _ => simp
  obtain ⟨rb, ro, rfl, hcl⟩ := r1.rd.cells hl
  refine ⟨b1, o1, rb, ro, c1, ha, e1, (r1.ty rb ro rfl).1, h.ab b1 o1 ha, fun k hk => ?_⟩
  rw [hcl k hk, toI_getD hk]

end Go.Proofs.YtldgikinmmkhiaaDoor
