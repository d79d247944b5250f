/-
  What stays of rows and slices. No conditions beyond those that each theorem bears.
-/
import Derived.Test.YtaglhmkjdajgpaaDoorWonOf
namespace Go.Proofs.YtaglhmkjdajgpaaDoor
open Go.RowKit

theorem own_blk {w w' : World} {base e s n : Nat} {v : Value} {xs : List Value} (h : w.ownsRow base e s v n xs) (hb : ∀ g, v.ownBlock = some g → w'.heap[g]? = w.heap[g]?) : w'.ownsRow base e s v n xs := by
  refine ⟨h.1, ?_⟩
  rcases h.2 with h2 | ⟨g, cap, cur, rfl, h1, h2, h3⟩
  · exact Or.inl h2
  · exact Or.inr ⟨g, cap, cur, rfl, h1, (hb g rfl).trans h2, h3⟩

theorem Rd.keepsN {X : Nat → Prop} {w w' : World} {a n c zs} (h : Rd w a n c zs) (hb : Keeps X w w') (hX : 0 < n → ∀ b off, a = some ⟨b, off, none⟩ → ¬ X b) : Rd w' a n c zs := by
  refine ⟨h.len, h.cap, h.max, h.nil, fun hn => ?_⟩
  obtain ⟨b, off, rfl, hc⟩ := h.cells hn
  exact ⟨b, off, rfl, fun i hi => hb.cell (hc i hi) (hX hn b off rfl)⟩

theorem Rd.blt {w : World} {b off n c : Nat} {zs : List Int} (h : Rd w (some ⟨b, off, none⟩) n c zs) (hn : 0 < n) : b < w.heap.size := World.block_lt_of_cell? w _ (h.cell hn).2

theorem keeps_grown {w w' : World} {row : Option Nat} (h : w.grownBy w' row) : Keeps (fun k => row = some k) w w' :=
  ⟨h.os, h.tape, h.output, h.size, fun i hi hx => h.block i hi (fun e => hx e.symm)⟩

theorem theOther_any (m : Nat) (hm : m ≤ 3) (w : World) : Calls Tryd.prog 42 #[.int .i64 m] w fun e w' => e = .returned (.int .i64 ((3 - m : Nat) : Int)) ∧ w' = w := by
  have h : (3 : Int) - (m : Int) = ((3 - m : Nat) : Int) := by omega
  obtain ⟨q, hq⟩ : ∃ q, 3 - m = q := ⟨_, rfl⟩
  rw [hq] at h ⊢
  have hqb : q ≤ 3 := by omega
  clear hq
  go_enter Tryd.func42, Tryd.ntmps42
  go_wp2
  go_ret
  exact ⟨by rfl, rfl⟩

theorem set_back {Z : List Int} {p : Nat} {x : Int} (hp : p < Z.length) (h : Z.getD p 0 = 0) : (Z.set p x).set p 0 = Z := by
  rw [List.set_set]
  have : Z[p] = 0 := by simpa [List.getD, hp] using h
  rw [← this]
  exact List.set_getElem_self hp

end Go.Proofs.YtaglhmkjdajgpaaDoor
