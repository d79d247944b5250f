/-
  Marks that ranges over functions leave, taken at a function's end; what a search of a group holds in memory. No conditions beyond those that each theorem bears.
-/
import Derived.Test.YtafiaimlmdflnaaAp
import Derived.Test.YtafiaimlmdflnaaNb
namespace Go.Proofs.Ytafiaimlmdflnaa
open Go.RowKit Go.Shelf

/-- A range's mark among the deferred calls. -/
def mkD (D : Nat) : Deferred := { target := .collected D, args := #[] }

/-- Marks of ranges that are over. -/
def Marks (lo : Nat) (w : World) (ds : List Deferred) : Prop := ∃ Ds : List Nat, ds = Ds.map mkD ∧ Ds.Nodup ∧ (∀ D ∈ Ds, w.heap[D]? = some (.deferred (some []))) ∧ ∀ D ∈ Ds, lo ≤ D

theorem Marks.nil (lo : Nat) (w : World) : Marks lo w [] := ⟨[], rfl, by simp, (fun D h => by cases h), fun D h => by cases h⟩

theorem Marks.keeps {X : Nat → Prop} {lo : Nat} {w w' : World} {ds : List Deferred} (h : Marks lo w ds) (hk : Keeps X w w') (hX : ∀ D, w.heap[D]? = some (.deferred (some [])) → ¬ X D) : Marks lo w' ds := by
  obtain ⟨Ds, h1, h2, h3, h4⟩ := h
  exact ⟨Ds, h1, h2, fun D hD => (hk.block D (Array.getElem?_eq_some_iff.1 (h3 D hD)).1 (hX D (h3 D hD))).trans (h3 D hD), h4⟩

theorem Marks.below {lo : Nat} {w w' : World} {ds : List Deferred} (h : Marks lo w ds) (hb : Below w.heap.size w w') : Marks lo w' ds := h.keeps (X := fun _ => False) (Keeps.of_all hb) (fun _ _ h => h)

theorem Marks.push {X : Nat → Prop} {lo : Nat} {w w' : World} {ds : List Deferred} {D : Nat} (h : Marks lo w ds) (hk : Keeps X w w') (hX : ∀ D, w.heap[D]? = some (.deferred (some [])) → ¬ X D) (hD : w.heap.size ≤ D) (hlo : lo ≤ D) (hD' : w'.heap[D]? = some (.deferred (some []))) : Marks lo w' ({ target := .collected D, args := #[] } :: ds) := by
  obtain ⟨Ds, h1, h2, h3, h4⟩ := h
  refine ⟨D :: Ds, by rw [h1]; rfl, List.nodup_cons.2 ⟨fun hm => ?_, h2⟩, fun E hE => ?_, fun E hE => Or.elim (List.mem_cons.1 hE) (fun e => e ▸ hlo) (fun hE => h4 E hE)⟩
  · have := (Array.getElem?_eq_some_iff.1 (h3 D hm)).1
    omega
  · rcases List.mem_cons.1 hE with rfl | hE
    · exact hD'
    · exact (hk.block E (Array.getElem?_eq_some_iff.1 (h3 E hE)).1 (hX E (h3 E hE))).trans (h3 E hE)

theorem leaves_marks {F : Fence} {n : Nat} {P : Program} {fn : Func} {tmps : Array Value} {R : Ending → World → Prop} {lo : Nat} {w : World} {ds : List Deferred} (h : Marks lo w ds)
    (hR : ∀ w', Keeps (fun k => lo ≤ k ∧ w.heap[k]? = some (.deferred (some []))) w w' → LeavesIn F n P fn tmps R [] .returning w') : LeavesInM F n P fn tmps R ds .returning w := by
  obtain ⟨Ds, rfl, h2, h3, h4⟩ := h
  have key : ∀ (Ds : List Nat) (w1 : World), Ds.Nodup → (∀ D ∈ Ds, w1.heap[D]? = some (.deferred (some []))) → (∀ D ∈ Ds, lo ≤ D ∧ w.heap[D]? = some (.deferred (some []))) → Keeps (fun k => lo ≤ k ∧ w.heap[k]? = some (.deferred (some []))) w w1 → LeavesInM F n P fn tmps R (Ds.map mkD) .returning w1 := by
    intro Ds
    induction Ds with
    | nil => exact fun w1 _ _ _ hk => hR w1 hk
    | cons D Ds ih =>
      intro w1 hnd h1 h2 hk
      refine ⟨by simp, .inl ⟨D, _, rfl, run_takeDeferred (h1 D (by simp)), ih _ (List.nodup_cons.1 hnd).2 (fun E hE => ?_) (fun E hE => h2 E (List.mem_cons_of_mem _ hE)) (hk.put (l := D) (h2 D (by simp)) _)⟩⟩
      have hne : E ≠ D := by
        rintro rfl
        exact (List.nodup_cons.1 hnd).1 hE
      first
        | exact (World.putObj_heap_other hne).trans (h1 E (List.mem_cons_of_mem _ hE))
        | exact (World.putObj_heap_other hne.symm).trans (h1 E (List.mem_cons_of_mem _ hE))
  exact key Ds w h2 h3 (fun D hD => ⟨h4 D hD, h3 D hD⟩) (Keeps.refl _ _)

/-- Which places have been met. -/
def mtL (G : List Nat) : List Value := (List.range 100).map fun q => Value.bool (decide (q ∈ G))

theorem mtL_at {G : List Nat} {q : Nat} (hq : q < 100) : (mtL G)[q]? = some (.bool (decide (q ∈ G))) := by
  unfold mtL
  rw [List.getElem?_map, List.getElem?_range hq]
  rfl

theorem mtL_set {G : List Nat} {r : Nat} : (mtL G).set r (.bool true) = mtL (G ++ [r]) := by
  apply List.ext_getElem?
  intro i
  by_cases hi : i < 100
  · rw [mtL_at hi, List.getElem?_set]
    by_cases e : r = i
    · subst e
      have : r < (mtL G).length := by simp [mtL]; exact hi
      simp [this]
    · rw [if_neg e, mtL_at hi]
      have : i ≠ r := fun h => e h.symm
      simp [this]
  · rw [List.getElem?_eq_none (by simp [mtL]; omega), List.getElem?_eq_none (by simp [mtL]; omega)]

theorem mtL_zero : Try.zeroCells102 = (mtL []).toArray := by
  kernel_rfl

theorem own_some {w : World} {base n : Nat} {v : Value} {xs : List Value} (h : w.ownsRow base 3 1 v n xs) (hn : 0 < n) : ∃ g c, v = .slice (some ⟨g, 0, none⟩) n c ∧ v.ownBlock = some g := by
  rcases h.2 with ⟨_, h0⟩ | ⟨g, cap, cur, hv, _⟩
  · omega
  · exact ⟨g, cap, hv, by rw [hv]; rfl⟩

theorem own_block {w : World} {base n g : Nat} {v : Value} {xs : List Value} (h : w.ownsRow base 3 1 v n xs) (hg : v.ownBlock = some g) : ∃ cur, w.heap[g]? = some (.cells cur 3 (0, 0)) := by
  rcases h.2 with ⟨hv, _⟩ | ⟨g', cap, cur, hv, _, hg', _⟩
  · rw [hv] at hg; cases hg
  · rw [hv] at hg
    simp only [Value.ownBlock, Option.some.injEq] at hg
    subst hg
    exact ⟨cur, hg'⟩

/-- What the search holds: b0: the board; b1: the question; b3: the list, its row in a block of S; b4: which places have been met; db: the directions. -/
structure Gs (b0 b1 b3 b4 db W H : Nat) (ba : Option Addr) (N bc : Nat) (mv : Value) (S : Nat → Prop) (V : World) (G : List Nat) : Prop where
  bd : Gd V b0 W H ba N bc
  mv : V.cell? ⟨b1, 0, none⟩ = some mv
  row : ∃ g c, Vb V b3 22 [.slice (some ⟨g, 0, none⟩) G.length c] ∧ V.ownsRow (b1 + 1) 3 1 (.slice (some ⟨g, 0, none⟩) G.length c) G.length ((toI G).map (Value.int .i64)) ∧ S g
  met : Vb V b4 102 (mtL G)
  dr : Blk V db 37 D4

section
variable {b0 b1 b3 b4 db W H : Nat} {ba : Option Addr} {N bc : Nat} {mv : Value} {S S' X : Nat → Prop} {V V' : World} {G : List Nat}
theorem Gs.keeps (h : Gs b0 b1 b3 b4 db W H ba N bc mv S V G) (hk : Keeps X V V') (h0 : ¬ X b0) (h1 : ¬ X b1) (h3 : ¬ X b3) (h4 : ¬ X b4) (hd : ¬ X db) (hS : ∀ g, S g → ¬ X g) : Gs b0 b1 b3 b4 db W H ba N bc mv S V' G := by
  obtain ⟨g, c, k1, k2, k3⟩ := h.row
  refine ⟨h.bd.keeps hk h0, hk.cell h.mv h1, ⟨g, c, k1.keeps hk h3, own_blk k2 (fun g' hg => ?_), k3⟩, h.met.keeps hk h4, h.dr.keeps hk hd⟩
  simp only [Value.ownBlock, Option.some.injEq] at hg
  subst hg
  exact hk.block g (k2.lt g rfl).2 (hS g k3)

theorem Gs.wide (h : Gs b0 b1 b3 b4 db W H ba N bc mv S V G) (hS : ∀ g, S g → S' g) : Gs b0 b1 b3 b4 db W H ba N bc mv S' V G := by
  obtain ⟨g, c, k1, k2, k3⟩ := h.row
  exact ⟨h.bd, h.mv, ⟨g, c, k1, k2, hS g k3⟩, h.met, h.dr⟩

/-- The row's own block alone. -/
theorem Gs.own (h : Gs b0 b1 b3 b4 db W H ba N bc mv S V G) : ∃ g, Gs b0 b1 b3 b4 db W H ba N bc mv (fun k => k = g) V G ∧ g < V.heap.size ∧ b1 + 1 ≤ g ∧ g ≠ b3 ∧ g ≠ b4 ∧ S g ∧ ∃ cur, V.heap[g]? = some (.cells cur 3 (0, 0)) := by
  obtain ⟨g, c, k1, k2, k3⟩ := h.row
  obtain ⟨cur, hg⟩ := own_block k2 rfl
  refine ⟨g, ⟨h.bd, h.mv, ⟨g, c, k1, k2, rfl⟩, h.met, h.dr⟩, (k2.lt g rfl).2, (k2.lt g rfl).1, ?_, ?_, k3, cur, hg⟩
  · rintro rfl
    have h1 : V.heap[g]? = _ := k1
    rw [hg] at h1
    simp at h1
  · rintro rfl
    have h1 : V.heap[g]? = _ := h.met
    rw [hg] at h1
    simp at h1
end

/-- A row that the group's list does not own. -/
theorem not_deferred {X : Nat → Prop} {W : World} (h : ∀ k, X k → k < W.heap.size → ∃ cur t, W.heap[k]? = some (.cells cur t (0, 0))) : ∀ D, W.heap[D]? = some (.deferred (some [])) → ¬ X D := by
  intro D hD hX
  obtain ⟨cur, t, h2⟩ := h D hX (Array.getElem?_eq_some_iff.1 hD).1
  rw [hD] at h2
  simp at h2

end Go.Proofs.Ytafiaimlmdflnaa
