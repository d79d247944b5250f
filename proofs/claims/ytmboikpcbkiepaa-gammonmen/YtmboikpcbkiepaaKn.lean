/-
  The document's own memory of means: two rows behind one pointer. No conditions beyond those that each theorem bears.
-/
import Derived.Test.YtmboikpcbkiepaaRfTab
import Derived.Test.YtmboikpcbkiepaaRf1
namespace Go.Proofs.Ytmboikpcbkiepaa
open Go.RowKit

theorem ownsRow_block {w w' : World} {base e s n : Nat} {v : Value} {xs : List Value} (h : w.ownsRow base e s v n xs) (hb : ∀ g, v.ownBlock = some g → w'.heap[g]? = w.heap[g]?) : w'.ownsRow base e s v n xs := by
  refine ⟨h.1, ?_⟩
  rcases h.2 with h2 | ⟨g, cap, cur, rfl, h1, h2, h3⟩
  · exact Or.inl h2
  · exact Or.inr ⟨g, cap, cur, rfl, h1, (hb g rfl).trans h2, h3⟩

theorem ownsRow_lt {w : World} {base e s n : Nat} {v : Value} {xs : List Value} (h : w.ownsRow base e s v n xs) {g : Nat} (hg : v.ownBlock = some g) : g < w.heap.size := by
  rcases h.2 with ⟨rfl, _⟩ | ⟨g', cap, cur, rfl, h1, h2, h3⟩
  · cases hg
  · simp only [Value.ownBlock, Option.some.injEq] at hg
    subst hg
    exact (Array.getElem?_eq_some_iff.1 h2).1

/-- A row in a block of its own reads so. -/
theorem Rd.block {w w' : World} {g n c : Nat} {zs : List Int} (h : Rd w (some ⟨g, 0, none⟩) n c zs) (hb : w'.heap[g]? = w.heap[g]?) : Rd w' (some ⟨g, 0, none⟩) n c zs := by
  refine ⟨h.len, h.cap, h.max, h.nil, fun hn => ?_⟩
  obtain ⟨b, off, he, hc⟩ := h.cells hn
  simp only [Option.some.injEq, Addr.mk.injEq] at he
  obtain ⟨rfl, rfl, _⟩ := he
  refine ⟨g, 0, rfl, fun i hi => ?_⟩
  have := hc i hi
  unfold World.cell? at this ⊢
  rw [hb]
  exact this

/-- Behind kb lie the sides Ml and their means; F: all blocks that this memory has. -/
structure Kn (w : World) (kb : Nat) (F : Nat → Prop) (Ml : List (List Nat)) (mv vv : Value) (sl : List Value) : Prop where
  both : w.heap[kb]? = some (.cells #[mv, vv] 76 (0, 0))
  men : w.ownsRow 0 22 1 mv Ml.length sl
  means : w.ownsRow 0 3 1 vv Ml.length ((Ml.map fun m => (v7 m : Int)).map (Value.int .i64))
  rows : ∀ j, j < Ml.length → ∃ g c, sl[j]? = some (.slice (some ⟨g, 0, none⟩) 6 c) ∧ Rd w (some ⟨g, 0, none⟩) 6 c (cs (Ml.getD j [])) ∧ F g ∧ g < w.heap.size ∧ g ≠ kb ∧ mv.ownBlock ≠ some g ∧ vv.ownBlock ≠ some g
  fk : F kb
  fm : ∀ g, mv.ownBlock = some g → F g ∧ g ≠ kb ∧ vv.ownBlock ≠ some g
  fv : ∀ g, vv.ownBlock = some g → F g ∧ g ≠ kb
  mem : ∀ m, m ∈ Ml → m ∈ Ms
  nd : Ml.Nodup

theorem Kn.kept {w w' : World} {kb : Nat} {F Z : Nat → Prop} {Ml : List (List Nat)} {mv vv : Value} {sl : List Value} (h : Kn w kb F Ml mv vv sl) (hk : Keeps Z w w') (hZ : ∀ i, F i → ¬ Z i) : Kn w' kb F Ml mv vv sl := by
  have hblk : ∀ g, F g → g < w.heap.size → w'.heap[g]? = w.heap[g]? := fun g hg hl => hk.block g hl (hZ g hg)
  refine ⟨(hblk kb h.fk (Array.getElem?_eq_some_iff.1 h.both).1).trans h.both, ownsRow_block h.men (fun g hg => hblk g (h.fm g hg).1 (ownsRow_lt h.men hg)), ownsRow_block h.means (fun g hg => hblk g (h.fv g hg).1 (ownsRow_lt h.means hg)), fun j hj => ?_, h.fk, h.fm, h.fv, h.mem, h.nd⟩
  obtain ⟨g, c, h1, h2, h3, h4, h5⟩ := h.rows j hj
  exact ⟨g, c, h1, h2.block (hblk g h3 h4), h3, Nat.lt_of_lt_of_le h4 hk.size, h5⟩

/-- Nothing is known yet. -/
theorem Kn.made (w : World) : Kn (w.alloc (.cells #[.slice none 0 0, .slice none 0 0] 76)) w.heap.size (fun i => i = w.heap.size) [] (.slice none 0 0) (.slice none 0 0) [] :=
  ⟨heap_alloc_new w _, World.ownsRow_nil _ _ _ _, World.ownsRow_nil _ _ _ _, (fun j hj => absurd hj (by simp)), rfl, (fun g hg => by cases hg), (fun g hg => by cases hg), (fun m hm => by cases hm), List.nodup_nil⟩

theorem nodup_len : ∀ (L M : List (List Nat)), L.Nodup → (∀ x, x ∈ L → x ∈ M) → L.length ≤ M.length
  | [], M, _, _ => Nat.zero_le _
  | x :: L, M, hn, hs => by
    rw [List.nodup_cons] at hn
    have hx := hs x (by simp)
    have ih := nodup_len L (M.erase x) hn.2 (fun y hy => (List.mem_erase_of_ne (fun e => by subst e; exact hn.1 hy)).2 (hs y (by simp [hy])))
    have h1 := List.length_erase_of_mem hx
    have h2 := List.length_pos_of_mem hx
    rw [List.length_cons]
    omega

/-- There are 84 at most. -/
theorem Kn.few {w : World} {kb : Nat} {F : Nat → Prop} {Ml : List (List Nat)} {mv vv : Value} {sl : List Value} (h : Kn w kb F Ml mv vv sl) : Ml.length ≤ 84 := by
  have h1 := nodup_len Ml Ms h.nd h.mem
  have h2 : Ms.length = 84 := by decide +kernel
  omega

/-- What the document's memory does for one side: the mean is told, and only the memory's own blocks change. -/
def OfAll : Prop := ∀ (kb : Nat) (m : List Nat), m ∈ Ms → ∀ (w : World) (F : Nat → Prop) (Ml : List (List Nat)) (mv vv : Value) (sl : List Value), Kn w kb F Ml mv vv sl → ∀ (g c : Nat), ¬ F g → Rd w (some ⟨g, 0, none⟩) 6 c (cs m) →
  Calls Try.prog 49 #[.pointer (some ⟨kb, 0, none⟩), .slice (some ⟨g, 0, none⟩) (6 : Nat) c] w fun e w' => e = .returned (.int .i64 (v7 m : Nat)) ∧ Keeps F w w'

theorem v7_le {m : List Nat} (hm : m ∈ Ms) : v7 m ≤ 304679870005248 := Nat.le_trans (Nat.div_le_self _ _) (vl_le hm)

theorem dv_eq {m : List Nat} (hm : m ∈ Ms) : dv 40 3 (dv 40 2 (v7 m) one7).1 (dv 40 2 (v7 m) one7).2 = (rA m, rB m) := of_decide_eq_true (List.all_eq_true.1 dv_tab m hm)

end Go.Proofs.Ytmboikpcbkiepaa
