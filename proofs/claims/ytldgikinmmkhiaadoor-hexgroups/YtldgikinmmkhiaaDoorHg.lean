/-
  Groups: the places that are joined to one by signs of its kind; how they are found by going from neighbour to neighbour; all groups of a player; who has joined its sides. No conditions beyond those that each theorem bears.
-/
import Derived.Test.YtldgikinmmkhiaaDoorHb
import Derived.Test.YtldgikinmmkhiaaDoorJn
namespace Go.Proofs.YtldgikinmmkhiaaDoor

/-- The sign at a place is so. -/
def sg (Z : List Int) (v : Int) (q : Nat) : Prop := Z.getD q 0 = v
instance (Z : List Int) (v : Int) (q : Nat) : Decidable (sg Z v q) := by unfold sg; infer_instance

/-- The places of a set, rising. -/
noncomputable def pls (n : Nat) (P : Nat → Prop) : List Nat := (List.range (n * n)).filter fun q => @decide (P q) (Classical.propDecidable _)

theorem mem_pls {n : Nat} {P : Nat → Prop} {q : Nat} : q ∈ pls n P ↔ q < n * n ∧ P q := by simp [pls]
theorem pls_lt (n : Nat) (P : Nat → Prop) : (pls n P).Pairwise (· < ·) := List.Pairwise.sublist List.filter_sublist List.pairwise_lt_range
theorem pls_nodup (n : Nat) (P : Nat → Prop) : (pls n P).Nodup := (pls_lt n P).imp (fun h => by omega)
theorem pls_len (n : Nat) (P : Nat → Prop) : (pls n P).length ≤ n * n := by
  unfold pls
  exact Nat.le_trans (List.length_filter_le _ _) (by simp)
theorem pls_congr {n : Nat} {P Q : Nat → Prop} (h : ∀ q, q < n * n → (P q ↔ Q q)) : pls n P = pls n Q := by
  unfold pls
  refine List.filter_congr fun q hq => ?_
  rw [Bool.eq_iff_iff, @decide_eq_true_iff _ (Classical.propDecidable _), @decide_eq_true_iff _ (Classical.propDecidable _)]
  exact h q (List.mem_range.1 hq)

theorem sorted_eq {L M : List Nat} (hL : L.Pairwise (· < ·)) (hM : M.Pairwise (· < ·)) (h : ∀ q, q ∈ L ↔ q ∈ M) : L = M := by
  refine List.Perm.eq_of_pairwise (le := (· < ·)) (fun a b _ _ h1 h2 => by omega) hL hM ?_
  exact (List.perm_ext_iff_of_nodup (hL.imp (fun h => by omega)) (hM.imp (fun h => by omega))).2 h

/-- What is sorted of places without doubles. -/
theorem sort_pls {n : Nat} {P : Nat → Prop} {G : List Nat} (hG : G.Nodup) (h : ∀ q, q ∈ G ↔ q < n * n ∧ P q) : (toI G).mergeSort (fun x y => decide (x ≤ y)) = toI (pls n P) := by
  refine List.Perm.eq_of_pairwise (le := fun x y : Int => decide (x ≤ y) = true) ?_ (List.pairwise_mergeSort ?_ ?_ _) ?_ ?_
  · intro a b _ _ h1 h2; simp at h1 h2; omega
  · intro a b c h1 h2; simp at h1 h2 ⊢; omega
  · intro a b; simp; omega
  · rw [toI, List.pairwise_map]
    exact (pls_lt n P).imp (fun h => by simp; omega)
  · refine (List.mergeSort_perm _ _).trans ?_
    unfold toI
    refine List.Perm.map _ ((List.perm_ext_iff_of_nodup hG (pls_nodup n P)).2 fun q => ?_)
    rw [h q, mem_pls]

/-- The group of a place. -/
noncomputable def grp (n : Nat) (Z : List Int) (p : Nat) : List Nat := pls n (Wk n (sg Z (Z.getD p 0)) p)

theorem mem_grp {n : Nat} {Z : List Int} {p q : Nat} : q ∈ grp n Z p ↔ Wk n (sg Z (Z.getD p 0)) p q := by
  unfold grp
  rw [mem_pls]
  exact ⟨fun h => h.2, fun h => ⟨h.lt, h⟩⟩

/-- What has been met, of which the first k places have been looked around. -/
structure Bf (n : Nat) (Z : List Int) (p : Nat) (G : List Nat) (k : Nat) : Prop where
  nd : G.Nodup
  st : p ∈ G
  wk : ∀ q ∈ G, Wk n (sg Z (Z.getD p 0)) p q
  cl : ∀ j, j < k → ∀ r ∈ nbs n (G.getD j 0), sg Z (Z.getD p 0) r → r ∈ G

theorem Bf.begin {n : Nat} {Z : List Int} {p : Nat} (hp : p < n * n) : Bf n Z p [p] 0 :=
  ⟨by simp, by simp, fun q hq => by rw [List.mem_singleton.1 hq]; exact .refl hp rfl, fun j hj => absurd hj (by omega)⟩

theorem Bf.len {n : Nat} {Z : List Int} {p : Nat} {G : List Nat} {k : Nat} (h : Bf n Z p G k) : G.length ≤ n * n := by
  have := h.nd.length_le_of_subset (l₂ := List.range (n * n)) (fun q hq => List.mem_range.2 (h.wk q hq).lt)
  simpa using this

theorem Bf.lt {n : Nat} {Z : List Int} {p : Nat} {G : List Nat} {k : Nat} (h : Bf n Z p G k) {q : Nat} (hq : q ∈ G) : q < n * n := (h.wk q hq).lt

theorem getD_memN {G : List Nat} {k : Nat} (hk : k < G.length) : G.getD k 0 ∈ G := by simp [List.getD, hk]
theorem getD_appN {G M : List Nat} {k : Nat} (hk : k < G.length) : (G ++ M).getD k 0 = G.getD k 0 := by simp [List.getD, List.getElem?_append_left hk]

theorem Bf.grow {n : Nat} {Z : List Int} {p : Nat} {G : List Nat} {k x r : Nat} (h : Bf n Z p G k) (hk : k < G.length) (hx : G.getD k 0 = x) (hr : r ∈ nbs n x) (hs : sg Z (Z.getD p 0) r) (hn : r ∉ G) : Bf n Z p (G ++ [r]) k := by
  refine ⟨?_, List.mem_append_left _ h.st, ?_, ?_⟩
  · rw [List.nodup_append]
    refine ⟨h.nd, by simp, ?_⟩
    intro a ha b hb e
    rw [List.mem_singleton.1 hb] at e
    exact hn (e ▸ ha)
  · intro q hq
    rcases List.mem_append.1 hq with hq | hq
    · exact h.wk q hq
    · rw [List.mem_singleton.1 hq]
      exact .step (h.wk x (hx ▸ getD_memN hk)) hr hs
  · intro j hj r' hr' hs'
    rw [getD_appN (by omega)] at hr'
    exact List.mem_append_left _ (h.cl j hj r' hr' hs')

theorem Bf.next {n : Nat} {Z : List Int} {p : Nat} {G : List Nat} {k x : Nat} (h : Bf n Z p G k) (hx : G.getD k 0 = x) (hr : ∀ r ∈ nbs n x, sg Z (Z.getD p 0) r → r ∈ G) : Bf n Z p G (k + 1) := by
  refine ⟨h.nd, h.st, h.wk, fun j hj r hr' hs => ?_⟩
  by_cases hj' : j < k
  · exact h.cl j hj' r hr' hs
  · obtain rfl : j = k := by omega
    rw [hx] at hr'
    exact hr r hr' hs

theorem Bf.all {n : Nat} {Z : List Int} {p : Nat} {G : List Nat} (h : Bf n Z p G G.length) : ∀ q, q ∈ G ↔ q < n * n ∧ Wk n (sg Z (Z.getD p 0)) p q := by
  intro q
  constructor
  · intro hq; exact ⟨h.lt hq, h.wk q hq⟩
  · rintro ⟨-, hw⟩
    induction hw with
    | refl _ _ => exact h.st
    | @step b c hb hc hs ih =>
      obtain ⟨j, hj, e⟩ := List.getElem_of_mem ih
      have e' : G.getD j 0 = b := by simp [List.getD, hj, e]
      exact h.cl j hj c (by rw [e']; exact hc) hs

theorem Bf.sorted {n : Nat} {Z : List Int} {p : Nat} {G : List Nat} (h : Bf n Z p G G.length) : (toI G).mergeSort (fun x y => decide (x ≤ y)) = toI (grp n Z p) := sort_pls h.nd h.all

theorem Bf.length {n : Nat} {Z : List Int} {p : Nat} {G : List Nat} (h : Bf n Z p G G.length) : (grp n Z p).length = G.length := by
  have := congrArg List.length h.sorted
  rw [List.length_mergeSort, toI_len, toI_len] at this
  exact this.symm

end Go.Proofs.YtldgikinmmkhiaaDoor
