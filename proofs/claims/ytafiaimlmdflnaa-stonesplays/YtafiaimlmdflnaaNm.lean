/-
  Places of a board, their neighbours in so many directions, ways along them; what is met by going from neighbour to neighbour. No conditions beyond those that each theorem bears.
-/
import Derived.Test.YtafiaimlmdflnaaBase
namespace Go.Proofs.Ytafiaimlmdflnaa

/-- Directions lie one behind the other, right and down. -/
def dX (D : List Int) (k : Nat) : Int := D.getD (2 * k) 0
def dY (D : List Int) (k : Nat) : Int := D.getD (2 * k + 1) 0

/-- The neighbour in a direction, where there is one. -/
def nbk (W H : Nat) (D : List Int) (p k : Nat) : List Nat :=
  if 0 ≤ ((p % W : Nat) : Int) + dX D k ∧ ((p % W : Nat) : Int) + dX D k < W ∧ 0 ≤ ((p / W : Nat) : Int) + dY D k ∧ ((p / W : Nat) : Int) + dY D k < H then [((((p / W : Nat) : Int) + dY D k) * W + (((p % W : Nat) : Int) + dX D k)).toNat] else []

/-- All neighbours, in the order of the directions. -/
def nbu (W H : Nat) (D : List Int) (p k : Nat) : List Nat := (List.range k).flatMap (nbk W H D p)

theorem nbu_succ (W H : Nat) (D : List Int) (p k : Nat) : nbu W H D p (k + 1) = nbu W H D p k ++ nbk W H D p k := by simp [nbu, List.range_succ, List.flatMap_append]

theorem nbu_pre (W H : Nat) (D : List Int) (p k d : Nat) : nbu W H D p k <+: nbu W H D p (k + d) := by
  induction d with
  | zero => exact List.prefix_refl _
  | succ d ih => rw [← Nat.add_assoc, nbu_succ]; exact ih.trans (List.prefix_append _ _)

theorem place_of {W H x y : Nat} (hx : x < W) (hy : y < H) : y * W + x < W * H ∧ (y * W + x) % W = x ∧ (y * W + x) / W = y := by
  have hn : 0 < W := by omega
  have h1 : y * W + W ≤ W * H := by
    have := Nat.mul_le_mul_right W (show y + 1 ≤ H by omega)
    rw [Nat.add_mul, Nat.one_mul, Nat.mul_comm H W] at this
    exact this
  refine ⟨by omega, ?_, ?_⟩
  · rw [Nat.add_comm, Nat.add_mul_mod_self_right, Nat.mod_eq_of_lt hx]
  · rw [Nat.add_comm, Nat.add_mul_div_right _ _ hn, Nat.div_eq_of_lt hx, Nat.zero_add]

theorem of_place {W H p : Nat} (hp : p < W * H) : p % W < W ∧ p / W < H ∧ p / W * W + p % W = p := by
  have hn : 0 < W := by
    rcases Nat.eq_zero_or_pos W with rfl | h
    · simp at hp
    · exact h
  exact ⟨Nat.mod_lt _ hn, (Nat.div_lt_iff_lt_mul hn).2 (by rw [Nat.mul_comm]; exact hp), by rw [Nat.mul_comm]; exact Nat.div_add_mod p W⟩

theorem mem_nbk {W H : Nat} {D : List Int} {p k q : Nat} (h : q ∈ nbk W H D p k) : q < W * H ∧ ((q % W : Nat) : Int) = ((p % W : Nat) : Int) + dX D k ∧ ((q / W : Nat) : Int) = ((p / W : Nat) : Int) + dY D k := by
  unfold nbk at h
  split at h
  case isFalse => simp at h
  case isTrue hh =>
    obtain ⟨a1, a2, a3, a4⟩ := hh
    obtain ⟨x, hx⟩ := Int.eq_ofNat_of_zero_le a1
    obtain ⟨y, hy⟩ := Int.eq_ofNat_of_zero_le a3
    rw [hx] at h a2 ⊢
    rw [hy] at h a4 ⊢
    obtain rfl : q = y * W + x := by
      have := List.mem_singleton.1 h
      rw [this]
      have : ((y : Int) * W + x) = ((y * W + x : Nat) : Int) := by simp
      rw [this]; rfl
    obtain ⟨b1, b2, b3⟩ := place_of (W := W) (H := H) (x := x) (y := y) (by omega) (by omega)
    exact ⟨b1, by rw [b2], by rw [b3]⟩

theorem nbk_mem {W H : Nat} {D : List Int} {p k x y : Nat} (hx : x < W) (hy : y < H) (h1 : (x : Int) = ((p % W : Nat) : Int) + dX D k) (h2 : (y : Int) = ((p / W : Nat) : Int) + dY D k) : y * W + x ∈ nbk W H D p k := by
  unfold nbk
  rw [← h1, ← h2, if_pos ⟨by omega, by omega, by omega, by omega⟩]
  refine List.mem_singleton.2 ?_
  have : ((y : Int) * W + x) = ((y * W + x : Nat) : Int) := by simp
  rw [this]; rfl

/-- The four neighbours. -/
def D4 : List Int := [0, -1, -1, 0, 1, 0, 0, 1]
def nb4 (W H p : Nat) : List Nat := nbu W H D4 p 4

theorem mem_nb4 {W H p q : Nat} : q ∈ nb4 W H p ↔ ∃ k, k < 4 ∧ q ∈ nbk W H D4 p k := by simp [nb4, nbu]

/-- Neighbours. -/
def adj (W p q : Nat) : Prop := p % W = q % W ∧ (p / W = q / W + 1 ∨ q / W = p / W + 1) ∨ p / W = q / W ∧ (p % W = q % W + 1 ∨ q % W = p % W + 1)
instance (W p q : Nat) : Decidable (adj W p q) := by unfold adj; infer_instance

theorem adj_symm {W p q : Nat} (h : adj W p q) : adj W q p := by unfold adj at *; omega

theorem nb4_iff {W H p q : Nat} : q ∈ nb4 W H p ↔ q < W * H ∧ adj W p q := by
  rw [mem_nb4]
  constructor
  · rintro ⟨k, hk, h⟩
    obtain ⟨h1, h2, h3⟩ := mem_nbk h
    refine ⟨h1, ?_⟩
    match k, hk with
    | 0, _ => simp only [dX, dY, D4, List.getD] at h2 h3; simp at h2 h3; unfold adj; omega
    | 1, _ => simp only [dX, dY, D4, List.getD] at h2 h3; simp at h2 h3; unfold adj; omega
    | 2, _ => simp only [dX, dY, D4, List.getD] at h2 h3; simp at h2 h3; unfold adj; omega
    | 3, _ => simp only [dX, dY, D4, List.getD] at h2 h3; simp at h2 h3; unfold adj; omega
  · rintro ⟨hq, ha⟩
    obtain ⟨a1, a2, a3⟩ := of_place hq
    have key : ∀ k, k < 4 → ((q % W : Nat) : Int) = ((p % W : Nat) : Int) + dX D4 k → ((q / W : Nat) : Int) = ((p / W : Nat) : Int) + dY D4 k → ∃ k, k < 4 ∧ q ∈ nbk W H D4 p k := by
      intro k hk e1 e2
      refine ⟨k, hk, ?_⟩
      have := nbk_mem a1 a2 e1 e2
      rwa [a3] at this
    have x0 : dX D4 0 = 0 ∧ dY D4 0 = -1 := ⟨rfl, rfl⟩
    have x1 : dX D4 1 = -1 ∧ dY D4 1 = 0 := ⟨rfl, rfl⟩
    have x2 : dX D4 2 = 1 ∧ dY D4 2 = 0 := ⟨rfl, rfl⟩
    have x3 : dX D4 3 = 0 ∧ dY D4 3 = 1 := ⟨rfl, rfl⟩
    rcases ha with ⟨h, h' | h'⟩ | ⟨h, h' | h'⟩
    · exact key 0 (by omega) (by omega) (by omega)
    · exact key 3 (by omega) (by omega) (by omega)
    · exact key 1 (by omega) (by omega) (by omega)
    · exact key 2 (by omega) (by omega) (by omega)

theorem nb4_lt {W H p q : Nat} (h : q ∈ nb4 W H p) : q < W * H := (nb4_iff.1 h).1
theorem nb4_symm {W H p q : Nat} (hp : p < W * H) (h : q ∈ nb4 W H p) : p ∈ nb4 W H q := nb4_iff.2 ⟨hp, adj_symm (nb4_iff.1 h).2⟩

/-- A way along neighbours through places that P names. -/
inductive Wk (N : Nat) (nb : Nat → List Nat) (P : Nat → Prop) (a : Nat) : Nat → Prop
  | refl : a < N → P a → Wk N nb P a a
  | step {b c : Nat} : Wk N nb P a b → c ∈ nb b → c < N → P c → Wk N nb P a c

section
variable {N : Nat} {nb : Nat → List Nat} {P Q : Nat → Prop} {a b c : Nat}
theorem Wk.lt (h : Wk N nb P a b) : b < N := by cases h with | refl h _ => exact h | step _ _ h _ => exact h
theorem Wk.right (h : Wk N nb P a b) : P b := by cases h with | refl _ h => exact h | step _ _ _ h => exact h
theorem Wk.left (h : Wk N nb P a b) : a < N ∧ P a := by induction h with | refl h1 h2 => exact ⟨h1, h2⟩ | step _ _ _ _ ih => exact ih
theorem Wk.trans (h : Wk N nb P a b) (g : Wk N nb P b c) : Wk N nb P a c := by
  induction g with
  | refl _ _ => exact h
  | step _ h1 h0 h2 ih => exact .step ih h1 h0 h2
theorem Wk.symm (hs : ∀ p q, p < N → q ∈ nb p → p ∈ nb q) (h : Wk N nb P a b) : Wk N nb P b a := by
  induction h with
  | refl h1 h2 => exact .refl h1 h2
  | @step b c h h1 h0 h2 ih => exact Wk.trans (Wk.step (.refl h0 h2) (hs b c h.lt h1) h.lt h.right) ih
theorem Wk.mono (hs : ∀ q, q < N → P q → Q q) (h : Wk N nb P a b) : Wk N nb Q a b := by
  induction h with
  | refl h1 h2 => exact .refl h1 (hs _ h1 h2)
  | step _ h1 h0 h2 ih => exact .step ih h1 h0 (hs _ h0 h2)
/-- What is joined to a place, along places of one set, is joined along those of another that agrees with it there and beside it. -/
theorem Wk.near (hs : ∀ q, Wk N nb P a q → Q q) (h : Wk N nb P a b) : Wk N nb Q a b := by
  induction h with
  | refl h1 h2 => exact .refl h1 (hs _ (.refl h1 h2))
  | step h h1 h0 h2 ih => exact .step ih h1 h0 (hs _ (.step h h1 h0 h2))
end

/-- The places of a set, rising. -/
noncomputable def pls (N : Nat) (P : Nat → Prop) : List Nat := (List.range N).filter fun q => @decide (P q) (Classical.propDecidable _)

theorem mem_pls {N : Nat} {P : Nat → Prop} {q : Nat} : q ∈ pls N P ↔ q < N ∧ P q := by simp [pls]
theorem pls_lt (N : Nat) (P : Nat → Prop) : (pls N P).Pairwise (· < ·) := List.Pairwise.sublist List.filter_sublist List.pairwise_lt_range
theorem pls_nodup (N : Nat) (P : Nat → Prop) : (pls N P).Nodup := (pls_lt N P).imp (fun h => by omega)
theorem pls_len (N : Nat) (P : Nat → Prop) : (pls N P).length ≤ N := by
  unfold pls
  exact Nat.le_trans (List.length_filter_le _ _) (by simp)
theorem pls_congr {N : Nat} {P Q : Nat → Prop} (h : ∀ q, q < N → (P q ↔ Q q)) : pls N P = pls N Q := by
  unfold pls
  refine List.filter_congr fun q hq => ?_
  rw [Bool.eq_iff_iff, @decide_eq_true_iff _ (Classical.propDecidable _), @decide_eq_true_iff _ (Classical.propDecidable _)]
  exact h q (List.mem_range.1 hq)
theorem pls_succ (N : Nat) (P : Nat → Prop) : pls (N + 1) P = pls N P ++ (if @decide (P N) (Classical.propDecidable _) then [N] else []) := by
  unfold pls
  rw [List.range_succ, List.filter_append]
  congr 1
  by_cases h : P N <;> simp [h]

theorem sorted_eq {L M : List Nat} (hL : L.Pairwise (· < ·)) (hM : M.Pairwise (· < ·)) (h : ∀ q, q ∈ L ↔ q ∈ M) : L = M := by
  refine List.Perm.eq_of_pairwise (le := (· < ·)) (fun a b _ _ h1 h2 => by omega) hL hM ?_
  exact (List.perm_ext_iff_of_nodup (hL.imp (fun h => by omega)) (hM.imp (fun h => by omega))).2 h

def toI (l : List Nat) : List Int := l.map (fun x : Nat => (x : Int))
theorem toI_len (l : List Nat) : (toI l).length = l.length := by simp [toI]
theorem toI_snoc (l : List Nat) (x : Nat) : toI (l ++ [x]) = toI l ++ [(x : Int)] := by simp [toI]
theorem toI_append (l k : List Nat) : toI (l ++ k) = toI l ++ toI k := by simp [toI]
theorem toI_getD {L : List Nat} {j : Nat} (hj : j < L.length) : (toI L).getD j 0 = ((L.getD j 0 : Nat) : Int) := by
  simp [toI, List.getD, hj]
theorem toI_inj {L M : List Nat} (h : toI L = toI M) : L = M := by
  have := congrArg (List.map Int.toNat) h
  simpa [toI, Function.comp_def] using this

/-- What is sorted of places without doubles. -/
theorem sort_pls {N : Nat} {P : Nat → Prop} {G : List Nat} (hG : G.Nodup) (h : ∀ q, q ∈ G ↔ q < N ∧ P q) : (toI G).mergeSort (fun x y => decide (x ≤ y)) = toI (pls N P) := by
  refine List.Perm.eq_of_pairwise (le := fun x y : Int => decide (x ≤ y) = true) ?_ (List.pairwise_mergeSort ?_ ?_ _) ?_ ?_
  · intro a b _ _ h1 h2; simp at h1 h2; omega
  · intro a b c h1 h2; simp at h1 h2 ⊢; omega
  · intro a b; simp; omega
  · rw [toI, List.pairwise_map]
    exact (pls_lt N P).imp (fun h => by simp; omega)
  · refine (List.mergeSort_perm _ _).trans ?_
    unfold toI
    refine List.Perm.map _ ((List.perm_ext_iff_of_nodup hG (pls_nodup N P)).2 fun q => ?_)
    rw [h q, mem_pls]

/-- The places that are joined to one along those of a set, rising. -/
noncomputable def spr (N : Nat) (nb : Nat → List Nat) (P : Nat → Prop) (p : Nat) : List Nat := pls N (Wk N nb P p)

theorem mem_spr {N : Nat} {nb : Nat → List Nat} {P : Nat → Prop} {p q : Nat} : q ∈ spr N nb P p ↔ Wk N nb P p q := by
  unfold spr
  rw [mem_pls]
  exact ⟨fun h => h.2, fun h => ⟨h.lt, h⟩⟩

theorem spr_congr {N : Nat} {nb : Nat → List Nat} {P Q : Nat → Prop} {p : Nat} (h : ∀ q, q < N → (P q ↔ Q q)) : spr N nb P p = spr N nb Q p :=
  pls_congr fun _ _ => ⟨fun hw => hw.mono fun q hq => (h q hq).1, fun hw => hw.mono fun q hq => (h q hq).2⟩

/-- What has been met, of which the first k places have been looked around. -/
structure Bf (N : Nat) (nb : Nat → List Nat) (P : Nat → Prop) (p : Nat) (G : List Nat) (k : Nat) : Prop where
  nd : G.Nodup
  st : p ∈ G
  wk : ∀ q ∈ G, Wk N nb P p q
  cl : ∀ j, j < k → ∀ r ∈ nb (G.getD j 0), P r → r ∈ G

section
variable {N : Nat} {nb : Nat → List Nat} {P : Nat → Prop} {p : Nat} {G : List Nat} {k x r : Nat}
theorem Bf.begin (hp : p < N) (hP : P p) : Bf N nb P p [p] 0 :=
  ⟨by simp, by simp, fun q hq => by rw [List.mem_singleton.1 hq]; exact .refl hp hP, fun j hj => absurd hj (by omega)⟩
theorem Bf.len (h : Bf N nb P p G k) : G.length ≤ N := by
  have := h.nd.length_le_of_subset (l₂ := List.range N) (fun q hq => List.mem_range.2 (h.wk q hq).lt)
  simpa using this
theorem Bf.lt (h : Bf N nb P p G k) {q : Nat} (hq : q ∈ G) : q < N := (h.wk q hq).lt
theorem getD_memN (hk : k < G.length) : G.getD k 0 ∈ G := by simp [List.getD, hk]
theorem getD_appN {M : List Nat} (hk : k < G.length) : (G ++ M).getD k 0 = G.getD k 0 := by simp [List.getD, List.getElem?_append_left hk]
theorem Bf.grow (h : Bf N nb P p G k) (hk : k < G.length) (hx : G.getD k 0 = x) (hr : r ∈ nb x) (hrN : r < N) (hs : P r) (hn : r ∉ G) : Bf N nb P p (G ++ [r]) k := by
  refine ⟨?_, List.mem_append_left _ h.st, ?_, ?_⟩
  · rw [List.nodup_append]
    refine ⟨h.nd, by simp, ?_⟩
    intro a ha b hb e
    rw [List.mem_singleton.1 hb] at e
    exact hn (e ▸ ha)
  · intro q hq
    rcases List.mem_append.1 hq with hq | hq
    · exact h.wk q hq
    · rw [List.mem_singleton.1 hq]
      exact .step (h.wk x (hx ▸ getD_memN hk)) hr hrN hs
  · intro j hj r' hr' hs'
    rw [getD_appN (by omega)] at hr'
    exact List.mem_append_left _ (h.cl j hj r' hr' hs')
theorem Bf.next (h : Bf N nb P p G k) (hx : G.getD k 0 = x) (hr : ∀ r ∈ nb x, P r → r ∈ G) : Bf N nb P p G (k + 1) := by
  refine ⟨h.nd, h.st, h.wk, fun j hj r hr' hs => ?_⟩
  by_cases hj' : j < k
  · exact h.cl j hj' r hr' hs
  · obtain rfl : j = k := by omega
    rw [hx] at hr'
    exact hr r hr' hs
theorem Bf.all (h : Bf N nb P p G G.length) : ∀ q, q ∈ G ↔ q < N ∧ Wk N nb P p q := by
  intro q
  constructor
  · intro hq; exact ⟨h.lt hq, h.wk q hq⟩
  · rintro ⟨-, hw⟩
    induction hw with
    | refl _ _ => exact h.st
    | @step b c hb hc h0 hs ih =>
      obtain ⟨j, hj, e⟩ := List.getElem_of_mem ih
      have e' : G.getD j 0 = b := by simp [List.getD, hj, e]
      exact h.cl j hj c (by rw [e']; exact hc) hs
theorem Bf.sorted (h : Bf N nb P p G G.length) : (toI G).mergeSort (fun x y => decide (x ≤ y)) = toI (spr N nb P p) := sort_pls h.nd h.all
theorem Bf.length (h : Bf N nb P p G G.length) : (spr N nb P p).length = G.length := by
  have := congrArg List.length h.sorted
  rw [List.length_mergeSort, toI_len, toI_len] at this
  exact this.symm
end

end Go.Proofs.Ytafiaimlmdflnaa
