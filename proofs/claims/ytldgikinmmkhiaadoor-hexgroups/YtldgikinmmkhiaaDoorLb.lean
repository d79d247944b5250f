/-
  Labels of places: each place of a player's comes to bear the least place of its group. No conditions beyond those that each theorem bears.
-/
import Derived.Test.YtldgikinmmkhiaaDoorSh1
namespace Go.Proofs.YtldgikinmmkhiaaDoor

/-- Labels. -/
structure Lb (n : Nat) (Z : List Int) (m : Int) (L : List Nat) : Prop where
  len : L.length = n * n
  le : ∀ a, a < n * n → L.getD a 0 ≤ a
  own : ∀ a, a < n * n → sg Z m a → Wk n (sg Z m) a (L.getD a 0)

theorem range_getD {N a : Nat} (h : a < N) : (List.range N).getD a 0 = a := by simp [List.getD, h]

theorem Lb.begin (n : Nat) (Z : List Int) (m : Int) : Lb n Z m (List.range (n * n)) :=
  ⟨by simp, fun a h => by rw [range_getD h]; exact Nat.le_refl _, fun a h hs => by rw [range_getD h]; exact .refl h hs⟩

theorem Lb.step {n : Nat} {Z : List Int} {m : Int} {L : List Nat} (h : Lb n Z m L) {a b : Nat} (ha : a < n * n) (hb : b < n * n) (sa : sg Z m a) (sb : sg Z m b) (hn : b ∈ nbs n a) (hl : L.getD b 0 < L.getD a 0) :
    Lb n Z m (L.set a (L.getD b 0)) ∧ (L.set a (L.getD b 0)).sum < L.sum := by
  have hal : a < L.length := by rw [h.len]; exact ha
  refine ⟨⟨by simp [h.len], fun p hp => ?_, fun p hp sp => ?_⟩, ?_⟩
  · by_cases e : p = a
    · subst e; rw [getD_set_same hal]; have := h.le p hp; omega
    · rw [getD_set_ne' e]; exact h.le p hp
  · by_cases e : p = a
    · subst e; rw [getD_set_same hal]; exact (Wk.step (.refl ha sa) hn sb).trans (h.own b hb sb)
    · rw [getD_set_ne' e]; exact h.own p hp sp
  · have := sum_set (x := L.getD b 0) hal
    omega

/-- Nothing is left to do at a pair. -/
def okp (n : Nat) (Z : List Int) (m : Int) (L : List Nat) (a b : Nat) : Prop := sg Z m a → sg Z m b → b ∈ nbs n a → L.getD a 0 ≤ L.getD b 0

/-- Nothing is left to do. -/
def Fx (n : Nat) (Z : List Int) (m : Int) (L : List Nat) : Prop := ∀ a b, a < n * n → b < n * n → okp n Z m L a b

theorem Fx.least {n : Nat} {Z : List Int} {m : Int} {L : List Nat} (hf : Fx n Z m L) {a q : Nat} (h : Wk n (sg Z m) a q) : L.getD a 0 ≤ L.getD q 0 := by
  induction h with
  | refl _ _ => exact Nat.le_refl _
  | @step b c hb hc hs ih => exact Nat.le_trans ih (hf b c hb.lt (nbs_lt hc) hb.right hs hc)

theorem Lb.leader {n : Nat} {Z : List Int} {m : Int} {L : List Nat} (h : Lb n Z m L) (hf : Fx n Z m L) {i : Nat} (hi : i < n * n) : ldr n Z m i ↔ sg Z m i ∧ L.getD i 0 = i := by
  constructor
  · intro hl
    have h1 := hl.2 _ (h.own i hi hl.1)
    have h2 := h.le i hi
    exact ⟨hl.1, by omega⟩
  · rintro ⟨hs, e⟩
    refine ⟨hs, fun q hq => ?_⟩
    have h1 := hf.least hq
    have h2 := h.le q hq.lt
    omega

theorem Lb.group {n : Nat} {Z : List Int} {m : Int} {L : List Nat} (h : Lb n Z m L) (hf : Fx n Z m L) {i : Nat} (hl : ldr n Z m i) (hi : i < n * n) {k : Nat} (hk : k < n * n) : Wk n (sg Z (Z.getD i 0)) i k ↔ sg Z m k ∧ L.getD k 0 = i := by
  have e : Z.getD i 0 = m := hl.1
  rw [e]
  have ei := ((h.leader hf hi).1 hl).2
  constructor
  · intro hw
    have h1 := hf.least hw
    have h2 := hf.least hw.symm
    exact ⟨hw.right, by omega⟩
  · rintro ⟨hs, ek⟩
    have := h.own k hk hs
    rw [ek] at this
    exact this.symm

/-- The places up to k that bear the label i. -/
def lbl (Z : List Int) (m : Int) (L : List Nat) (i k : Nat) : List Nat := (List.range k).filter fun q => decide (sg Z m q) && decide (L.getD q 0 = i)
theorem lbl_zero (Z : List Int) (m : Int) (L : List Nat) (i : Nat) : lbl Z m L i 0 = [] := rfl
theorem lbl_succ (Z : List Int) (m : Int) (L : List Nat) (i k : Nat) : lbl Z m L i (k + 1) = lbl Z m L i k ++ (if sg Z m k ∧ L.getD k 0 = i then [k] else []) := by
  unfold lbl
  rw [List.range_succ, List.filter_append]
  congr 1
  by_cases h1 : sg Z m k
  · by_cases h2 : L.getD k 0 = i
    · rw [if_pos ⟨h1, h2⟩, List.filter_cons, decide_eq_true h1, decide_eq_true h2]; rfl
    · rw [if_neg (fun h => h2 h.2), List.filter_cons, decide_eq_true h1, decide_eq_false h2]; rfl
  · rw [if_neg (fun h => h1 h.1), List.filter_cons, decide_eq_false h1]; rfl
theorem lbl_len (Z : List Int) (m : Int) (L : List Nat) (i k : Nat) : (lbl Z m L i k).length ≤ k := by
  unfold lbl; exact Nat.le_trans (List.length_filter_le _ _) (by simp)

theorem lbl_grp {n : Nat} {Z : List Int} {m : Int} {L : List Nat} (h : Lb n Z m L) (hf : Fx n Z m L) {i : Nat} (hl : ldr n Z m i) (hi : i < n * n) : lbl Z m L i (n * n) = grp n Z i := by
  unfold lbl grp pls
  refine List.filter_congr fun q hq => ?_
  rw [Bool.eq_iff_iff, Bool.and_eq_true, decide_eq_true_iff, decide_eq_true_iff, @decide_eq_true_iff _ (Classical.propDecidable _)]
  exact (h.group hf hl hi (List.mem_range.1 hq)).symm

/-- The first labels are laid. -/
def inL (N k : Nat) : List Nat := List.range k ++ List.replicate (N - k) 0
theorem inL_zero (N : Nat) : inL N 0 = List.replicate N 0 := by simp [inL]
theorem inL_len {N k : Nat} (h : k ≤ N) : (inL N k).length = N := by simp [inL]; omega
theorem inL_full (N : Nat) : inL N N = List.range N := by simp [inL]
theorem inL_set {N k : Nat} (h : k < N) : (inL N k).set k k = inL N (k + 1) := by
  unfold inL
  rw [List.set_append_right _ _ (by simp), List.length_range, Nat.sub_self, show N - k = (N - (k + 1)) + 1 by omega, List.replicate_succ, List.set_cons_zero, List.range_succ, List.append_assoc]
  rfl

end Go.Proofs.YtldgikinmmkhiaaDoor
