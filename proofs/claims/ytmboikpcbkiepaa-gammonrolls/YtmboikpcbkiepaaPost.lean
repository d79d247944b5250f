/-
  What a call on the document's memory leaves behind, and what its search for the least is. No conditions beyond those that each theorem bears.
-/
import Derived.Test.YtmboikpcbkiepaaApr
namespace Go.Proofs.Ytmboikpcbkiepaa
open Go.RowKit

/-- The memory, and its blocks are there. -/
def Ks (w : World) (kb : Nat) (F : Nat → Prop) (Ml : List (List Nat)) : Prop := (∃ mv vv sl, Kn w kb F Ml mv vv sl) ∧ ∀ i, F i → i < w.heap.size

theorem Ks.below {w w' : World} {kb B : Nat} {F : Nat → Prop} {Ml : List (List Nat)} (h : Ks w kb F Ml) (hb : Below B w w') (hB : w.heap.size ≤ B) : Ks w' kb F Ml := by
  obtain ⟨⟨mv, vv, sl, hk⟩, hl⟩ := h
  exact ⟨⟨mv, vv, sl, hk.kept (Keeps.of_below hb) (fun i hi => by have := hl i hi; omega)⟩, fun i hi => Nat.lt_of_lt_of_le (hl i hi) hb.size⟩

theorem Ks.keeps {w w' : World} {kb : Nat} {F Z : Nat → Prop} {Ml : List (List Nat)} (h : Ks w kb F Ml) (hb : Keeps Z w w') (hZ : ∀ i, F i → ¬ Z i) : Ks w' kb F Ml := by
  obtain ⟨⟨mv, vv, sl, hk⟩, hl⟩ := h
  exact ⟨⟨mv, vv, sl, hk.kept hb hZ⟩, fun i hi => Nat.lt_of_lt_of_le (hl i hi) hb.size⟩

/-- Behind a call: only the memory's blocks have changed; what is new in it has fewer pips than P. -/
def Post (P kb : Nat) (w : World) (F : Nat → Prop) (Ml : List (List Nat)) (w' : World) : Prop :=
  ∃ F' Ml', Ks w' kb F' Ml' ∧ Keeps F w w' ∧ (∀ i, i < w.heap.size → F' i → F i) ∧ ∀ z, z ∈ Ml' → z ∈ Ml ∨ pip z < P

theorem Post.refl {P kb : Nat} {w : World} {F : Nat → Prop} {Ml : List (List Nat)} (h : Ks w kb F Ml) : Post P kb w F Ml w := ⟨F, Ml, h, Keeps.refl _ _, fun _ _ h => h, fun _ h => Or.inl h⟩

theorem Post.trans {P kb : Nat} {w w1 w2 : World} {F F1 : Nat → Prop} {Ml Ml1 : List (List Nat)} (hk : Keeps F w w1) (hs : ∀ i, i < w.heap.size → F1 i → F i) (he : ∀ z, z ∈ Ml1 → z ∈ Ml ∨ pip z < P) (h : Post P kb w1 F1 Ml1 w2) : Post P kb w F Ml w2 := by
  obtain ⟨F2, Ml2, h1, h2, h3, h4⟩ := h
  refine ⟨F2, Ml2, h1, ⟨h2.os.trans hk.os, h2.tape.trans hk.tape, h2.output.trans hk.output, Nat.le_trans hk.size h2.size, fun i hi hF => (h2.block i (Nat.lt_of_lt_of_le hi hk.size) (fun e => hF (hs i hi e))).trans (hk.block i hi hF)⟩, fun i hi e => hs i hi (h3 i (Nat.lt_of_lt_of_le hi hk.size) e), fun z hz => ?_⟩
  rcases h4 z hz with h | h
  · exact he z h
  · exact Or.inr h

/-- The best of the first i places. -/
def acc (ps : List Nat) (m : List Nat) (p : Nat) : Nat → Option Nat
  | 0 => none
  | i + 1 => if can m p i then (match acc ps m p i with | none => some (rfL ps (nxt m p i)) | some b => some (min b (rfL ps (nxt m p i)))) else acc ps m p i

def ov : Option Nat → Int
  | none => -1
  | some x => (x : Int)

theorem acc_eq {m : List Nat} (hm : m ∈ Ms) {p : Nat} (hp : 1 ≤ p ∧ p ≤ 6) (ps : List Nat) : ∀ k, k ≤ 6 → ((List.range k).filterMap fun i => st6 m (i + 1) p).foldl (fun a z => match a with | none => some (rfL ps z) | some b => some (min b (rfL ps z))) none = acc ps m p k := by
  intro k
  induction k with
  | zero => intro _; rfl
  | succ k ih =>
    intro hk
    rw [List.range_succ, List.filterMap_append, List.foldl_append, ih (by omega)]
    have h1 := List.all_eq_true.1 can_tab m hm
    have h2 := List.all_eq_true.1 h1 k (List.mem_range.2 (by omega))
    have h3 := of_decide_eq_true (List.all_eq_true.1 h2 (p - 1) (List.mem_range.2 (by omega)))
    rw [show p - 1 + 1 = p by omega] at h3
    simp only [List.filterMap_cons, List.filterMap_nil, h3, acc]
    cases can m p k <;> simp

theorem can_far {m : List Nat} {p i : Nat} (h : far m 6 < (i : Int)) : can m p i = false := by
  unfold can
  rw [show decide ((i : Int) ≤ far m 6) = false by simpa using h]
  rfl

theorem acc_far {m : List Nat} {p : Nat} (ps : List Nat) (k : Nat) (h : far m 6 < (k : Int)) : ∀ d, acc ps m p (k + d) = acc ps m p k := by
  intro d
  induction d with
  | zero => rfl
  | succ d ih => rw [← Nat.add_assoc, acc, can_far (by omega), if_neg (by simp), ih]

theorem far_facts {m : List Nat} (hm : m ∈ Ms) : (far m 6 < 0 ↔ pip m = 0) ∧ far m 6 ≤ 5 := by
  have h := List.all_eq_true.1 far_tab m hm
  simp only [Bool.and_eq_true, decide_eq_true_eq] at h
  exact ⟨by rw [h.1], h.2⟩

theorem can_next {m : List Nat} (hm : m ∈ Ms) {p i : Nat} (hp : 1 ≤ p ∧ p ≤ 6) (hi : i < 6) (h : can m p i = true) : nxt m p i ∈ Ms ∧ pip (nxt m p i) < pip m := by
  have h1 := List.all_eq_true.1 can_tab m hm
  have h2 := List.all_eq_true.1 h1 i (List.mem_range.2 hi)
  have h3 := of_decide_eq_true (List.all_eq_true.1 h2 (p - 1) (List.mem_range.2 (by omega)))
  rw [show p - 1 + 1 = p by omega, if_pos h] at h3
  exact st6_both hm ⟨by omega, by omega⟩ hp h3

theorem rfL_cons {m : List Nat} (hm : m ∈ Ms) (h0 : 0 < pip m) {p : Nat} (hp : 1 ≤ p ∧ p ≤ 6) (ps : List Nat) {k : Nat} (hk : k ≤ 6) (hf : far m 6 < (k : Int)) : ov (acc ps m p k) = (rfL (p :: ps) m : Nat) := by
  have e1 : acc ps m p 6 = acc ps m p k := by
    have := acc_far (p := p) ps k hf (6 - k)
    rwa [show k + (6 - k) = 6 by omega] at this
  have e2 : rfL (p :: ps) m = (acc ps m p 6).getD 0 := by
    rw [rfL, if_neg (fun e => by have := Nat.eq_of_beq_eq_true e; omega), ← acc_eq hm hp ps 6 (Nat.le_refl _)]
    simp only [aftL, List.flatMap_cons, List.flatMap_nil, List.append_nil]
    rfl
  have hne : acc ps m p 6 ≠ none := by
    rw [← acc_eq hm hp ps 6 (Nat.le_refl _)]
    have hs := aft_some hm h0 hp
    simp only [aftL, List.flatMap_cons, List.flatMap_nil, List.append_nil] at hs
    generalize ((List.range 6).filterMap fun i => st6 m (i + 1) p) = l at hs
    cases l with
    | nil => cases hs
    | cons z l =>
      rw [List.foldl_cons]
      have : ∀ (l : List (List Nat)) (x : Nat), l.foldl (fun a z => match a with | none => some (rfL ps z) | some b => some (min b (rfL ps z))) (some x) ≠ none := by
        intro l
        induction l with
        | nil => intro x; simp
        | cons y l ih => intro x; rw [List.foldl_cons]; exact ih _
      exact this l _
  rw [e2, ← e1]
  cases h : acc ps m p 6 with
  | none => exact absurd h hne
  | some x => rfl

def OfOk (P kb : Nat) : Prop := ∀ (m : List Nat), m ∈ Ms → pip m < P → ∀ (w : World) (F : Nat → Prop) (Ml : List (List Nat)), Ks w kb F Ml → ∀ (g c : Nat), ¬ F g → Rd w (some ⟨g, 0, none⟩) 6 c (cs m) →
  Calls Try.prog 49 #[.pointer (some ⟨kb, 0, none⟩), .slice (some ⟨g, 0, none⟩) (6 : Nat) c] w fun e w' => e = .returned (.int .i64 (v7 m : Nat)) ∧ Post P kb w F Ml w'

def LeOk (P kb q : Nat) : Prop := ∀ (ps : List Nat), ps.length = q → (∀ p, p ∈ ps → 1 ≤ p ∧ p ≤ 6) → ∀ (m : List Nat), m ∈ Ms → (pip m < P ∨ (0 < pip m ∧ pip m ≤ P ∧ 0 < q)) → ∀ (w : World) (F : Nat → Prop) (Ml : List (List Nat)), Ks w kb F Ml → ∀ (g c : Nat), ¬ F g → Rd w (some ⟨g, 0, none⟩) 6 c (cs m) →
  ∀ (b off pc : Nat), ¬ F b → b < w.heap.size → Rd w (some ⟨b, off, none⟩) q pc (cs ps) →
  Calls Try.prog 64 #[.pointer (some ⟨kb, 0, none⟩), .slice (some ⟨g, 0, none⟩) (6 : Nat) c, .slice (some ⟨b, off, none⟩) q pc] w fun e w' => e = .returned (.int .i64 (rfL ps m : Nat)) ∧ Post P kb w F Ml w'

end Go.Proofs.Ytmboikpcbkiepaa
