/-
  The document's search for jumps, said. No conditions beyond those that each theorem bears.
-/
import Derived.Test.YtnbaangnpoblfaaDoorRf
import Derived.Test.YtnbaangnpoblfaaDoorFl
import Derived.Deep.Cut
import Derived.Deep.CutRange
import Derived.Deep.DeepCutAuto
namespace Go.Proofs.YtnbaangnpoblfaaDoor
open Go.RowKit Go.Shelf

/-- The order in which the document looks. -/
def dirR (k : Nat) : Nat := if k = 0 then 0 else if k = 1 then 2 else if k = 2 then 1 else 3
theorem dirR_lt (k : Nat) : dirR k < 4 := by unfold dirR; split <;> first | omega | (split <;> first | omega | (split <;> omega))
theorem dirR_x {i j : Nat} (hi : i < 2) (hj : j < 2) : dX (dirR (2 * i + j)) = 2 * (i : Int) - 1 ∧ dY (dirR (2 * i + j)) = 2 * (j : Int) - 1 := by
  have h1 : i = 0 ∨ i = 1 := by omega
  have h2 : j = 0 ∨ j = 1 := by omega
  rcases h1 with rfl | rfl <;> rcases h2 with rfl | rfl <;> decide

section
variable (Z : List Int) (t : Nat)
/-- What the first so many directions bring. -/
def rjT (p0 f c : Nat) (W ov : List Nat) (k : Nat) : List (List Nat) := (List.range k).flatMap fun i => rjB Z t (rjN Z t p0 f) p0 c W ov (dirR i)
end
theorem rjT_zero (Z : List Int) (t p0 f c : Nat) (W ov : List Nat) : rjT Z t p0 f c W ov 0 = [] := rfl
theorem rjT_succ (Z : List Int) (t p0 f c : Nat) (W ov : List Nat) (k : Nat) : rjT Z t p0 f c W ov (k + 1) = rjT Z t p0 f c W ov k ++ rjB Z t (rjN Z t p0 f) p0 c W ov (dirR k) := by
  unfold rjT; rw [List.range_succ, List.flatMap_append]; simp
theorem rjT_four (Z : List Int) (t p0 f c : Nat) (W ov : List Nat) : rjN Z t p0 (f + 1) c W ov = rjT Z t p0 f c W ov 4 := by
  rw [rjN]; rfl

theorem flatMap_len' {α β : Type} (g : α → List β) (B : Nat) : ∀ (l : List α), (∀ a ∈ l, (g a).length ≤ B) → (l.flatMap g).length ≤ l.length * B
  | [], _ => by simp
  | a :: l, h => by
    rw [List.flatMap_cons, List.length_append, List.length_cons]
    have h1 := h a (by simp)
    have h2 := flatMap_len' g B l (fun b hb => h b (by simp [hb]))
    rw [Nat.add_mul, Nat.one_mul]; omega

theorem rjB_len {Z : List Int} {t p0 c : Nat} {rec : Nat → List Nat → List Nat → List (List Nat)} {W ov : List Nat} {d B : Nat} (h : ∀ q W ov, (rec q W ov).length ≤ B) (hB : 1 ≤ B) : (rjB Z t rec p0 c W ov d).length ≤ B := by
  unfold rjB
  repeat' split
  all_goals first | exact h _ _ _ | (simp only [List.length_singleton]; exact hB) | (simp only [List.length_nil]; exact Nat.zero_le _)
theorem rjN_len {Z : List Int} {t p0 : Nat} : ∀ (f c : Nat) (W ov : List Nat), (rjN Z t p0 f c W ov).length ≤ 4 ^ f
  | 0, _, _, _ => by simp [rjN]
  | f + 1, c, W, ov => by
    rw [rjN, Nat.pow_succ, Nat.mul_comm]
    exact flatMap_len' _ _ _ (fun d _ => rjB_len (fun q W ov => rjN_len f q W ov) (Nat.one_le_pow _ _ (by omega)))
theorem rjT_len {Z : List Int} {t p0 f c : Nat} {W ov : List Nat} {k : Nat} (hk : k ≤ 4) : (rjT Z t p0 f c W ov k).length ≤ 4 * 4 ^ f := by
  unfold rjT
  have := flatMap_len' (fun i => rjB Z t (rjN Z t p0 f) p0 c W ov (dirR i)) (4 ^ f) (List.range k) (fun d _ => rjB_len (fun q W ov => rjN_len f q W ov) (Nat.one_le_pow _ _ (by omega)))
  rw [List.length_range] at this
  exact Nat.le_trans this (Nat.mul_le_mul_right _ hk)

/-- What jumpsOn does. -/
def RJn (Z : List Int) (t p0 f : Nat) : Prop := ∀ (c : Nat) (W ov : List Nat) (az aw ao : Option Addr) (cz cw co : Nat) (w : World), 1 ≤ c → c ≤ 32 → Fu Z t ov f → W.headD 0 = p0 → W.getLastD 0 = c → W.length = ov.length + 1 → Rd w az 33 cz Z → Rd w aw W.length cw (toI W) → Rd w ao ov.length co (toI ov) →
  Calls Tryd.prog 40 #[.agg (dgA az 33 cz (t : Nat)), .int .i64 (Z.getD p0 0), .slice aw W.length cw, .slice ao ov.length co] w fun e w' => ∃ v, e = .returned v ∧ Fl (fun k => w.heap.size ≤ k) w.heap.size w' v ((rjN Z t p0 f c W ov).map toI) ∧ Below w.heap.size w w'

theorem hop_no {Z : List Int} {t p0 c d : Nat} {ov : List Nat} (h : ¬ (fwd (Z.getD p0 0) d = true ∧ nb d (nb d c) ≠ 0 ∧ own3 (Z.getD (nb d c) 0) = 3 - t ∧ ov.contains (nb d c) = false ∧ (Z.getD (nb d (nb d c)) 0 = 0 ∨ nb d (nb d c) = p0))) : hopN Z t p0 c ov d = none := by
  unfold hopN
  rw [if_neg (fun k => h ⟨k.1, k.2.2.2.2.1, k.2.2.1, k.2.2.2.1, k.2.2.2.2.2⟩)]
theorem hop_yes {Z : List Int} {t p0 c d : Nat} {ov : List Nat} (h : fwd (Z.getD p0 0) d = true ∧ nb d (nb d c) ≠ 0 ∧ own3 (Z.getD (nb d c) 0) = 3 - t ∧ ov.contains (nb d c) = false ∧ (Z.getD (nb d (nb d c)) 0 = 0 ∨ nb d (nb d c) = p0)) : hopN Z t p0 c ov d = some (nb d (nb d c), nb d c) := by
  unfold hopN
  rw [if_pos ⟨h.1, fun e => h.2.1 (by rw [e, nb_zero]), h.2.2.1, h.2.2.2.1, h.2.1, h.2.2.2.2⟩]
theorem toI_mem {l : List Nat} {m : Nat} : ((m : Int) ∈ toI l) ↔ l.contains m = true := by
  unfold toI
  rw [List.mem_map, List.contains_iff_mem]
  constructor
  · rintro ⟨x, hx, e⟩; rwa [show m = x by omega]
  · intro h; exact ⟨m, h, rfl⟩

theorem cell_one_new' (W : World) (v : Value) (t : TypeId) : ∀ j u, [v][j]? = some u → (W.alloc (.cells #[v] t)).cell? ((⟨W.heap.size, 0, none⟩ : Addr).add j) = some u := by
  intro j u hu
  match j, hu with
  | 0, hu => rw [Addr.add_lit, ← hu]; exact new_cell W v t
  | j + 1, hu => simp at hu
theorem Rd.one (W : World) (x : Int) : Rd (W.alloc (.cells #[.int .i64 x] 3)) (some ⟨W.heap.size, 0, none⟩) 1 1 [x] := by
  refine ⟨rfl, Nat.le_refl _, by unfold maxLen; omega, (fun e => by cases e), fun _ => ⟨W.heap.size, 0, rfl, fun i hi => ?_⟩⟩
  obtain rfl : i = 0 := by omega
  exact new_cell W _ 3

end Go.Proofs.YtnbaangnpoblfaaDoor
