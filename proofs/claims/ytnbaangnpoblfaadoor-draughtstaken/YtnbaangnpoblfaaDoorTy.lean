/-
  Draughts: a way's text cut at its signs gives the words of its places. No conditions beyond those that each theorem bears.
-/
import Derived.Test.YtnbaangnpoblfaaDoorTx
import Derived.Lib.IndexBytes
import Derived.Lib.IndexMore
namespace Go.Proofs.YtnbaangnpoblfaaDoor

theorem idx_none : ∀ {l : List UInt8} {c : UInt8}, c ∉ l → Lib.indexByte l c = -1
  | [], _, _ => rfl
  | b :: l, c, h => by
    have h1 : (b == c) = false := by
      rw [beq_eq_false_iff_ne]
      exact fun e => h (by simp [e])
    have h2 := idx_none (l := l) (c := c) (fun hm => h (by simp [hm]))
    rw [Lib.indexByte, h1, h2]
    rfl
theorem idx_app : ∀ {l : List UInt8} {c : UInt8} (m : List UInt8), c ∉ l → Lib.indexByte (l ++ c :: m) c = l.length
  | [], c, m, _ => by simp [Lib.indexByte]
  | b :: l, c, m, h => by
    have h1 : (b == c) = false := by
      rw [beq_eq_false_iff_ne]
      exact fun e => h (by simp [e])
    have h2 := idx_app (l := l) (c := c) m (fun hm => h (by simp [hm]))
    rw [List.cons_append, Lib.indexByte, h1, h2]
    have h3 : (((l.length : Nat) : Int) == -1) = false := by
      rw [beq_eq_false_iff_ne]
      omega
    rw [h3]
    simp
theorem cut_none {l : List UInt8} {c : UInt8} (h : c ∉ l) : Lib.cut l [c] = (l, [], false) := by
  unfold Lib.cut
  rw [Lib.index_one, idx_none h, if_neg (by omega)]
theorem cut_app {l : List UInt8} {c : UInt8} (m : List UInt8) (h : c ∉ l) : Lib.cut (l ++ c :: m) [c] = (l, m, true) := by
  unfold Lib.cut
  rw [Lib.index_one, idx_app m h, if_pos (by omega)]
  simp

/-- The text from place k on. -/
def txS (j : Bool) : List Nat → List UInt8
  | [] => []
  | [p] => Lib.decDigits p
  | p :: q :: W => Lib.decDigits p ++ sgB j :: txS j (q :: W)

theorem dec_digit {p : Nat} (h : p < 100) : ∀ x ∈ Lib.decDigits p, 48 ≤ x.toNat ∧ x.toNat ≤ 57 := by
  have key : ∀ u, u < 10 → 48 ≤ (UInt8.ofNat (48 + u)).toNat ∧ (UInt8.ofNat (48 + u)).toNat ≤ 57 := by decide
  intro x hx
  rw [Lib.decDigits] at hx
  split at hx
  · rename_i h10
    rw [List.mem_singleton.1 hx]
    exact key p h10
  · rw [Lib.decDigits, dif_pos (by omega)] at hx
    simp only [List.mem_append, List.mem_singleton] at hx
    rcases hx with rfl | rfl
    · exact key _ (by omega)
    · exact key _ (by omega)
theorem sg_not {p : Nat} (i : Bool) (h : p < 100) : sgB i ∉ Lib.decDigits p := fun hm => by
  have := dec_digit h _ hm
  cases i <;> simp [sgB] at this

/-- Cut at the sign: the first place's word, and the rest. -/
theorem cut_more {p q : Nat} {W : List Nat} (j : Bool) (h : p < 100) : Lib.cut (txS j (p :: q :: W)) [sgB j] = (Lib.decDigits p, txS j (q :: W), true) := by
  rw [txS]
  exact cut_app _ (sg_not j h)
theorem cut_last {p : Nat} (j : Bool) (h : p < 100) : Lib.cut (txS j [p]) [sgB j] = (Lib.decDigits p, [], false) := by
  rw [txS]
  exact cut_none (sg_not j h)

/-- Which sign stands there. -/
theorem mem_txS {j i : Bool} : ∀ {W : List Nat}, (∀ p ∈ W, p < 100) → (sgB i ∈ txS j W ↔ 2 ≤ W.length ∧ i = j)
  | [], _ => by simp [txS]
  | [p], h => by
    rw [txS]
    simp [sg_not i (h p (by simp))]
  | p :: q :: W, h => by
    rw [txS, List.mem_append, List.mem_cons]
    have h1 := sg_not i (h p (by simp))
    have ih := mem_txS (j := j) (i := i) (W := q :: W) (fun x hx => h x (by simp at hx ⊢; exact Or.inr hx))
    rw [ih]
    constructor
    · rintro (k | k | k)
      · exact absurd k h1
      · refine ⟨by simp, ?_⟩
        cases i <;> cases j <;> first | rfl | (exact absurd k (by decide))
      · exact ⟨by simp, k.2⟩
    · rintro ⟨_, rfl⟩
      exact Or.inr (Or.inl rfl)

/-- What the program writes is this text. -/
theorem txK_app (V W : List Nat) (j : Bool) : ∀ k, k ≤ V.length → txK (V ++ W) j k = txK V j k
  | 0, _ => by rw [txK, txK]
  | k + 1, h => by
    rw [txK, txK, txK_app V W j k (by omega)]
    have : (V ++ W).getD k 0 = V.getD k 0 := by simp [List.getD, List.getElem?_append_left (show k < V.length by omega)]
    rw [this]
theorem txS_snoc (j : Bool) (q : Nat) : ∀ (W : List Nat), W ≠ [] → txS j (W ++ [q]) = txS j W ++ ([sgB j] ++ Lib.decDigits q)
  | [], h => absurd rfl h
  | [p], _ => by simp [txS]
  | p :: r :: W, _ => by
    have ih := txS_snoc j q (r :: W) (by simp)
    rw [show p :: r :: W ++ [q] = p :: r :: (W ++ [q]) from rfl, txS, txS, show r :: (W ++ [q]) = (r :: W) ++ [q] from rfl, ih]
    simp
theorem txK_txS (j : Bool) (W : List Nat) : txK W j W.length = txS j W := by
  have key : ∀ n (W : List Nat), W.length = n → txK W j n = txS j W := by
    intro n
    induction n with
    | zero =>
      intro W h
      rw [List.eq_nil_of_length_eq_zero h, txK, txS]
    | succ n ih =>
      intro W h
      have hne : W ≠ [] := by intro e; rw [e] at h; simp at h
      obtain ⟨V, q, rfl⟩ : ∃ V q, W = V ++ [q] := ⟨W.dropLast, W.getLast hne, (List.dropLast_concat_getLast hne).symm⟩
      have hl : V.length = n := by simpa using h
      have hq : (V ++ [q]).getD n 0 = q := by rw [← hl]; simp [List.getD]
      rw [txK, txK_app V [q] j n (by omega), ih V hl, hq]
      by_cases h0 : n = 0
      · rw [if_pos h0]
        rw [List.eq_nil_of_length_eq_zero (hl.trans h0)]
        simp [txS]
      · rw [if_neg h0]
        exact (txS_snoc j q V (by intro e; rw [e] at hl; exact h0 hl.symm)).symm
  exact key _ W rfl

theorem wd_dec : ∀ p, 1 ≤ p → p ≤ 32 → (⟨(Lib.decDigits p).toArray⟩ : ByteArray) = wdN p := by
  intro p h1 h2
  unfold wdN
  rw [Lib.decDigits]
  by_cases h : p < 10
  · rw [dif_pos h, if_pos h]
  · rw [dif_neg h, if_neg h, Lib.decDigits, dif_pos (by omega)]; rfl

end Go.Proofs.YtnbaangnpoblfaaDoor
