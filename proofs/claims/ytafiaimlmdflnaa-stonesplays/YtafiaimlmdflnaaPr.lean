/-
  Moves played as the document says it. No conditions beyond those that each theorem bears.
-/
import Derived.Test.YtafiaimlmdflnaaBg
import Derived.Test.YtafiaimlmdflnaaSa
import Derived.Test.YtafiaimlmdflnaaPs
namespace Go.Proofs.Ytafiaimlmdflnaa
open Go.RowKit Go.Shelf

/-- Passes just made, of j moves. -/
def qof (L : List Int) (j : Nat) : Nat := if j = 0 then 0 else if L.getD (j - 1) 0 ≠ -1 then 0 else if j = 1 then 1 else if L.getD (j - 2) 0 ≠ -1 then 1 else 2

theorem qof_two {L : List Int} {j : Nat} : qof L j = 2 ↔ 2 ≤ j ∧ L.getD (j - 1) 0 = -1 ∧ L.getD (j - 2) 0 = -1 := by
  unfold qof
  split
  · omega
  · split
    · omega
    · split
      · omega
      · split <;> omega

theorem qof_pass {L : List Int} {j : Nat} (h : L.getD j 0 = -1) (h2 : qof L j ≠ 2) : qof L (j + 1) = qof L j + 1 := by
  have e : qof L (j + 1) = if j = 0 then 1 else if L.getD (j - 1) 0 ≠ -1 then 1 else 2 := by
    unfold qof
    rw [if_neg (by omega), Nat.add_sub_cancel, if_neg (by omega)]
    by_cases h0 : j = 0
    · rw [if_pos (by omega), if_pos h0]
    · rw [if_neg (by omega), if_neg h0, show j + 1 - 2 = j - 1 by omega]
  rw [e]
  by_cases h0 : j = 0
  · rw [if_pos h0]
    unfold qof
    rw [if_pos h0]
  · rw [if_neg h0]
    by_cases h1 : L.getD (j - 1) 0 ≠ -1
    · rw [if_pos h1]
      unfold qof
      rw [if_neg h0, if_pos h1]
    · rw [if_neg h1]
      have : qof L j = 1 := by
        unfold qof at h2 ⊢
        rw [if_neg h0, if_neg h1] at h2 ⊢
        split
        · rfl
        · rename_i hj
          rw [if_neg hj] at h2
          split
          · rfl
          · rename_i h3
            rw [if_neg h3] at h2
            exact absurd rfl h2
      omega

theorem qof_stone {L : List Int} {j : Nat} (h : L.getD j 0 ≠ -1) : qof L (j + 1) = 0 := by
  unfold qof
  rw [if_neg (by omega), Nat.add_sub_cancel, if_pos h]

/-- Whether the document's play stands as this one. -/
structure PR (W H N : Nat) (L : List Int) (j : Nat) (s : PS) (Z : List Int) (t u : Nat) (B : List (List Int)) : Prop where
  m : s.m = j
  Z_ : s.Z = Z
  t_ : s.t = t
  u_ : s.u = u
  q_ : s.q = qof L j
  X_ : ∀ Y, Y.length = N → (pad Y ∈ s.X ↔ Y ∈ B)
  may : mayP W H Z
  tb : t ≤ 100 * j
  ub : u ≤ 100 * j
  bl : B.length ≤ j + 1
  ne : 0 < B.length

theorem PR.over {W H N : Nat} {L : List Int} {j : Nat} {s : PS} {Z : List Int} {t u : Nat} {B : List (List Int)} (h : PR W H N L j s Z t u B) (x : Int) (h2 : qof L j = 2) : mvd W H s x = (s, 9) := by
  unfold mvd
  rw [if_pos (by rw [h.q_]; exact h2)]

theorem PR.pass {W H N : Nat} {L : List Int} {j : Nat} {s : PS} {Z : List Int} {t u : Nat} {B : List (List Int)} (h : PR W H N L j s Z t u B) (hx : L.getD j 0 = -1) (h2 : qof L j ≠ 2) : (mvd W H s (L.getD j 0)).2 = 0 ∧ PR W H N L (j + 1) (mvd W H s (L.getD j 0)).1 Z t u B := by
  unfold mvd
  rw [if_neg (by rw [h.q_]; exact h2), if_pos hx]
  refine ⟨rfl, ⟨by show s.m + 1 = _; rw [h.m], h.Z_, h.t_, h.u_, ?_, h.X_, h.may, ?_, ?_, ?_, h.ne⟩⟩
  · show s.q + 1 = _
    rw [h.q_, qof_pass hx h2]
  · have := h.tb; omega
  · have := h.ub; omega
  · have := h.bl; omega

theorem PR.no {W H N : Nat} {L : List Int} {j : Nat} {s : PS} {Z : List Int} {t u : Nat} {B : List (List Int)} (h : PR W H N L j s Z t u B) (hx : L.getD j 0 ≠ -1) (h2 : qof L j ≠ 2) (he : pE W H Z (1 + j % 2) (L.getD j 0) ≠ 0) : mvd W H s (L.getD j 0) = (s, pE W H Z (1 + j % 2) (L.getD j 0)) := by
  unfold mvd
  rw [if_neg (by rw [h.q_]; exact h2), if_neg hx]
  unfold stn
  rw [h.m, h.Z_, if_neg he]

theorem PR.old {W H N : Nat} {L : List Int} {j : Nat} {s : PS} {Z : List Int} {t u : Nat} {B : List (List Int)} (h : PR W H N L j s Z t u B) (hN : W * H = N) (hx : L.getD j 0 ≠ -1) (h2 : qof L j ≠ 2) (he : pE W H Z (1 + j % 2) (L.getD j 0) = 0) (hl : Z.length = N) (hB : pz W H Z (1 + j % 2) (L.getD j 0).toNat ∈ B) : mvd W H s (L.getD j 0) = (s, 8) := by
  unfold mvd
  rw [if_neg (by rw [h.q_]; exact h2), if_neg hx]
  unfold stn
  rw [h.m, h.Z_, if_pos he, if_pos ((h.X_ _ (by rw [pz_len (by rw [hl, hN]), hN])).2 hB)]

theorem PR.new {W H N : Nat} {L : List Int} {j : Nat} {s : PS} {Z : List Int} {t u : Nat} {B : List (List Int)} (h : PR W H N L j s Z t u B) (hN : W * H = N) (hx : L.getD j 0 ≠ -1) (h2 : qof L j ≠ 2) (he : pE W H Z (1 + j % 2) (L.getD j 0) = 0) (hl : Z.length = N) (hk : pt W H Z (1 + j % 2) (L.getD j 0).toNat ≤ 100) (hB : ¬ pz W H Z (1 + j % 2) (L.getD j 0).toNat ∈ B) :
    (mvd W H s (L.getD j 0)).2 = 0 ∧ PR W H N L (j + 1) (mvd W H s (L.getD j 0)).1 (pz W H Z (1 + j % 2) (L.getD j 0).toNat) (if j % 2 = 0 then t + pt W H Z (1 + j % 2) (L.getD j 0).toNat else t) (if j % 2 = 0 then u else u + pt W H Z (1 + j % 2) (L.getD j 0).toNat) (B ++ [pz W H Z (1 + j % 2) (L.getD j 0).toNat]) := by
  have hpl := pz_len (W := W) (H := H) (Z := Z) (m := 1 + j % 2) (p := (L.getD j 0).toNat) (by rw [hl, hN])
  unfold mvd
  rw [if_neg (by rw [h.q_]; exact h2), if_neg hx]
  unfold stn
  rw [h.m, h.Z_, if_pos he, if_neg (fun hX => hB ((h.X_ _ (by rw [hpl, hN])).1 hX)), h.t_, h.u_]
  have tb := h.tb
  have ub := h.ub
  have bl := h.bl
  refine ⟨rfl, ⟨rfl, rfl, rfl, rfl, (qof_stone hx).symm, fun Y hY => ?_, pz_may rfl rfl h.may (by omega), ?_, ?_, ?_, by simp⟩⟩
  · rw [List.mem_cons, List.mem_append, List.mem_singleton, ← h.X_ Y hY]
    constructor
    · rintro (e | e)
      · exact .inr (pad_inj (by rw [hY, hpl, hN]) e)
      · exact .inl e
    · rintro (e | e)
      · exact .inr e
      · exact .inl (by rw [e])
  · split <;> omega
  · split <;> omega
  · rw [List.length_append, List.length_singleton]
    omega

theorem PR.first {W H N : Nat} {L : List Int} {Z : List Int} (hl : Z.length = N) (hm : mayP W H Z) : PR W H N L 0 (ps0 Z) Z 0 0 [Z] := by
  refine ⟨rfl, rfl, rfl, rfl, rfl, fun Y hY => ?_, hm, Nat.zero_le _, Nat.zero_le _, by simp, by simp⟩
  show pad Y ∈ [pad Z] ↔ _
  rw [List.mem_singleton, List.mem_singleton]
  exact ⟨fun e => pad_inj (by rw [hY, hl]) e, fun e => by rw [e]⟩

end Go.Proofs.Ytafiaimlmdflnaa
