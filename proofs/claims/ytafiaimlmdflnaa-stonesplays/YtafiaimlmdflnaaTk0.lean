/-
  Which stones are taken away, and the board behind it. No conditions beyond those that each theorem bears.
-/
import Derived.Test.YtafiaimlmdflnaaRg
import Derived.Test.YtafiaimlmdflnaaLb
namespace Go.Proofs.Ytafiaimlmdflnaa

/-- Such places are emptied. -/
def clr (Z : List Int) (S : List Nat) : List Int := S.foldl (fun z q => z.set q 0) Z

theorem clr_snoc (Z : List Int) (S : List Nat) (q : Nat) : clr Z (S ++ [q]) = (clr Z S).set q 0 := by simp [clr, List.foldl_append]
theorem clr_append (Z : List Int) (S T : List Nat) : clr Z (S ++ T) = clr (clr Z S) T := by simp [clr, List.foldl_append]
theorem clr_len (Z : List Int) (S : List Nat) : (clr Z S).length = Z.length := by
  induction S generalizing Z with
  | nil => rfl
  | cons q S ih => show (clr (Z.set q 0) S).length = _; rw [ih]; simp
theorem set_getD (Z : List Int) (q r : Nat) (x : Int) : (Z.set q x).getD r 0 = if q = r ∧ q < Z.length then x else Z.getD r 0 := by
  simp only [List.getD, List.getElem?_set]
  by_cases h : q = r
  · subst h
    by_cases h2 : q < Z.length
    · simp [h2]
    · simp [h2]
  · simp [h]
theorem clr_getD (Z : List Int) (S : List Nat) (r : Nat) (h : ∀ q ∈ S, q < Z.length) : (clr Z S).getD r 0 = if r ∈ S then 0 else Z.getD r 0 := by
  induction S generalizing Z with
  | nil => simp [clr]
  | cons q S ih =>
    show (clr (Z.set q 0) S).getD r 0 = _
    rw [ih (Z.set q 0) (fun q' hq' => by rw [List.length_set]; exact h q' (List.mem_cons_of_mem _ hq')), set_getD]
    have hq := h q (by simp)
    by_cases h1 : r ∈ S
    · simp [h1]
    · by_cases h2 : q = r
      · subst h2; simp [hq]
      · have : r ≠ q := fun e => h2 e.symm
        simp [h1, h2, this]

section
variable {N : Nat} {nb : Nat → List Nat} {m : Nat → Prop}
theorem flat_nodup (hs : ∀ p q, p < N → q ∈ nb p → p ∈ nb q) (j : Nat) : (rgsU N nb m j).flatten.Nodup := by
  induction j with
  | zero => rw [rgsU_zero]; simp
  | succ j ih =>
    by_cases hl : ldr N nb m j
    · rw [rgsU_yes hl, List.flatten_append, List.nodup_append]
      refine ⟨ih, ?_, ?_⟩
      · simp only [List.flatten_cons, List.flatten_nil, List.append_nil]
        exact pls_nodup _ _
      · intro a ha b hb e
        subst e
        simp only [List.flatten_cons, List.flatten_nil, List.append_nil] at hb
        obtain ⟨p, h1, h2, h3⟩ := mem_flat.1 ha
        have := hl.2 p ((mem_spr.1 hb).trans (h3.symm hs))
        omega
    · rw [rgsU_no hl]; exact ih

theorem flat_pre {s t : List (List Nat)} (h : s <+: t) : s.flatten <+: t.flatten := by
  obtain ⟨u, rfl⟩ := h
  rw [List.flatten_append]
  exact List.prefix_append _ _

theorem pre_disj (hs : ∀ p q, p < N → q ∈ nb p → p ∈ nb q) {s : List (List Nat)} {L : List Nat} (h : s ++ [L] <+: rgs N nb m) : ∀ q, q ∈ s.flatten → q ∉ L := by
  have h1 : (s ++ [L]).flatten.Nodup := (flat_pre h).sublist.nodup (flat_nodup hs N)
  rw [List.flatten_append, List.nodup_append] at h1
  intro q hq hL
  exact h1.2.2 q hq q (by simpa using hL) rfl

theorem pre_mem {s : List (List Nat)} (h : s <+: rgs N nb m) {q : Nat} (hq : q ∈ s.flatten) : q < N ∧ m q := by
  obtain ⟨p, _, _, h3⟩ := mem_flat.1 ((flat_pre h).subset hq)
  exact ⟨h3.lt, h3.right⟩

theorem reg_closed {L : List Nat} (h : L ∈ rgs N nb m) {p q : Nat} (hp : p ∈ L) (hq : q ∈ nb p) (hN : q < N) (hm : m q) : q ∈ L := by
  obtain ⟨j, _, _, rfl⟩ := mem_rgsU.1 h
  exact mem_spr.2 (.step (mem_spr.1 hp) hq hN hm)

theorem reg_ne {L : List Nat} (h : L ∈ rgs N nb m) : 0 < L.length ∧ (∀ q ∈ L, q < N ∧ m q) ∧ L.length ≤ N := by
  obtain ⟨j, hj, hl, rfl⟩ := mem_rgsU.1 h
  refine ⟨List.length_pos_of_mem (mem_spr.2 (.refl hj hl.1)), fun q hq => ⟨(mem_spr.1 hq).lt, (mem_spr.1 hq).right⟩, pls_len _ _⟩
end

/-- The stones of groups, of such as are named, that have no liberties. -/
noncomputable def goneU (W H : Nat) (Z : List Int) (s : List (List Nat)) : List Nat := (s.filter fun L => decide ((lib W H Z L).length = 0)).flatten

/-- All stones of a player's groups that have no liberties. -/
noncomputable def gone (W H : Nat) (Z : List Int) (v : Int) : List Nat := goneU W H Z (rgs (W * H) (nb4 W H) fun q => Z.getD q 0 = v)

theorem goneU_nil (W H : Nat) (Z : List Int) : goneU W H Z [] = [] := rfl
theorem goneU_yes {W H : Nat} {Z : List Int} {s : List (List Nat)} {L : List Nat} (h : (lib W H Z L).length = 0) : goneU W H Z (s ++ [L]) = goneU W H Z s ++ L := by
  unfold goneU
  rw [List.filter_append, List.flatten_append]
  have : List.filter (fun L => decide ((lib W H Z L).length = 0)) [L] = [L] := by rw [List.filter_cons, if_pos (by simpa using h)]; rfl
  rw [this]; simp
theorem goneU_no {W H : Nat} {Z : List Int} {s : List (List Nat)} {L : List Nat} (h : ¬ (lib W H Z L).length = 0) : goneU W H Z (s ++ [L]) = goneU W H Z s := by
  unfold goneU
  rw [List.filter_append, List.flatten_append]
  have : List.filter (fun L => decide ((lib W H Z L).length = 0)) [L] = [] := by rw [List.filter_cons, if_neg (by simpa using h)]; rfl
  rw [this]; simp
theorem goneU_sub {W H : Nat} {Z : List Int} {s : List (List Nat)} {q : Nat} (h : q ∈ goneU W H Z s) : q ∈ s.flatten := by
  unfold goneU at h
  obtain ⟨L, h1, h2⟩ := List.mem_flatten.1 h
  exact List.mem_flatten.2 ⟨L, (List.mem_filter.1 h1).1, h2⟩
theorem flat_filter (P : List Nat → Bool) (s : List (List Nat)) : (s.filter P).flatten.Sublist s.flatten := by
  induction s with
  | nil => simp
  | cons L s ih =>
    rw [List.filter_cons, List.flatten_cons]
    split
    · rw [List.flatten_cons]; exact List.Sublist.append (List.Sublist.refl _) ih
    · exact ih.trans (List.sublist_append_right _ _)

theorem goneU_len {W H : Nat} {Z : List Int} {s : List (List Nat)} {v : Int} (h : s <+: rgs (W * H) (nb4 W H) fun q => Z.getD q 0 = v) : (goneU W H Z s).length ≤ W * H := by
  have hnd : (goneU W H Z s).Nodup := by
    have h1 : (goneU W H Z s).Sublist s.flatten := by
      unfold goneU
      exact flat_filter _ s
    exact h1.nodup ((flat_pre h).sublist.nodup (flat_nodup (fun p q hp hq => nb4_symm hp hq) _))
  have := hnd.length_le_of_subset (l₂ := List.range (W * H)) (fun q hq => List.mem_range.2 (pre_mem h (goneU_sub hq)).1)
  simpa using this

/-- Of a group that comes later the liberties are the same. -/
theorem lib_later {W H : Nat} {Z : List Int} {v : Int} {s : List (List Nat)} {L : List Nat} (hZ : Z.length = W * H) (h : s ++ [L] <+: rgs (W * H) (nb4 W H) fun q => Z.getD q 0 = v) : lib W H (clr Z (goneU W H Z s)) L = lib W H Z L := by
  have hpre : s <+: rgs (W * H) (nb4 W H) fun q => Z.getD q 0 = v := (List.prefix_append s [L]).trans h
  have hL : L ∈ rgs (W * H) (nb4 W H) fun q => Z.getD q 0 = v := h.subset (by simp)
  refine pls_congr fun q hq => ?_
  have hg : ∀ p ∈ L, q ∈ nb4 W H p → q ∉ goneU W H Z s := fun p hp hn hgo =>
    pre_disj (fun p q hp hq => nb4_symm hp hq) h q (goneU_sub hgo) (reg_closed hL hp hn hq (pre_mem hpre (goneU_sub hgo)).2)
  rw [clr_getD _ _ _ (fun q hq => by rw [hZ]; exact (pre_mem hpre (goneU_sub hq)).1)]
  constructor
  · rintro ⟨h1, p, hp, hn⟩
    rw [if_neg (hg p hp hn)] at h1
    exact ⟨h1, p, hp, hn⟩
  · rintro ⟨h1, p, hp, hn⟩
    rw [if_neg (hg p hp hn)]
    exact ⟨h1, p, hp, hn⟩

end Go.Proofs.Ytafiaimlmdflnaa
