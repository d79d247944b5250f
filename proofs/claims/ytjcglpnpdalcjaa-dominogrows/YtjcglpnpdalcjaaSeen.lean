/-
  Which numbers are come to in ten rounds; a row of all pieces is laid just if one comes to all; a row can be laid again. No conditions beyond those that each theorem bears.
-/
import Derived.Test.YtjcglpnpdalcjaaEul2
namespace Go.Proofs.Ytjcglpnpdalcjaa
open Go.RowKit
attribute [local irreducible] hz hzL

/-- A piece that has an end that is come to brings both. -/
def stp (S : List Bool) (p : Pc) : List Bool := if (S.getD p.1.toNat false || S.getD p.2.toNat false) = true then (S.set p.1.toNat true).set p.2.toNat true else S
def rnd (S : List Bool) (ps : List Pc) : List Bool := ps.foldl stp S
def rnds (S : List Bool) (ps : List Pc) : Nat → List Bool
  | 0 => S
  | r + 1 => rnd (rnds S ps r) ps
def sn0 (ps : List Pc) : List Bool := if ps.length = 0 then List.replicate 10 false else (List.replicate 10 false).set (ps.getD 0 (0, 0)).1.toNat true
def seenL (ps : List Pc) : List Bool := rnds (sn0 ps) ps 10

theorem setB (S : List Bool) (i j : Nat) : (S.set i true).getD j false = if j = i ∧ i < S.length then true else S.getD j false := by
  simp only [List.getD, List.getElem?_set]
  by_cases h : i = j
  · subst h
    by_cases h2 : i < S.length
    · simp [h2]
    · simp [h2]
  · rw [if_neg h, if_neg (fun e => h e.1.symm)]

/-- Not fewer. -/
def LeB (S T : List Bool) : Prop := S.length = T.length ∧ ∀ u, S.getD u false = true → T.getD u false = true

theorem LeB.refl (S : List Bool) : LeB S S := ⟨rfl, fun _ h => h⟩
theorem LeB.trans {A B C : List Bool} (h : LeB A B) (k : LeB B C) : LeB A C := ⟨h.1.trans k.1, fun u hu => k.2 u (h.2 u hu)⟩

theorem LeB.anti {A B : List Bool} (h : LeB A B) (k : LeB B A) : A = B := by
  apply List.ext_getElem h.1
  intro i h1 h2
  have e1 := h.2 i
  have e2 := k.2 i
  simp only [List.getD, List.getElem?_eq_getElem h1, List.getElem?_eq_getElem h2, Option.getD_some] at e1 e2
  cases hA : A[i] <;> cases hB : B[i] <;> simp_all

theorem LeB.count {A B : List Bool} (h : LeB A B) : A.count true ≤ B.count true ∧ (A.count true = B.count true → A = B) := by
  obtain ⟨hl, hu⟩ := h
  induction A generalizing B with
  | nil => cases B with
    | nil => exact ⟨Nat.le_refl _, fun _ => rfl⟩
    | cons b B => simp at hl
  | cons a A ih => cases B with
    | nil => simp at hl
    | cons b B =>
      obtain ⟨h1, h2⟩ := ih (B := B) (by simpa using hl) (fun u hx => by have := hu (u + 1); simpa [List.getD] using this (by simpa [List.getD] using hx))
      have h0 := hu 0
      cases a <;> cases b <;> simp [List.getD] at h0 ⊢
      · exact ⟨h1, h2⟩
      · exact ⟨by omega, fun e => by omega⟩
      · exact ⟨h1, h2⟩

theorem stp_le (S : List Bool) (p : Pc) : LeB S (stp S p) := by
  unfold stp
  split
  · refine ⟨by simp, fun u hu => ?_⟩
    rw [setB, setB]
    split
    · rfl
    · split
      · rfl
      · exact hu
  · exact LeB.refl S

theorem rnd_le (S : List Bool) (ps : List Pc) : LeB S (rnd S ps) := by
  induction ps generalizing S with
  | nil => exact LeB.refl S
  | cons p ps ih => exact (stp_le S p).trans (ih (stp S p))

theorem rnds_le (S : List Bool) (ps : List Pc) (r : Nat) : LeB S (rnds S ps r) := by
  induction r with
  | zero => exact LeB.refl S
  | succ r ih => exact ih.trans (rnd_le _ ps)

theorem rnd_fix (S : List Bool) (ps : List Pc) (h : rnd S ps = S) : ∀ p ∈ ps, stp S p = S := by
  induction ps with
  | nil => intro p hp; simp at hp
  | cons q ps ih =>
    have h1 : rnd (stp S q) ps = S := h
    have h2 : stp S q = S := by
      have h3 := rnd_le (stp S q) ps
      rw [h1] at h3
      exact h3.anti (stp_le S q)
    rw [h2] at h1
    intro p hp
    rcases List.mem_cons.1 hp with hp | hp
    · rw [hp]; exact h2
    · exact ih h1 p hp

theorem rnds_grow (S : List Bool) (ps : List Pc) (r : Nat) : rnd (rnds S ps r) ps = rnds S ps r ∨ S.count true + r ≤ (rnds S ps r).count true := by
  induction r with
  | zero => exact Or.inr (Nat.le_refl _)
  | succ r ih =>
    rcases ih with h | h
    · left
      show rnd (rnd (rnds S ps r) ps) ps = rnd (rnds S ps r) ps
      rw [h, h]
    · by_cases e : rnd (rnds S ps r) ps = rnds S ps r
      · left
        show rnd (rnd (rnds S ps r) ps) ps = rnd (rnds S ps r) ps
        rw [e, e]
      · right
        obtain ⟨h1, h2⟩ := (rnd_le (rnds S ps r) ps).count
        have h3 : ¬ (rnds S ps r).count true = (rnd (rnds S ps r) ps).count true := fun h => e (h2 h).symm
        show _ ≤ (rnd (rnds S ps r) ps).count true
        omega

theorem sn0_len (ps : List Pc) : (sn0 ps).length = 10 := by unfold sn0; split <;> simp

theorem seen_len (ps : List Pc) : (seenL ps).length = 10 := (rnds_le (sn0 ps) ps 10).1.symm.trans (sn0_len ps)

theorem seen_start (ps : List Pc) (h0 : 0 < ps.length) (s : Nat) (hs : s < 10) (he : (ps.getD 0 (0, 0)).1 = (s : Int)) : (sn0 ps).getD s false = true := by
  unfold sn0
  rw [if_neg (by omega), he, Int.toNat_natCast, setB, if_pos ⟨rfl, by simpa using hs⟩]

theorem count_pos_of {S : List Bool} {u : Nat} (h : S.getD u false = true) : 0 < S.count true := by
  rw [List.count_pos_iff]
  by_cases hu : u < S.length
  · simp only [List.getD, List.getElem?_eq_getElem hu, Option.getD_some] at h
    rw [← h]; exact List.getElem_mem hu
  · simp [List.getD, List.getElem?_eq_none (Nat.le_of_not_lt hu)] at h

theorem start_nat (ps : List Pc) (h : pcsB ps = true) (h0 : 0 < ps.length) : ∃ s : Nat, s < 10 ∧ (ps.getD 0 (0, 0)).1 = (s : Int) := by
  obtain ⟨X, Y, e, hX, _⟩ := pcs_nat h h0
  exact ⟨X, hX, by rw [e]⟩

theorem seen_fix (ps : List Pc) (h : pcsB ps = true) : rnd (seenL ps) ps = seenL ps := by
  by_cases h0 : 0 < ps.length
  · rcases rnds_grow (sn0 ps) ps 10 with h1 | h1
    · exact h1
    · obtain ⟨s, hs, he⟩ := start_nat ps h h0
      have h2 := count_pos_of (seen_start ps h0 s hs he)
      have h3 : (rnds (sn0 ps) ps 10).count true ≤ (rnds (sn0 ps) ps 10).length := List.count_le_length
      have h4 : (rnds (sn0 ps) ps 10).length = 10 := seen_len ps
      omega
  · have : ps = [] := List.eq_nil_of_length_eq_zero (by omega)
    rw [this]; rfl

/-- Come to. -/
def Sn (ps : List Pc) (u : Nat) : Prop := (seenL ps).getD u false = true

theorem seen_cl (ps : List Pc) (h : pcsB ps = true) : Cl (Sn ps) ps := by
  intro p hp a b e
  have h1 := rnd_fix _ ps (seen_fix ps h) p hp
  obtain ⟨X, Y, e2, hX, hY⟩ := pc_nat (List.all_eq_true.1 h p hp)
  rw [e] at e2
  simp only [Prod.mk.injEq] at e2
  obtain rfl : a = X := by omega
  obtain rfl : b = Y := by omega
  rw [e] at h1
  unfold stp at h1
  simp only [Int.toNat_natCast] at h1
  have hl := seen_len ps
  unfold Sn
  constructor
  · intro ha
    rw [if_pos (by rw [ha]; rfl)] at h1
    rw [← h1, setB, if_pos ⟨rfl, by rw [List.length_set, hl]; exact hY⟩]
  · intro hb
    rw [if_pos (by rw [hb, Bool.or_true])] at h1
    rw [← h1, setB, setB]
    split
    · rfl
    · rw [if_pos ⟨rfl, by rw [hl]; exact hX⟩]

theorem stp_sub {Z : Nat → Prop} {S : List Bool} {ps : List Pc} (hc : Cl Z ps) (hB : pcsB ps = true) (p : Pc) (hp : p ∈ ps) (hs : ∀ u, S.getD u false = true → Z u) : ∀ u, (stp S p).getD u false = true → Z u := by
  intro u hu
  obtain ⟨X, Y, e, hX, hY⟩ := pc_nat (List.all_eq_true.1 hB p hp)
  have h1 := hc p hp X Y e
  unfold stp at hu
  rw [e] at hu
  simp only [Int.toNat_natCast] at hu
  split at hu
  · rename_i hor
    have hxy : Z X ∧ Z Y := by
      rw [Bool.or_eq_true] at hor
      rcases hor with hor | hor
      · exact ⟨hs X hor, h1.1 (hs X hor)⟩
      · exact ⟨h1.2 (hs Y hor), hs Y hor⟩
    rw [setB] at hu
    split at hu
    · rename_i h2; rw [h2.1]; exact hxy.2
    · rw [setB] at hu
      split at hu
      · rename_i h2; rw [h2.1]; exact hxy.1
      · exact hs u hu
  · exact hs u hu

theorem rnd_sub {Z : Nat → Prop} {S : List Bool} {ps : List Pc} (hc : Cl Z ps) (hB : pcsB ps = true) (hs : ∀ u, S.getD u false = true → Z u) : ∀ qs : List Pc, (∀ q ∈ qs, q ∈ ps) → ∀ u, (qs.foldl stp S).getD u false = true → Z u := by
  intro qs
  induction qs generalizing S with
  | nil => intro _ u hu; exact hs u hu
  | cons q qs ih => intro hq; exact ih (stp_sub hc hB q (hq q (by simp)) hs) (fun x hx => hq x (by simp [hx]))

theorem seen_sub {Z : Nat → Prop} {ps : List Pc} (hc : Cl Z ps) (hB : pcsB ps = true) (h0 : ∀ u, (sn0 ps).getD u false = true → Z u) : ∀ u, Sn ps u → Z u := by
  have : ∀ r u, (rnds (sn0 ps) ps r).getD u false = true → Z u := by
    intro r
    induction r with
    | zero => exact h0
    | succ r ih => exact rnd_sub hc hB ih ps (fun q hq => hq)
  exact this 10

theorem sn0_only (ps : List Pc) (s : Nat) (he : (ps.getD 0 (0, 0)).1 = (s : Int)) (u : Nat) (hu : (sn0 ps).getD u false = true) : u = s := by
  unfold sn0 at hu
  have hz : ∀ u, (List.replicate 10 false).getD u false = false := fun u => by simp only [List.getD, List.getElem?_replicate]; split <;> rfl
  split at hu
  · rw [hz] at hu; cases hu
  · rw [he, Int.toNat_natCast, setB] at hu
    split at hu
    · rename_i h; exact h.1
    · rw [hz] at hu; cases hu

/-- All pieces begin where one comes to. -/
def allSn (ps : List Pc) : Bool := ps.all (fun p => (seenL ps).getD p.1.toNat false)

theorem allSn_iff (ps : List Pc) (hB : pcsB ps = true) : allSn ps = true ↔ ∀ p ∈ ps, ∀ a b : Nat, p = ((a : Int), (b : Int)) → Sn ps a := by
  unfold allSn
  rw [List.all_eq_true]
  constructor
  · intro h p hp a b e
    have := h p hp
    rw [e, Int.toNat_natCast] at this
    exact this
  · intro h p hp
    obtain ⟨X, Y, e, hX, hY⟩ := pc_nat (List.all_eq_true.1 hB p hp)
    rw [e, Int.toNat_natCast]
    exact h p hp X Y e

theorem laid_all (ps : List Pc) (hB : pcsB ps = true) (ho : (begF ps).2 ≤ 2) : (laid ps).length = ps.length ↔ allSn ps = true := by
  obtain ⟨v, t, L, hv, hvb, hT, hP, hLv, htch, hokL⟩ := laid_fin ps hB ho
  have hlen := hP.length_eq
  rw [List.length_append, List.length_map, List.length_map] at hlen
  by_cases h0 : 0 < ps.length
  · obtain ⟨s, hs, he⟩ := start_nat ps hB h0
    have hst : Sn ps s := (rnds_le (sn0 ps) ps 10).2 s (seen_start ps h0 s hs he)
    rw [allSn_iff ps hB]
    constructor
    · intro hl
      have hLn : L = [] := List.eq_nil_of_length_eq_zero (by omega)
      rw [hLn, List.append_nil] at hP
      have hcR : Cl (Sn ps) (laid ps) := by
        intro q hq a b e
        have hm : lf q ∈ ps.map lf := hP.mem_iff.1 (List.mem_map.2 ⟨q, hq, rfl⟩)
        obtain ⟨p, hp, hpe⟩ := List.mem_map.1 hm
        rw [e] at hpe
        have hc := seen_cl ps hB p hp
        rcases lf_eq hpe with h | h
        · exact hc a b h
        · exact (hc b a h).symm
      have hall := tr_all hT hcR
      have hmem : ∀ p ∈ ps, ∀ a b : Nat, p = ((a : Int), (b : Int)) → (Sn ps a ↔ Sn ps v) := by
        intro p hp a b e
        have hm : lf p ∈ (laid ps).map lf := hP.mem_iff.2 (List.mem_map.2 ⟨p, hp, rfl⟩)
        obtain ⟨q, hq, hqe⟩ := List.mem_map.1 hm
        rw [e] at hqe
        rcases lf_eq hqe with h | h
        · exact (hall q hq a b h).1
        · exact (hall q hq b a h).2
      obtain ⟨X, Y, e, hX, hY⟩ := pcs_nat hB h0
      have hp0 : ps.getD 0 (0, 0) ∈ ps := by simp [List.getD, h0]
      have hXs : X = s := by rw [e] at he; simp only at he; omega
      have hsv := (hmem _ hp0 X Y e).1 (by rw [hXs]; exact hst)
      intro p hp a b e
      exact (hmem p hp a b e).2 hsv
    · intro hall
      have hcZ := cl_left hP htch
      have hvs : Sn ps v ∨ v = s := by
        rcases hvb with ⟨_, hvb⟩ | hvb
        · right; rw [he] at hvb; omega
        · left
          obtain ⟨p, hp, a, b, e, hab⟩ := end_of ps hB v hvb
          have h1 := hall p hp a b e
          rcases hab with hab | hab
          · rw [hab]; exact h1
          · rw [hab]; exact (seen_cl ps hB p hp a b e).1 h1
      have hsZ : endN L s = 0 := by
        rcases hvs with hvs | hvs
        · by_cases hn : endN L s = 0
          · exact hn
          · have := seen_sub hcZ.not hB (fun u hu => by rw [sn0_only ps s he u hu]; exact hn) v hvs
            exact absurd hLv this
        · rw [← hvs]; exact hLv
      have hsub := seen_sub hcZ hB (fun u hu => by rw [sn0_only ps s he u hu]; exact hsZ)
      have hLn := left_nil hB hP (fun p hp a b e => hsub a (hall p hp a b e))
      rw [hLn] at hlen
      simpa using hlen
  · have hnil : ps = [] := List.eq_nil_of_length_eq_zero (by omega)
    rw [hnil] at hlen ⊢
    simp only [List.length_nil] at hlen
    exact ⟨fun _ => rfl, fun _ => by simp only [List.length_nil]; omega⟩

theorem tr_of_row (ps : List Pc) (hB : pcsB ps = true) (hr : isR ps = true) : ∀ s : Nat, (ps.length = 0 ∨ (ps.getD 0 (0, 0)).1 = (s : Int)) → ∃ t : Nat, Tr s t ps := by
  induction ps with
  | nil => intro s _; exact ⟨s, rfl⟩
  | cons p ps ih =>
    intro s hs
    obtain ⟨X, Y, e, hX, hY⟩ := pc_nat (List.all_eq_true.1 hB p (by simp))
    have hXs : X = s := by
      rcases hs with hs | hs
      · simp at hs
      · have : p.1 = (s : Int) := by simpa [List.getD] using hs
        rw [e] at this; simp only at this; omega
    have hB' : pcsB ps = true := by unfold pcsB at hB ⊢; rw [List.all_cons, Bool.and_eq_true] at hB; exact hB.2
    have hr' : isR ps = true := by
      cases ps with
      | nil => rfl
      | cons q r => rw [isR, Bool.and_eq_true] at hr; exact hr.2
    obtain ⟨t, ht⟩ := ih hB' hr' Y (by
      cases ps with
      | nil => left; rfl
      | cons q r =>
        right
        rw [isR, Bool.and_eq_true] at hr
        have := hr.1
        rw [e] at this
        simp [List.getD] at this ⊢
        omega)
    exact ⟨t, Y, hY, by rw [e, hXs], ht⟩

def ind (a k : Nat) : Nat := if a < k then 1 else 0
theorem ind_same (k : Nat) : ind k (k + 1) = ind k k + 1 := by unfold ind; rw [if_pos (by omega), if_neg (by omega)]
theorem ind_mono (a k : Nat) : ind a k ≤ ind a (k + 1) := by
  unfold ind
  by_cases h : a < k
  · rw [if_pos h, if_pos (by omega)]; exact Nat.le_refl _
  · rw [if_neg h]; exact Nat.zero_le _
theorem ind_le (a k : Nat) : ind a k ≤ 1 := by unfold ind; split <;> omega

theorem odN_le1 (E : Nat → Nat) (k : Nat) : odN E (k + 1) ≤ odN E k + 1 := by rw [odN]; split <;> omega

theorem odN_two (E : Nat → Nat) (a b : Nat) (h : ∀ u, u < 10 → u ≠ a → u ≠ b → E u % 2 = 0) : odN E 10 ≤ 2 := by
  have h1 : ∀ k, k ≤ 10 → odN E k ≤ ind a k + ind b k := by
    intro k
    induction k with
    | zero => intro _; exact Nat.zero_le _
    | succ k ih =>
      intro hk
      have h2 := ih (by omega)
      have h3 := ind_mono a k
      have h4 := ind_mono b k
      have h5 := odN_le1 E k
      by_cases e1 : k = a
      · subst e1
        have := ind_same k
        omega
      · by_cases e2 : k = b
        · subst e2
          have := ind_same k
          omega
        · rw [odN, if_neg (by have := h k (by omega) e1 e2; omega)]
          omega
  have h2 := h1 10 (Nat.le_refl _)
  have h3 := ind_le a 10
  have h4 := ind_le b 10
  omega

theorem row_again (ps : List Pc) (hB : pcsB ps = true) (hr : isR ps = true) : (begF ps).2 ≤ 2 ∧ (laid ps).length = ps.length := by
  by_cases h0 : 0 < ps.length
  · obtain ⟨s, hs, he⟩ := start_nat ps hB h0
    obtain ⟨t, hT⟩ := tr_of_row ps hB hr s (Or.inr he)
    have ho : (begF ps).2 ≤ 2 := by
      rw [begF, begTo_odd]
      refine odN_two _ s t (fun u hu h1 h2 => ?_)
      rw [hT.par u hu, if_neg h1, if_neg h2]
    refine ⟨ho, ?_⟩
    obtain ⟨v, t', L, hv, hvb, hT', hP, hLv, htch, hokL⟩ := laid_fin ps hB ho
    have hlen := hP.length_eq
    rw [List.length_append, List.length_map, List.length_map] at hlen
    have hcZ := cl_left hP htch
    have hall := tr_all hT hcZ
    have hsZ : endN L s = 0 := by
      rcases hvb with ⟨_, hvb⟩ | hvb
      · have : v = s := by rw [he] at hvb; omega
        rw [← this]; exact hLv
      · obtain ⟨p, hp, a, b, e, hab⟩ := end_of ps hB v hvb
        obtain ⟨h1, h2⟩ := hall p hp a b e
        rcases hab with hab | hab
        · exact h1.1 (by rw [← hab]; exact hLv)
        · exact h2.1 (by rw [← hab]; exact hLv)
    have hLn := left_nil hB hP (fun p hp a b e => (hall p hp a b e).1.2 hsZ)
    rw [hLn] at hlen
    simpa using hlen
  · have hnil : ps = [] := List.eq_nil_of_length_eq_zero (by omega)
    subst hnil
    have ho : (begF []).2 ≤ 2 := by decide
    obtain ⟨v, t', L, hv, hvb, hT', hP, hLv, htch, hokL⟩ := laid_fin [] rfl ho
    have hlen := hP.length_eq
    rw [List.length_append, List.length_map] at hlen
    refine ⟨ho, ?_⟩
    simp only [List.map_nil, List.length_nil] at hlen ⊢
    omega

end Go.Proofs.Ytjcglpnpdalcjaa
