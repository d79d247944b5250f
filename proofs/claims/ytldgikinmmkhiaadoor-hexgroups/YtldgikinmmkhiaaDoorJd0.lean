/-
  Who has joined its sides, and where: the places of all groups that come from side to side. No conditions beyond those that each theorem bears.
-/
import Derived.Test.YtldgikinmmkhiaaDoorGr
namespace Go.Proofs.YtldgikinmmkhiaaDoor

/-- The place belongs to a group of the player's that comes from side to side. -/
def jnP (n : Nat) (Z : List Int) (m p : Nat) : Prop := sg Z m p ∧ (∃ q, Wk n (sg Z m) p q ∧ ln n m q = 0) ∧ ∃ q, Wk n (sg Z m) p q ∧ ln n m q + 1 = n

/-- The places of the groups that come from side to side. -/
def fl (n m : Nat) (L : List (List Nat)) : List Nat := (L.filter (jnB n m)).flatten

theorem fl_snoc (n m : Nat) (L : List (List Nat)) (x : List Nat) : fl n m (L ++ [x]) = fl n m L ++ (if jnB n m x then x else []) := by
  unfold fl
  rw [List.filter_append, List.flatten_append]
  cases h : jnB n m x <;> simp [h]

theorem jnB_iff {n m : Nat} {L : List Nat} : jnB n m L = true ↔ (∃ q ∈ L, ln n m q = 0) ∧ ∃ q ∈ L, ln n m q + 1 = n := by
  unfold jnB jnA jnZ
  rw [Bool.and_eq_true, List.any_eq_true, List.any_eq_true]
  simp

theorem mem_grps {n : Nat} {Z : List Int} {m : Int} {x : List Nat} : x ∈ grps n Z m ↔ ∃ p, p < n * n ∧ ldr n Z m p ∧ grp n Z p = x := by
  unfold grps grpsU
  rw [List.mem_map]
  constructor
  · rintro ⟨p, hp, e⟩
    rw [List.mem_filter, List.mem_range] at hp
    exact ⟨p, hp.1, by simpa using hp.2, e⟩
  · rintro ⟨p, h1, h2, e⟩
    refine ⟨p, ?_, e⟩
    rw [List.mem_filter, List.mem_range]
    exact ⟨h1, by simpa using h2⟩

theorem grps_lt {n : Nat} {Z : List Int} {m : Int} {x : List Nat} (h : x ∈ grps n Z m) : (∀ q ∈ x, q < n * n) ∧ x.length ≤ n * n ∧ x ≠ [] := by
  obtain ⟨p, h1, h2, rfl⟩ := mem_grps.1 h
  refine ⟨fun q hq => (mem_grp.1 hq).lt, ?_, fun e => ?_⟩
  · unfold grp; exact pls_len _ _
  · have : p ∈ grp n Z p := mem_grp.2 (.refl h1 rfl)
    rw [e] at this
    cases this

theorem ldr_grp {n : Nat} {Z : List Int} {m : Int} {p q : Nat} (h : ldr n Z m p) : q ∈ grp n Z p ↔ Wk n (sg Z m) p q := by
  have e : Z.getD p 0 = m := h.1
  rw [mem_grp, e]

theorem ldr_at {n : Nat} {Z : List Int} {m : Int} {q : Nat} (hq : q < n * n) (hs : sg Z m q) : ∃ p, p < n * n ∧ ldr n Z m p ∧ Wk n (sg Z m) p q := by
  obtain ⟨p, hp, hmin⟩ := least_at ⟨q, (Wk.refl hq hs : Wk n (sg Z m) q q)⟩
  exact ⟨p, hp.lt, ⟨hp.right, fun r hr => hmin r (hp.trans hr)⟩, hp.symm⟩

theorem fl_mem {n m : Nat} {Z : List Int} {q : Nat} : q ∈ fl n m (grps n Z m) ↔ q < n * n ∧ jnP n Z m q := by
  unfold fl
  rw [List.mem_flatten]
  constructor
  · rintro ⟨x, hx, hq⟩
    rw [List.mem_filter] at hx
    obtain ⟨p, h1, h2, rfl⟩ := mem_grps.1 hx.1
    obtain ⟨⟨r1, k1, k2⟩, r2, k3, k4⟩ := jnB_iff.1 hx.2
    rw [ldr_grp h2] at hq k1 k3
    exact ⟨hq.lt, hq.right, ⟨r1, hq.symm.trans k1, k2⟩, r2, hq.symm.trans k3, k4⟩
  · rintro ⟨hq, hs, ⟨r1, k1, k2⟩, r2, k3, k4⟩
    obtain ⟨p, h1, h2, h3⟩ := ldr_at hq hs
    refine ⟨grp n Z p, List.mem_filter.2 ⟨mem_grps.2 ⟨p, h1, h2, rfl⟩, jnB_iff.2 ⟨⟨r1, (ldr_grp h2).2 (h3.trans k1), k2⟩, r2, (ldr_grp h2).2 (h3.trans k3), k4⟩⟩, (ldr_grp h2).2 h3⟩

theorem fl_nodup (n m : Nat) (Z : List Int) : (fl n m (grps n Z m)).Nodup := by
  unfold fl List.Nodup
  rw [List.pairwise_flatten]
  constructor
  · intro x hx
    obtain ⟨p, _, _, rfl⟩ := mem_grps.1 (List.mem_filter.1 hx).1
    exact pls_nodup _ _
  · refine List.Pairwise.sublist List.filter_sublist ?_
    unfold grps grpsU
    rw [List.pairwise_map]
    have h0 : ((List.range (n * n)).filter fun p => @decide (ldr n Z m p) (Classical.propDecidable _)).Pairwise (· < ·) := List.Pairwise.sublist List.filter_sublist List.pairwise_lt_range
    refine List.Pairwise.imp_of_mem ?_ h0
    intro p q hp hq hlt x hx y hy e
    subst e
    rw [List.mem_filter] at hp hq
    have lp : ldr n Z m p := by simpa using hp.2
    have lq : ldr n Z m q := by simpa using hq.2
    rw [ldr_grp lp] at hx
    rw [ldr_grp lq] at hy
    have := lq.2 p (hy.trans hx.symm)
    omega

theorem fl_sorted (n m : Nat) (Z : List Int) : (toI (fl n m (grps n Z m))).mergeSort (fun x y => decide (x ≤ y)) = toI (pls n (jnP n Z m)) := sort_pls (fl_nodup n m Z) (fun _ => fl_mem)

theorem fl_length (n m : Nat) (Z : List Int) : (pls n (jnP n Z m)).length = (fl n m (grps n Z m)).length := by
  have := congrArg List.length (fl_sorted n m Z)
  rw [List.length_mergeSort, toI_len, toI_len] at this
  exact this.symm

theorem fl_len {n m : Nat} {Z : List Int} {L : List (List Nat)} (h : L <+: grps n Z m) : (fl n m L).length ≤ n * n := by
  refine Nat.le_trans ?_ (show (fl n m (grps n Z m)).length ≤ n * n by rw [← fl_length]; exact pls_len _ _)
  unfold fl
  obtain ⟨t, ht⟩ := h
  rw [← ht, List.filter_append, List.flatten_append, List.length_append]
  omega

open Classical in
/-- Who has joined its sides. -/
noncomputable def jw (n : Nat) (Z : List Int) : Nat := if pls n (jnP n Z 1) ≠ [] then 1 else if pls n (jnP n Z 2) ≠ [] then 2 else 0
open Classical in
/-- Where. -/
noncomputable def jl (n : Nat) (Z : List Int) : List Nat := if pls n (jnP n Z 1) ≠ [] then pls n (jnP n Z 1) else pls n (jnP n Z 2)

theorem jw_first {n : Nat} {Z : List Int} (h : pls n (jnP n Z 1) ≠ []) : jw n Z = 1 ∧ jl n Z = pls n (jnP n Z 1) := by
  unfold jw jl; rw [if_pos h, if_pos h]; exact ⟨rfl, rfl⟩
theorem jw_second {n : Nat} {Z : List Int} (h1 : pls n (jnP n Z 1) = []) (h : pls n (jnP n Z 2) ≠ []) : jw n Z = 2 ∧ jl n Z = pls n (jnP n Z 2) := by
  unfold jw jl; rw [if_neg (fun e => e h1), if_pos h, if_neg (fun e => e h1)]; exact ⟨rfl, rfl⟩
theorem jw_none {n : Nat} {Z : List Int} (h1 : pls n (jnP n Z 1) = []) (h : pls n (jnP n Z 2) = []) : jw n Z = 0 ∧ jl n Z = [] := by
  unfold jw jl; rw [if_neg (fun e => e h1), if_neg (fun e => e h), if_neg (fun e => e h1)]; exact ⟨rfl, h⟩

/-- The player has joined its sides. -/
def hasJ (n : Nat) (Z : List Int) (m : Nat) : Prop := Jp n m (sg Z m)

theorem hasJ_iff {n : Nat} {Z : List Int} {m : Nat} : pls n (jnP n Z m) ≠ [] ↔ hasJ n Z m := by
  constructor
  · intro h
    obtain ⟨p, hp⟩ := List.exists_mem_of_ne_nil _ h
    obtain ⟨_, _, ⟨q, h1, h2⟩, r, h3, h4⟩ := mem_pls.1 hp
    exact ⟨q, r, h2, h4, h1.symm.trans h3⟩
  · rintro ⟨q, r, h1, h2, h3⟩ e
    have : q ∈ pls n (jnP n Z m) := mem_pls.2 ⟨h3.left.1, h3.left.2, ⟨q, .refl h3.left.1 h3.left.2, h1⟩, r, h3, h2⟩
    rw [e] at this
    cases this

/-- A way from side to side has a place in each line. -/
theorem jl_long {n : Nat} {Z : List Int} {m : Nat} (h : hasJ n Z m) : n ≤ (pls n (jnP n Z m)).length := by
  obtain ⟨a, b, h1, h2, h3⟩ := h
  have key : ∀ q, Wk n (sg Z m) a q → ∀ k, k ≤ ln n m q → ∃ r, Wk n (sg Z m) a r ∧ ln n m r = k := by
    intro q hq
    induction hq with
    | refl ha hs => intro k hk; exact ⟨a, .refl ha hs, by omega⟩
    | @step p q hp hn' hs ih =>
      intro k hk
      have hadj := (nbs_iff.1 hn').2
      have : ln n m q ≤ ln n m p + 1 := by
        unfold ln
        unfold adj at hadj
        split <;> omega
      by_cases e : k = ln n m q
      · exact ⟨q, .step hp hn' hs, e.symm⟩
      · exact ih k (by omega)
  have hex : ∀ k, k < n → ∃ r, r ∈ pls n (jnP n Z m) ∧ ln n m r = k := by
    intro k hk
    obtain ⟨r, hr, e⟩ := key b h3 k (by omega)
    exact ⟨r, mem_pls.2 ⟨hr.lt, hr.right, ⟨a, hr.symm, h1⟩, b, hr.symm.trans h3, h2⟩, e⟩
  have hsub : List.range n ⊆ (pls n (jnP n Z m)).map (ln n m) := fun k hk => by
    obtain ⟨r, hr, e⟩ := hex k (List.mem_range.1 hk)
    exact List.mem_map.2 ⟨r, hr, e⟩
  have := List.nodup_range.length_le_of_subset hsub
  simpa using this

end Go.Proofs.YtldgikinmmkhiaaDoor
