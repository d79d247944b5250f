/-
  What package deck's Cut answers: for every slice of ints that can be read, and every n. No conditions beyond those that each theorem bears.
-/
import Derived.Test.YtdipbbcggccgcaaRiff
namespace Go.Proofs.Ytdipbbcggccgcaa
open Go.RowKit

set_option maxHeartbeats 400000 in
theorem Cut_big (a : Option Addr) (n c : Nat) (k : Int) (w : World) (hn : 104 < n) :
    Calls Try.prog 15 #[.slice a n c, .int .i64 k] w fun e w' => e = .returned (.tuple #[.slice none 0 0, .int .i64 2]) ∧ w' = w := by
  go_enter Try.func15, Try.ntmps15
  go_wp2
  go_ret2
  exact ⟨rfl, rfl⟩

set_option maxHeartbeats 400000 in
theorem Cut_no (a : Option Addr) (n c : Nat) (k : Int) (w : World) (hn : n ≤ 104) (hk : k < 0 ∨ (n : Int) < k) :
    Calls Try.prog 15 #[.slice a n c, .int .i64 k] w fun e w' => e = .returned (.tuple #[.slice none 0 0, .int .i64 3]) ∧ w' = w := by
  rcases hk with hk | hk
  · go_enter Try.func15, Try.ntmps15
    go_wp2
    go_ret2
    exact ⟨rfl, rfl⟩
  · have hk' : ¬ k < 0 := by omega
    go_enter Try.func15, Try.ntmps15
    go_wp2
    go_ret2
    exact ⟨rfl, rfl⟩

theorem cells_grown {w w' : World} {b off n : Nat} {zs : List Int} {row : Option Nat} (hc : ∀ i, i < n → w.cell? ⟨b, off + i, none⟩ = some (.int .i64 (zs.getD i 0))) (hg : w.grownBy w' row) (hne : some b ≠ row) :
    ∀ i, i < n → w'.cell? ⟨b, off + i, none⟩ = some (.int .i64 (zs.getD i 0)) := fun i hi => hg.cell (hc i hi) hne

/-- The cells of 'a[:k]'. -/
theorem cells_upto {w : World} {b o l k : Nat} {A : List Int} (hA : A.length = l) (hcell : ∀ t, t < l → w.cell? ⟨b, o + t, none⟩ = some (.int .i64 (A.getD t 0)))
    {ao : Option Addr} (hao : 0 < k → 0 < l → ao = some ⟨b, o, none⟩) : ∀ ad, ao = some ad → ∀ t u, ((A.take k).map (Value.int .i64))[t]? = some u → w.cell? (ad.add t) = some u := by
  intro ad had t u hu
  have ht : t < k ∧ t < l := by
    have := (List.getElem?_eq_some_iff.1 hu).1
    simp [hA] at this
    omega
  rw [hao (by omega) (by omega)] at had
  obtain rfl := Option.some.inj had
  rw [Addr.add_lit, hcell t ht.2]
  have e : ((A.take k).map (Value.int .i64))[t]? = some (.int .i64 (A.getD t 0)) := by
    simp [List.getD, ht.1, show t < A.length by omega]
  rw [e] at hu
  exact hu

set_option maxHeartbeats 400000 in
theorem Cut_yes (a : Option Addr) (n c : Nat) (zs : List Int) (k : Nat) (w : World) (h : Rd w a n c zs) (hn : n ≤ 104) (hk : k ≤ n) :
    Calls Try.prog 15 #[.slice a n c, .int .i64 k] w fun e w' => ∃ a' c', e = .returned (.tuple #[.slice a' n c', .int .i64 0]) ∧ Rd w' a' n c' (zs.drop k ++ zs.take k) ∧ Below w.heap.size w w' := by
  obtain ⟨i0, hi, hz0, hz1, hz2⟩ := info_parts Try.info3
  have hmm : n ≤ maxLen := by unfold maxLen; omega
  have hby : i0.bytes * n ≤ 281474976710656 := by rw [hz2]; omega
  have hcm := h.max
  have hcn := h.cap
  unfold maxLen at hcm
  have hl1 : ((zs.drop k).map (Value.int .i64)).length = (n - k) * 1 := by simp [h.len]
  have hl2 : ((zs.take k).map (Value.int .i64)).length = k * 1 := by simp [h.len]; omega
  have h1c1 := ints_oneCell .i64 (zs.drop k)
  have h1c2 := ints_oneCell .i64 (zs.take k)
  by_cases h0 : n = 0
  · subst h0
    obtain rfl : k = 0 := by omega
    have hzs : zs = [] := List.eq_nil_of_length_eq_zero h.len
    subst hzs
    have hl0 : ([] : List Value).length = 0 * 1 := rfl
    have hcc0 : ∀ (w1 : World) (ao : Option Addr) (ad : Addr), ao = some ad → ∀ (t : Nat) (u : Value), ([] : List Value)[t]? = some u → w1.cell? (ad.add t) = some u := by intro w1 ao ad _ t u hu; simp at hu
    have h1c0 : ∀ u ∈ ([] : List Value), u.oneCell' = true := by intro u hu; simp at hu
    clear hl1 hl2 h1c1 h1c2
    cases a with
    | none =>
      obtain rfl := h.nil rfl
      go_enter Try.func15, Try.ntmps15
      go_wp2_with (at_make; refine wpList_make_own w rfl _ _ 30 rfl w.heap.size 3 i0 (.int .i64 0) 1 Try.underlying30 hi hz0 hz1 _ _ _ 0 rfl rfl (by omega) hby hmm (Nat.le_refl _) ?_)
      intro w1 hown hgrow
      have HB := hide ((Below.refl w.heap.size w).grown hgrow (Nat.le_refl _) (fun j hj => by simp at hj))
      clear hgrow
      go_wp2_with (first | (at_builtin; refine wpList_append_fits_any w1 rfl (.tmp 21) (.tmp 24) 30 rfl w.heap.size 3 i0 1 Try.underlying30 hi hz1 w.heap.size 0 0 [] rfl hown _ 0 _ [] rfl hl0 (fun _ => ⟨rfl, rfl⟩) (hcc0 _ _) h1c0 (by omega) ?_; intro w2 hown2 hgrow2; simp only [Nat.zero_add, List.nil_append] at hown2; have HB2 := hide (HB.out.grown hgrow2 HB.out.size (fun j hj => by simp at hj; omega)); clear hgrow2 hown) | (at_builtin; refine wpList_append_fits_any _ rfl (.tmp 26) (.tmp 29) 30 rfl w.heap.size 3 i0 1 Try.underlying30 hi hz1 w.heap.size _ 0 _ rfl hown2 _ 0 _ [] rfl hl0 (fun _ => ⟨rfl, rfl⟩) (hcc0 _ _) h1c0 (by omega) ?_))
      intro w3 hown3 hgrow3
      have B3 : Below w.heap.size w w3 := HB2.out.grown hgrow3 HB2.out.size (fun j hj => by simp at hj; omega)
      have R3 : Rd w3 (some ⟨w.heap.size, 0, none⟩) 0 0 (([] : List Int).drop 0 ++ [].take 0) := Rd.of_own (base := w.heap.size) (by simpa using hown3)
      clear hown3 hgrow3
      go_wp2
      go_ret2
      exact ⟨_, _, rfl, R3, B3⟩
    | some ad =>
      by_cases hc0 : c = 0
      · subst hc0
        go_enter Try.func15, Try.ntmps15
        go_wp2_with (at_make; refine wpList_make_own w rfl _ _ 30 rfl w.heap.size 3 i0 (.int .i64 0) 1 Try.underlying30 hi hz0 hz1 _ _ _ 0 rfl rfl (by omega) hby hmm (Nat.le_refl _) ?_)
        intro w1 hown hgrow
        have HB := hide ((Below.refl w.heap.size w).grown hgrow (Nat.le_refl _) (fun j hj => by simp at hj))
        clear hgrow
        go_wp2_with (first | (at_builtin; refine wpList_append_fits_any w1 rfl (.tmp 21) (.tmp 24) 30 rfl w.heap.size 3 i0 1 Try.underlying30 hi hz1 w.heap.size 0 0 [] rfl hown _ 0 _ [] rfl hl0 (fun h => nomatch h) (hcc0 _ _) h1c0 (by omega) ?_; intro w2 hown2 hgrow2; simp only [Nat.zero_add, List.nil_append] at hown2; have HB2 := hide (HB.out.grown hgrow2 HB.out.size (fun j hj => by simp at hj; omega)); clear hgrow2 hown) | (at_builtin; refine wpList_append_fits_any _ rfl (.tmp 26) (.tmp 29) 30 rfl w.heap.size 3 i0 1 Try.underlying30 hi hz1 w.heap.size _ 0 _ rfl hown2 _ 0 _ [] rfl hl0 (fun h => nomatch h) (hcc0 _ _) h1c0 (by omega) ?_))
        intro w3 hown3 hgrow3
        have B3 : Below w.heap.size w w3 := HB2.out.grown hgrow3 HB2.out.size (fun j hj => by simp at hj; omega)
        have R3 : Rd w3 (some ⟨w.heap.size, 0, none⟩) 0 0 (([] : List Int).drop 0 ++ [].take 0) := Rd.of_own (base := w.heap.size) (by simpa using hown3)
        clear hown3 hgrow3
        go_wp2
        go_ret2
        exact ⟨_, _, rfl, R3, B3⟩
      · go_enter Try.func15, Try.ntmps15
        go_wp2_with (at_make; refine wpList_make_own w rfl _ _ 30 rfl w.heap.size 3 i0 (.int .i64 0) 1 Try.underlying30 hi hz0 hz1 _ _ _ 0 rfl rfl (by omega) hby hmm (Nat.le_refl _) ?_)
        intro w1 hown hgrow
        have HB := hide ((Below.refl w.heap.size w).grown hgrow (Nat.le_refl _) (fun j hj => by simp at hj))
        clear hgrow
        go_wp2_with (first | (at_builtin; refine wpList_append_fits_any w1 rfl (.tmp 21) (.tmp 24) 30 rfl w.heap.size 3 i0 1 Try.underlying30 hi hz1 w.heap.size 0 0 [] rfl hown _ 0 _ [] rfl hl0 (fun h => nomatch h) (hcc0 _ _) h1c0 (by omega) ?_; intro w2 hown2 hgrow2; simp only [Nat.zero_add, List.nil_append] at hown2; have HB2 := hide (HB.out.grown hgrow2 HB.out.size (fun j hj => by simp at hj; omega)); clear hgrow2 hown) | (at_builtin; refine wpList_append_fits_any _ rfl (.tmp 26) (.tmp 29) 30 rfl w.heap.size 3 i0 1 Try.underlying30 hi hz1 w.heap.size _ 0 _ rfl hown2 _ 0 _ [] rfl hl0 (fun h => nomatch h) (hcc0 _ _) h1c0 (by omega) ?_))
        intro w3 hown3 hgrow3
        have B3 : Below w.heap.size w w3 := HB2.out.grown hgrow3 HB2.out.size (fun j hj => by simp at hj; omega)
        have R3 : Rd w3 (some ⟨w.heap.size, 0, none⟩) 0 0 (([] : List Int).drop 0 ++ [].take 0) := Rd.of_own (base := w.heap.size) (by simpa using hown3)
        clear hown3 hgrow3
        go_wp2
        go_ret2
        exact ⟨_, _, rfl, R3, B3⟩
  · obtain ⟨b, off, rfl, hc⟩ := h.cells (by omega)
    go_enter Try.func15, Try.ntmps15
    go_wp2_with (at_make; refine wpList_make_own w rfl _ _ 30 rfl w.heap.size 3 i0 (.int .i64 0) 1 Try.underlying30 hi hz0 hz1 _ _ _ n rfl rfl (by omega) hby hmm (Nat.le_refl _) ?_)
    intro w1 hown hgrow
    have hb1 : Below w.heap.size w w1 := (Below.refl _ _).grown hgrow (Nat.le_refl _) (fun j hj => by simp at hj)
    have hbl : b < w.heap.size := World.block_lt_of_cell? w _ (hc 0 (by omega))
    have hc1 := cells_grown hc hgrow (by simp)
    have HB := hide hb1
    have HC1 := hide hc1
    have HL := hide h.len
    have hne : some b ≠ some w.heap.size := by simp; omega
    have HN := hide hne
    clear hgrow hb1 hc1 hc hne
    have hp2 : n - k + k = n := by omega
    have HP2 := hide hp2
    clear hp2
    by_cases hck : c = k
    · obtain rfl : n = k := by omega
      subst hck
      have hl0 : ([] : List Value).length = 0 * 1 := rfl
      have hcc0 : ∀ (ao : Option Addr) (ad : Addr), ao = some ad → ∀ (t : Nat) (u : Value), ([] : List Value)[t]? = some u → w1.cell? (ad.add t) = some u := by intro ao ad _ t u hu; simp at hu
      have h1c0 : ∀ u ∈ ([] : List Value), u.oneCell' = true := by intro u hu; simp at hu
      go_wp2_with (first | (at_builtin; refine wpList_append_fits_any w1 rfl (.tmp 21) (.tmp 24) 30 rfl w.heap.size 3 i0 1 Try.underlying30 hi hz1 w.heap.size 0 c [] rfl hown _ 0 _ [] rfl hl0 (fun h => nomatch h) (hcc0 _) h1c0 (by omega) ?_; intro w2 hown2 hgrow2; simp only [Nat.zero_add, List.nil_append] at hown2; have HC2 := hide (cells_grown HC1.out hgrow2 HN.out); have HB2 := hide (HB.out.grown hgrow2 HB.out.size (fun j hj => by simp at hj; omega)); clear hgrow2 hown) | (at_builtin; refine wpList_append_fits_any _ rfl (.tmp 26) (.tmp 29) 30 rfl w.heap.size 3 i0 1 Try.underlying30 hi hz1 w.heap.size _ c _ rfl hown2 _ c c ((zs.take c).map (Value.int .i64)) rfl hl2 (fun h => nomatch h) (cells_upto HL.out HC2.out (fun _ _ => rfl)) h1c2 (by omega) ?_))
      intro w3 hown3 hgrow3
      have B3 : Below w.heap.size w w3 := HB2.out.grown hgrow3 HB2.out.size (fun j hj => by simp at hj; omega)
      have R3 : Rd w3 (some ⟨w.heap.size, 0, none⟩) c c (zs.drop c ++ zs.take c) := Rd.of_own (base := w.heap.size) (by rw [List.drop_of_length_le (by rw [HL.out]; exact Nat.le_refl _), List.nil_append, List.map_take]; exact hown3)
      clear hown3 hgrow3
      go_wp2
      go_ret2
      exact ⟨_, _, rfl, R3, B3⟩
    · go_wp2_with (first | (at_builtin; refine wpList_append_fits_any w1 rfl (.tmp 21) (.tmp 24) 30 rfl w.heap.size 3 i0 1 Try.underlying30 hi hz1 w.heap.size 0 n [] rfl hown _ (n - k) (c - k) ((zs.drop k).map (Value.int .i64)) rfl hl1 (fun h => nomatch h) (cells_from HL.out hcn HC1.out (fun _ => rfl)) h1c1 (by omega) ?_; intro w2 hown2 hgrow2; simp only [Nat.zero_add, List.nil_append] at hown2; have HC2 := hide (cells_grown HC1.out hgrow2 HN.out); have HB2 := hide (HB.out.grown hgrow2 HB.out.size (fun j hj => by simp at hj; omega)); clear hgrow2 hown) | (at_builtin; refine wpList_append_fits_any _ rfl (.tmp 26) (.tmp 29) 30 rfl w.heap.size 3 i0 1 Try.underlying30 hi hz1 w.heap.size _ n _ rfl hown2 _ k c ((zs.take k).map (Value.int .i64)) rfl hl2 (fun h => nomatch h) (cells_upto HL.out HC2.out (fun _ _ => rfl)) h1c2 (by omega) ?_))
      intro w3 hown3 hgrow3
      have B3 : Below w.heap.size w w3 := HB2.out.grown hgrow3 HB2.out.size (fun j hj => by simp at hj; omega)
      have R3 : Rd w3 (some ⟨w.heap.size, 0, none⟩) n n (zs.drop k ++ zs.take k) := Rd.of_own (base := w.heap.size) (by rw [List.map_append, List.map_drop, List.map_take]; exact hown3)
      clear hown3 hgrow3
      go_wp2
      go_ret2
      exact ⟨_, _, rfl, R3, B3⟩

end Go.Proofs.Ytdipbbcggccgcaa
