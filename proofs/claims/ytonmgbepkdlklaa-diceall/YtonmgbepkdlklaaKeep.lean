/-
  What is shown, sorted; the greatest of it added; dice.Keep. No conditions beyond those that each theorem bears.
-/
import Derived.Test.YtonmgbepkdlklaaTally
import Derived.Test.YtonmgbepkdlklaaSmall
import Derived.Test.YtonmgbepkdlklaaRep
namespace Go.Proofs.Ytonmgbepkdlklaa
open Go.RowKit Go.Shelf

def ins (x : Nat) : List Nat → List Nat
  | [] => [x]
  | y :: l => if x ≤ y then x :: y :: l else y :: ins x l

def isort : List Nat → List Nat
  | [] => []
  | x :: l => ins x (isort l)

theorem ins_perm (x : Nat) (l : List Nat) : (ins x l).Perm (x :: l) := by
  induction l with
  | nil => exact List.Perm.refl _
  | cons y l ih =>
    unfold ins
    split
    · exact List.Perm.refl _
    · exact (List.Perm.cons y ih).trans (List.Perm.swap x y l)

theorem isort_perm (l : List Nat) : (isort l).Perm l := by
  induction l with
  | nil => exact List.Perm.refl _
  | cons x l ih => exact (ins_perm x _).trans (List.Perm.cons x ih)

theorem ins_sorted (x : Nat) (l : List Nat) (h : l.Pairwise (· ≤ ·)) : (ins x l).Pairwise (· ≤ ·) := by
  induction l with
  | nil => simp [ins]
  | cons y l ih =>
    unfold ins
    rw [List.pairwise_cons] at h
    split
    · rename_i hxy
      rw [List.pairwise_cons, List.pairwise_cons]
      refine ⟨fun z hz => ?_, h⟩
      rcases List.mem_cons.1 hz with rfl | hz
      · exact hxy
      · exact Nat.le_trans hxy (h.1 z hz)
    · rename_i hxy
      rw [List.pairwise_cons]
      refine ⟨fun z hz => ?_, ih h.2⟩
      rcases List.mem_cons.1 ((ins_perm x l).mem_iff.1 hz) with rfl | hz
      · omega
      · exact h.1 z hz

theorem isort_sorted (l : List Nat) : (isort l).Pairwise (· ≤ ·) := by
  induction l with
  | nil => exact List.Pairwise.nil
  | cons x l ih => exact ins_sorted x _ ih

theorem isort_of_perm {l l' : List Nat} (h : l.Perm l') : isort l = isort l' :=
  List.Perm.eq_of_pairwise (le := (· ≤ ·)) (fun _ _ _ _ h1 h2 => Nat.le_antisymm h1 h2) (isort_sorted l) (isort_sorted l') (((isort_perm l).trans h).trans (isort_perm l').symm)

theorem merge_toI (l : List Nat) : (toI l).mergeSort (fun x y => decide (x ≤ y)) = toI (isort l) := by
  refine List.Perm.eq_of_pairwise (le := fun x y : Int => decide (x ≤ y) = true) ?_ (List.pairwise_mergeSort ?_ ?_ _) ?_ ?_
  · intro a b _ _ h1 h2; simp at h1 h2; omega
  · intro a b c h1 h2; simp at h1 h2 ⊢; omega
  · intro a b; simp; omega
  · have := isort_sorted l
    rw [toI, List.pairwise_map]
    exact this.imp (fun h => by simp; omega)
  · exact (List.mergeSort_perm _ _).trans ((isort_perm l).map _).symm

theorem isort_length (l : List Nat) : (isort l).length = l.length := (isort_perm l).length_eq

open Go.Sort in
theorem sortN_any (blk n c : Nat) (zs : List Nat) (hn : zs.length = n) (hn1 : 1 ≤ n) (hn2 : n ≤ 1000) (w : World) (hc : ∀ i, i < n → w.cell? ⟨blk, i, none⟩ = some (.int .i64 (zs.getD i 0)) ∧ w.frozen? ⟨blk, i, none⟩ = false) :
    Calls Try.prog 32 #[.slice (some ⟨blk, 0, none⟩) n c] w fun e w' => e = .returned (.tuple #[]) ∧ Keeps (fun k => k = blk) w w' ∧
      ∀ i, i < n → w'.cell? ⟨blk, i, none⟩ = some (.int .i64 ((isort zs).getD i 0)) := by
  have hlt : blk < w.heap.size := World.block_lt_of_cell? w _ (hc 0 (by omega)).1
  have hH : Holds (Value.int .i64) w blk 0 (toI zs).toArray := by
    intro j hj
    have hj5 : j < n := by simpa [toI, hn] using hj
    rw [Nat.zero_add]
    refine ⟨?_, (hc j hj5).2⟩
    rw [(hc j hj5).1, ← toI_getD]
    simp [List.getD, toI, hn, hj5]
  have h := Try.slices_Sort_int blk 0 c (toI zs) w hH hlt (by simp [toI, hn]; omega)
  rw [show (toI zs).length = n by simp [toI, hn]] at h
  refine h.mono ?_
  rintro e w' ⟨rfl, m, os, rfl⟩
  rw [merge_toI]
  have hsz : (putRow (Value.int .i64) (Sort.ahead w m) blk 0 (toI (isort zs)).toArray).heap.size = w.heap.size := by simp
  refine ⟨rfl, ⟨rfl, rfl, rfl, by simp [grow], fun k hk hne => ?_⟩, fun i hi => ?_⟩
  · rw [heap_grow_old _ _ (by rw [hsz]; exact hk)]
    have hne' : ¬ blk = k := fun e => hne e.symm
    simp [putRow, mapBlock, Sort.ahead, Array.getElem?_modify, hne']
  · rw [cell?_grow _ _ _ (by rw [hsz]; exact hlt)]
    have := cell?_putRow (Value.int .i64) (Sort.ahead w m) blk 0 (toI zs).toArray (toI (isort zs)).toArray (holds_ahead _ _ _ _ _ _ hH) (by simp [toI, isort_length]) i (by simp [toI, isort_length, hn]; exact hi)
    rw [Nat.zero_add] at this
    rw [this, ← toI_getD]
    simp [List.getD, toI, isort_length, hn, hi]

/-- The greatest k, added. -/
def keF (n k : Nat) (L : List Nat) : Int := (((isort L).drop (n - k)).sum : Nat)

theorem own_some {w : World} {base n : Nat} {v : Value} {xs : List Value} (hown : w.ownsRow base 3 1 v n xs) (hn : 1 ≤ n) : ∃ g c, v = .slice (some ⟨g, 0, none⟩) n c ∧ base ≤ g ∧ n ≤ c ∧ c ≤ maxLen := by
  rcases hown.2 with ⟨hv, h0⟩ | ⟨g, cap, cur, hv, hb, hg, hnc, hcm, hcs, ht⟩
  · omega
  · exact ⟨g, cap, hv, hb, hnc, hcm⟩

set_option maxRecDepth 100000 in
set_option maxHeartbeats 2000000 in
theorem keep1_any (pn pk SB n k : Nat) (L : List Nat) (W : World) (hpn : W.cell? ⟨pn, 0, none⟩ = some (.int .i64 n)) (hpk : W.cell? ⟨pk, 0, none⟩ = some (.int .i64 k)) (hL : Blk W SB L) (hl : L.length = n) (hk1 : 1 ≤ k) (hkn : k ≤ n) (hn : n ≤ 10) (hb : ∀ x ∈ L, x ≤ 20) :
    Calls Try.prog 30 #[.slice (some ⟨SB, 0, none⟩) n n, .pointer (some ⟨pn, 0, none⟩), .pointer (some ⟨pk, 0, none⟩)] W fun e W' => e = .returned (.int .i64 (keF n k L)) ∧ Below W.heap.size W W' := by
  have HC := hide (Try.slices_Clone_int SB 0 n n (toI L) W (by rw [toI_length, hl]; exact Nat.le_refl _) (by omega) (fun j hj => by
    rw [toI_length] at hj
    rw [Nat.zero_add, hL.cell hj, toI_getD]))
  obtain ⟨V, hV⟩ : ∃ V, keF n k L = V := ⟨_, rfl⟩
  rw [hV]
  have HV := hide hV
  have HL := hide hl
  have HB := hide hb
  have HPN := hide hpn
  have HPK := hide hpk
  clear hL hV hl hb hpn hpk
  go_enter Try.func30, Try.ntmps30
  go_wp2_with fail
  refine HC.out.mono ?_
  rintro e w1 ⟨v1, rfl, hown, -, hB1⟩
  rw [List.take_of_length_le (by rw [toI_length, HL.out]; exact Nat.le_refl _)] at hown
  obtain ⟨g, c, rfl, hg, hnc, hcm⟩ := own_some hown (by omega)
  have hR := Rd.of_own hown
  have HS := hide (sortN_any g n c L HL.out (by omega) (by omega) w1 (fun i hi => ⟨by
    obtain ⟨_, hcell⟩ := hR.cell hi
    rw [Nat.zero_add] at hcell
    rw [hcell, toI_getD], hown.frozenAt i⟩))
  have HB1 := hide hB1
  have HG := hide hg
  unfold maxLen at hcm
  clear hown hR hB1 hg
  go_wp2_with fail
  refine HS.out.mono ?_
  rintro e w2 ⟨rfl, hK2, hc2⟩
  have hB2 : Below W.heap.size W w2 := HB1.out.trans (hK2.below HB1.out.size (fun k hk => by have := HG.out; omega))
  have c1 := (hB2.cell (p := ⟨pn, 0, none⟩) (World.block_lt_of_cell? _ _ HPN.out)).trans HPN.out
  have c2 := (hB2.cell (p := ⟨pk, 0, none⟩) (World.block_lt_of_cell? _ _ HPK.out)).trans HPK.out
  have hRd : Rd w2 (some ⟨g, 0, none⟩) n c (toI (isort L)) := ⟨by rw [toI_length, isort_length, HL.out], hnc, by unfold maxLen; omega, (fun h => by simp at h), fun _ => ⟨g, 0, rfl, fun i hi => by rw [Nat.zero_add, hc2 i hi, toI_getD]⟩⟩
  have hRd2 := hRd.from (k := n - k) (by omega)
  rw [if_neg (by omega)] at hRd2
  simp only [Option.map_some, Addr.add_lit, Nat.zero_add] at hRd2
  obtain ⟨d, hd⟩ : ∃ d, n - k = d := ⟨_, rfl⟩
  have hde : (n : Int) - (k : Int) = (d : Int) := by omega
  rw [hd] at hRd2
  have hdr : (toI (isort L)).drop d = toI ((isort L).drop d) := by rw [toI, toI, List.map_drop]
  rw [hdr] at hRd2
  have HR := hide hRd2
  have HB2 := hide hB2
  have HD := hide hd
  have hdn : (d : Int) ≤ (n : Int) := by omega
  have hdc : (d : Int) ≤ (c : Int) := by omega
  have hcd : ¬ c = d := by omega
  have hncI : (n : Int) ≤ (c : Int) := by omega
  clear hRd hRd2 hB2 hK2 hc2 hd hdr
  go_wp2_with fail
  refine (sum_any _ _ _ ((isort L).drop d) w2 HR.out (by omega) (fun x hx => Nat.le_trans (HB.out x ((isort_perm L).mem_iff.1 (List.mem_of_mem_drop hx))) (by omega))).mono ?_
  rintro e w3 ⟨rfl, hw3⟩
  subst w3
  go_wp2_with fail
  go_ret
  exact ⟨ret_int (by rw [← HV.out, keF, HD.out]), HB2.out⟩

/-- What is wrong with dice of which the greatest are kept. -/
def keE (N S K : Int) : Int := if N < 1 ∨ 10 < N then 2 else if S < 1 ∨ 20 < S then 3 else if K < 1 ∨ N < K ∨ 100000 < S.toNat ^ N.toNat then 11 else 0

set_option maxHeartbeats 2000000 in
theorem Keep_no (N S K : Int) (w : World) (h : keE N S K ≠ 0) :
    Calls Try.prog 14 #[.int .i64 N, .int .i64 S, .int .i64 K] w fun e w' => e = .returned (.tuple #[.slice none 0 0, .int .i64 (keE N S K)]) ∧ Below w.heap.size w w' := by
  have HB := hide (((Below.refl w.heap.size w).alloc (Nat.le_refl _) (.cells #[.int .i64 N] 3)).alloc (by simp) (.cells #[.int .i64 K] 3))
  unfold keE at h ⊢
  by_cases h1 : N < 1 ∨ 10 < N
  · rw [if_pos h1]
    have e1 : wnB N = true := by unfold wnB; rw [decide_eq_true_iff]; exact h1
    clear h h1
    go_enter Try.func14, Try.ntmps14
    go_wp2_with (go_at_call 21; refine (wrongNumber_any _ _).mono ?_; rintro e w' ⟨rfl, hw'⟩; subst w')
    go_ret2
    exact ⟨rfl, HB.out⟩
  · rw [if_neg h1] at h ⊢
    have e1 : wnB N = false := by unfold wnB; rw [decide_eq_false_iff_not]; exact h1
    by_cases h2 : S < 1 ∨ 20 < S
    · rw [if_pos h2]
      have e2 : wsB S = true := by unfold wsB; rw [decide_eq_true_iff]; exact h2
      clear h h1 h2
      go_enter Try.func14, Try.ntmps14
      go_wp2_with (first | (go_at_call 21; refine (wrongNumber_any _ _).mono ?_; rintro e w' ⟨rfl, hw'⟩; subst w') | (go_at_call 23; refine (wrongSides_any _ _).mono ?_; rintro e w' ⟨rfl, hw'⟩; subst w'))
      go_ret2
      exact ⟨rfl, HB.out⟩
    · rw [if_neg h2] at h ⊢
      have e2 : wsB S = false := by unfold wsB; rw [decide_eq_false_iff_not]; exact h2
      have h3 : K < 1 ∨ N < K ∨ 100000 < S.toNat ^ N.toNat := by
        by_cases h3 : K < 1 ∨ N < K ∨ 100000 < S.toNat ^ N.toNat
        · exact h3
        · rw [if_neg h3] at h; exact absurd rfl h
      rw [if_pos h3]
      obtain ⟨n, rfl⟩ : ∃ n : Nat, N = n := ⟨N.toNat, by omega⟩
      obtain ⟨s, rfl⟩ : ∃ s : Nat, S = s := ⟨S.toNat, by omega⟩
      simp only [Int.toNat_natCast] at h3
      have hn : n ≤ 10 := by omega
      have hs : s ≤ 20 := by omega
      clear h
      by_cases d1 : K < 1
      · clear h3 h1 h2
        go_enter Try.func14, Try.ntmps14
        go_wp2_with (first | (go_at_call 21; refine (wrongNumber_any _ _).mono ?_; rintro e w' ⟨rfl, hw'⟩; subst w') | (go_at_call 23; refine (wrongSides_any _ _).mono ?_; rintro e w' ⟨rfl, hw'⟩; subst w'))
        go_ret2
        exact ⟨rfl, HB.out⟩
      · have d1' : decide (K < 1) = false := by simpa using d1
        by_cases d2 : (n : Int) < K
        · clear h3 h1 h2
          go_enter Try.func14, Try.ntmps14
          go_wp2_with (first | (go_at_call 21; refine (wrongNumber_any _ _).mono ?_; rintro e w' ⟨rfl, hw'⟩; subst w') | (go_at_call 23; refine (wrongSides_any _ _).mono ?_; rintro e w' ⟨rfl, hw'⟩; subst w'))
          go_ret2
          exact ⟨rfl, HB.out⟩
        · have d2' : decide ((n : Int) < K) = false := by simpa using d2
          have h4 : 100000 < s ^ n := by rcases h3 with h | h | h; exact absurd h d1; exact absurd h d2; exact h
          have e4 : tmB n s = true := by unfold tmB; rw [decide_eq_true_iff]; exact h4
          clear h3 h1 h2 h4
          go_enter Try.func14, Try.ntmps14
          go_wp2_with (first | (go_at_call 21; refine (wrongNumber_any _ _).mono ?_; rintro e w' ⟨rfl, hw'⟩; subst w') | (go_at_call 23; refine (wrongSides_any _ _).mono ?_; rintro e w' ⟨rfl, hw'⟩; subst w') | (go_at_call 29; refine (tooManyWays_any n s _ hn hs).mono ?_; rintro e w' ⟨rfl, hw'⟩; subst w'))
          go_ret2
          exact ⟨rfl, HB.out⟩

set_option maxHeartbeats 2000000 in
theorem KeepMay_any (N S K : Int) (w : World) :
    Calls Try.prog 15 #[.int .i64 N, .int .i64 S, .int .i64 K] w fun e w' => e = .returned (.int .i64 (keE N S K)) ∧ w' = w := by
  unfold keE
  by_cases h1 : N < 1 ∨ 10 < N
  · rw [if_pos h1]
    have e1 : inB N 1 10 = false := by unfold inB; rw [decide_eq_false_iff_not]; omega
    clear h1
    go_enter Try.func15, Try.ntmps15
    go_wp2_with (go_at_call 28; refine (within_any _ _ _ _).mono ?_; rintro e w' ⟨rfl, hw'⟩; subst w')
    go_ret
    exact ⟨rfl, rfl⟩
  · rw [if_neg h1]
    have e1 : inB N 1 10 = true := by unfold inB; rw [decide_eq_true_iff]; omega
    by_cases h2 : S < 1 ∨ 20 < S
    · rw [if_pos h2]
      have e2 : inB S 1 20 = false := by unfold inB; rw [decide_eq_false_iff_not]; omega
      clear h1 h2
      go_enter Try.func15, Try.ntmps15
      go_wp2_with (go_at_call 28; refine (within_any _ _ _ _).mono ?_; rintro e w' ⟨rfl, hw'⟩; subst w')
      go_ret
      exact ⟨rfl, rfl⟩
    · rw [if_neg h2]
      have e2 : inB S 1 20 = true := by unfold inB; rw [decide_eq_true_iff]; omega
      obtain ⟨n, rfl⟩ : ∃ n : Nat, N = n := ⟨N.toNat, by omega⟩
      obtain ⟨s, rfl⟩ : ∃ s : Nat, S = s := ⟨S.toNat, by omega⟩
      simp only [Int.toNat_natCast]
      have hn : n ≤ 10 := by omega
      have hs : s ≤ 20 := by omega
      have hs1 : 1 ≤ s := by omega
      by_cases d1 : K < 1 ∨ (n : Int) < K
      · have e3 : inB K 1 n = false := by unfold inB; rw [decide_eq_false_iff_not]; omega
        rw [if_pos (by omega)]
        clear h1 h2 d1
        go_enter Try.func15, Try.ntmps15
        go_wp2_with (go_at_call 28; refine (within_any _ _ _ _).mono ?_; rintro e w' ⟨rfl, hw'⟩; subst w')
        go_ret
        exact ⟨rfl, rfl⟩
      · have e3 : inB K 1 n = true := by unfold inB; rw [decide_eq_true_iff]; omega
        by_cases h4 : 100000 < s ^ n
        · rw [if_pos (by omega)]
          have e4 : awN s n = 0 := by unfold awN; rw [if_pos h4]
          have HA := hide (allWays_any s n w hn hs1 hs)
          rw [e4] at HA
          clear h1 h2 d1 h4 e4
          go_enter Try.func15, Try.ntmps15
          go_wp2_with (first | (go_at_call 28; refine (within_any _ _ _ _).mono ?_; rintro e w' ⟨rfl, hw'⟩; subst w') | (go_at_call 35; refine HA.out.mono ?_; rintro e w' ⟨rfl, hw'⟩; subst w'))
          go_ret
          exact ⟨rfl, rfl⟩
        · rw [if_neg (by omega)]
          obtain ⟨q, hq⟩ : ∃ q, awN s n = q := ⟨_, rfl⟩
          have hq1 : 1 ≤ q := by rw [← hq]; unfold awN; rw [if_neg h4]; exact Nat.pow_pos hs1
          have HA := hide (allWays_any s n w hn hs1 hs)
          rw [hq] at HA
          have hq0 : ((q : Int) == 0) = false := by simp; omega
          clear h1 h2 d1 h4 hq
          go_enter Try.func15, Try.ntmps15
          go_wp2_with (first | (go_at_call 28; refine (within_any _ _ _ _).mono ?_; rintro e w' ⟨rfl, hw'⟩; subst w') | (go_at_call 35; refine HA.out.mono ?_; rintro e w' ⟨rfl, hw'⟩; subst w'))
          go_ret
          exact ⟨rfl, rfl⟩

end Go.Proofs.Ytonmgbepkdlklaa
