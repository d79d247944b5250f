/-
  'gameroomkeep.DeckSigns' returns true for every size, x and y.
-/
import Derived.Test.YtdipbbcggccgcabMul
import Derived.Test.YtdipbbcggccgcabNthB
namespace Go.Proofs.Ytdipbbcggccgcab
open Go.RowKit

/-- Which of m things a raw number speaks of. -/
def pk (n : Int) (m : Nat) : Nat := (if n < 0 then -(n + 1) else n).toNat % m

theorem pk_lt (n : Int) (m : Nat) (h : 0 < m) : pk n m < m := Nat.mod_lt _ h

set_option maxHeartbeats 400000 in
theorem picked_any (n : Int) (m : Nat) (w : World) (h1 : -9223372036854775808 ≤ n) (h2 : n ≤ 9223372036854775807) (hm : 1 ≤ m) (hm2 : m ≤ 479001600) :
    Calls Try.prog 4 #[.int .i64 n, .int .i64 m] w fun e w' => e = .returned (.int .i64 (pk n m : Nat)) ∧ w' = w := by
  have hm' : ¬ (m : Int) = 0 := by omega
  by_cases hn : n < 0
  · obtain ⟨q, hq⟩ := Int.eq_ofNat_of_zero_le (show 0 ≤ -(n + 1) by omega)
    have HP : Hid (pk n m = q % m) := hide (by unfold pk; rw [if_pos hn, hq]; rfl)
    have e0 : n = -(q : Int) - 1 := by omega
    have hq2 : (q : Int) ≤ 9223372036854775807 := by omega
    subst e0
    have hmod : (q : Int) % (m : Int) = ((q % m : Nat) : Int) := by simp
    have hneg : -(-(q : Int) - 1 + 1) = (q : Int) := by omega
    generalize q % m = R at *
    clear hq
    go_enter Try.func4, Try.ntmps4
    go_wp2
    go_ret
    refine ⟨retZ ?_, rfl⟩
    rw [HP.out, ← hmod]
  · obtain ⟨q, rfl⟩ := Int.eq_ofNat_of_zero_le (show 0 ≤ n by omega)
    have HP : Hid (pk (q : Int) m = q % m) := hide (by unfold pk; rw [if_neg hn]; rfl)
    have hmod : (q : Int) % (m : Int) = ((q % m : Nat) : Int) := by simp
    generalize q % m = R at *
    go_enter Try.func4, Try.ntmps4
    go_wp2
    go_ret
    refine ⟨?_, rfl⟩
    rw [HP.out]
    rfl

theorem getD_mem (l : List Int) (i : Nat) (h : i < l.length) : l.getD i 0 ∈ l := by simp [List.getD, h]

theorem both_ord (a b both : List Int) (ha : IsOrd a) (hb : IsOrd b) (hl : a.length = b.length) (hl2 : both.length = b.length)
    (hc : ∀ i, i < b.length → both.getD i 0 = a.getD (b.getD i 0).toNat 0) : IsOrd both := by
  have hbr : ∀ i, i < b.length → 0 ≤ b.getD i 0 ∧ b.getD i 0 < b.length := fun i hi => hb.range (b.getD i 0) (by simp [List.getD, hi])
  refine isOrd_of_nodup both ?_ ?_
  · rw [List.nodup_iff_pairwise_ne, List.pairwise_iff_getElem]
    intro i j hi hj hij e
    have e' : both.getD i 0 = both.getD j 0 := by simpa [List.getD, hi, hj] using e
    have h1 := hbr i (by omega)
    have h2 := hbr j (by omega)
    rw [hc i (by omega), hc j (by omega)] at e'
    have := nodup_getD ha.nodup (by omega) (by omega) e'
    have := nodup_getD hb.nodup (p := i) (q := j) (by omega) (by omega) (by omega)
    omega
  · intro x hx
    obtain ⟨i, hi, rfl⟩ := List.getElem_of_mem hx
    have h1 := hbr i (by omega)
    have e : both[i] = a.getD (b.getD i 0).toNat 0 := by rw [← hc i (by omega)]; simp [List.getD, hi]
    rw [e, hl2, ← hl]
    exact ha.range _ (getD_mem a _ (by omega))

theorem below_call {w a b : World} (h : Below w.heap.size w a) (k : Below a.heap.size a b) : Below w.heap.size w b := h.trans (k.mono h.size)

theorem sign_one (p : Nat) : signN p = 1 ∨ signN p = -1 := by unfold signN; split <;> simp

set_option maxRecDepth 100000 in
set_option maxHeartbeats 4000000 in
theorem signs_any (size x y : Int) (w : World) (hs1 : -9223372036854775808 ≤ size) (hs2 : size ≤ 9223372036854775807) (hx1 : -9223372036854775808 ≤ x) (hx2 : x ≤ 9223372036854775807) (hy1 : -9223372036854775808 ≤ y) (hy2 : y ≤ 9223372036854775807) :
    Calls Try.prog 3 #[.int .i64 size, .int .i64 x, .int .i64 y] w fun e w' => e = .returned (.bool true) ∧ Below w.heap.size w w' := by
  go_enter Try.func3, Try.ntmps3
  go_wp2_with fail
  refine (picked_any size 8 _ hs1 hs2 (by omega) (by omega)).mono ?_
  rintro e w1 ⟨rfl, hw⟩
  subst w1
  obtain ⟨n, hn⟩ : ∃ n, n = 1 + pk size 8 := ⟨_, rfl⟩
  have hn8 : n ≤ 8 := by have := pk_lt size 8 (by omega); omega
  have hn1 : 1 ≤ n := by omega
  have hnr : (1 : Int) + ((pk size 8 : Nat) : Int) = (n : Int) := by omega
  have hpk := pk_lt size 8 (by omega)
  clear hn
  generalize pk size 8 = S0 at *
  go_wp2_with fail
  clear hnr
  go_loop [8, 9] (fun f i => ∃ t : Nat, (t + 1 ≤ n ∨ t = 0) ∧ i = .int .i64 ((t : Int) + 2) ∧ f = .int .i64 (fact (t + 1) : Nat)) (fun _ i => n + 2 - (intOf i).toNat)
  case atStart => exact ⟨0, .inr rfl, rfl, rfl⟩
  case round =>
    obtain ⟨t, ht, rfl, rfl⟩ := hrel
    have hf := fact_le (t + 1) (by omega)
    have HN : Hid (fact (t + 1 + 1) = fact (t + 1) * (t + 1 + 1)) := rfl
    by_cases hlt : t + 2 ≤ n
    · obtain ⟨S, hS⟩ : ∃ S, S = fact (t + 1) := ⟨_, rfl⟩
      rw [← hS] at hf HN ⊢
      clear hS
      have hlt' : (t : Int) + 2 ≤ (n : Int) := by omega
      have hmul : (S : Int) * ((t : Int) + 2) = ((S * (t + 1 + 1) : Nat) : Int) := by
        rw [Int.natCast_mul]; rfl
      have hQ : S * (t + 1 + 1) ≤ 479001600 * 12 := Nat.mul_le_mul hf (by omega)
      generalize S * (t + 1 + 1) = Q at *
      go_wp2_with fail
      go_round
      case rel => exact ⟨t + 1, .inl (by omega), by go_num, by rw [HN.out]⟩
      case measure => simp [intOf]; omega
    · have hlt' : ¬ (t : Int) + 2 ≤ (n : Int) := by omega
      have hte : t + 1 = n := by omega
      rw [hte] at hf ⊢
      have hF1 := fact_pos n
      clear HN
      go_wp2_with fail
      refine (picked_any x (fact n) _ hx1 hx2 hF1 hf).mono ?_
      rintro e w1 ⟨rfl, hw⟩
      subst w1
      have HKX := hide (pk_lt x (fact n) hF1)
      go_wp2_with fail
      refine (Nth_yes n (pk x (fact n)) _ (by omega) HKX.out).mono ?_
      rintro e w1 ⟨aA, cA, rfl, hRA, hB1⟩
      have HB := hide hB1
      go_wp2_with fail
      refine (picked_any y (fact n) _ hy1 hy2 hF1 hf).mono ?_
      rintro e w2 ⟨rfl, hw⟩
      subst w2
      have HKY := hide (pk_lt y (fact n) hF1)
      go_wp2_with fail
      refine (Nth_yes n (pk y (fact n)) _ (by omega) HKY.out).mono ?_
      rintro e w2 ⟨aB, cB, rfl, hRB, hB2⟩
      replace HB := hide (below_call HB.out hB2)
      replace hRA := hRA.mono hB2
      have HOA := hide (nth_ord n (pk x (fact n)) HKX.out)
      have HOB := hide (nth_ord n (pk y (fact n)) HKY.out)
      have HNX := hide (nth_number n (pk x (fact n)) HKX.out)
      have HLA := hide (nth_length n (pk x (fact n)) n)
      have HLB := hide (nth_length n (pk y (fact n)) n)
      have HXX := hide (picked_any x (fact n))
      generalize (nthSt n (pk x (fact n)) n).1 = A at *
      generalize (nthSt n (pk y (fact n)) n).1 = B at *
      generalize pk x (fact n) = X at *
      generalize pk y (fact n) = Y at *
      clear hB1 hB2
      go_wp2_with fail
      refine (Number_yes _ _ _ A _ hRA (by omega) HOA.out).mono ?_
      rintro e w3 ⟨rfl, hB3⟩
      replace HB := hide (below_call HB.out hB3)
      replace hRA := hRA.mono hB3
      replace hRB := hRB.mono hB3
      rw [HNX.out]
      have HRA := hide hRA
      have HRB := hide hRB
      clear hB3 hRA hRB
      generalize fact n = F at *
      go_wp2_with fail
      clear hte ht hlt hpk
      go_loopw [16, 17] (fun v i wr => ∃ (k : Nat) (a' : Option Addr) (c' : Nat) (L : List Int), k ≤ n ∧ i = .int .i64 k ∧ v = .slice a' k c' ∧ wr.ownsRow w3.heap.size 3 1 (.slice a' k c') k (L.map (Value.int .i64)) ∧ Below w3.heap.size w3 wr ∧ Hid (∀ j, j < k → L.getD j 0 = A.getD (B.getD j 0).toNat 0)) (fun _ i _ => n - (intOf i).toNat)
      case atStart => exact ⟨0, none, 0, [], by omega, rfl, rfl, World.ownsRow_nil _ _ _ _, Below.refl _ _, fun j hj => absurd hj (by omega)⟩
      case round =>
        obtain ⟨k, a', c', L, hk, rfl, rfl, hO, hG, HL⟩ := hrel
        have HLL : Hid (L.length = k) := hide (by simpa using hO.1)
        have HO := hide hO
        have HG := hide hG
        clear hO hG
        by_cases hkl : k < n
        · have hkl' : (k : Int) < (n : Int) := by omega
          obtain ⟨ba, oa, haA, hcA⟩ := HRA.out.cells (by omega)
          obtain ⟨bb, ob, haB, hcB⟩ := HRB.out.cells (by omega)
          subst haA
          subst haB
          have hrg := HOB.out.range (B.getD k 0) (getD_mem B k (by rw [HLB.out]; exact hkl))
          rw [HLB.out] at hrg
          obtain ⟨j, hj⟩ := Int.eq_ofNat_of_zero_le hrg.1
          have hjn : j < n := by omega
          have hjn' : (j : Int) < (n : Int) := by omega
          have r1 := hcB k hkl
          rw [hj] at r1
          have r2 := hcA j hjn
          have hla : ba < w3.heap.size := World.block_lt_of_cell? w3 _ r2
          have hlb : bb < w3.heap.size := World.block_lt_of_cell? w3 _ r1
          rw [← HG.out.cell (p := ⟨bb, ob + k, none⟩) hlb] at r1
          rw [← HG.out.cell (p := ⟨ba, oa + j, none⟩) hla] at r2
          obtain ⟨V, hV⟩ : ∃ V, V = A.getD j 0 := ⟨_, rfl⟩
          rw [← hV] at r2
          have HN : Hid (∀ i, i < k + 1 → (L ++ [V]).getD i 0 = A.getD (B.getD i 0).toNat 0) := hide (fun i hi => by
            by_cases e : i = k
            · subst e
              rw [hj, hV]
              have hl := HLL.out
              simp [List.getD, hl]
            · rw [← HL.out i (by omega)]
              have hl := HLL.out
              simp [List.getD, List.getElem?_append, show i < L.length by omega])
          clear hcA hcB hrg hj hV hla hlb
          go_wp2_with (at_builtin; refine wpList_append_rd _ rfl (.tmp 90) (.tmp 98) rfl w3.heap.size _ k L rfl (HO.out.alloc _) _ 1 1 [V] rfl (Rd_one _ _) (by omega) (by have := HG.out.size; simp; omega) ?_)
          intro v' w' hO' hG'
          obtain ⟨a2, c2, hv'⟩ := slice_form hO'
          rw [hv'] at hO' ⊢
          have hb0 : Below w3.heap.size w3 (wr.alloc (.cells #[.int .i64 V] 3)) := HG.out.alloc HG.out.size _
          have HG2 := hide (hb0.grown hG' hb0.size (fun j hj => (HO.out.lt j hj).1))
          have HO2 := hide hO'
          clear hO' hG' hb0 hv'
          go_wp2_with fail
          go_roundw
          case rel => exact ⟨k + 1, a2, c2, L ++ [V], by omega, by go_num, rfl, by simpa using HO2.out, HG2.out, HN⟩
          case measure => simp [intOf]; omega
        · have hke : k = n := by omega
          rw [hke] at HLL HL HO ⊢
          clear hke hkl hk
          have hlt2 : ¬ (n : Int) < (n : Int) := by omega
          have HOL := hide (both_ord A B L HOA.out HOB.out (by rw [HLA.out, HLB.out]) (by rw [HLL.out, HLB.out]) (by rw [HLB.out]; exact HL.out))
          have hmulS := pairs_mul A B L HOA.out HOB.out (by rw [HLA.out, HLB.out]) (by rw [HLL.out, HLB.out]) (by rw [HLB.out]; exact HL.out)
          rcases sign_one (pairs A) with hsa | hsa <;> rcases sign_one (pairs B) with hsb | hsb
          all_goals
            have hsl := hmulS
            rw [hsa, hsb] at hsl
            simp only [Int.mul_one, Int.mul_neg, Int.neg_neg] at hsl
            clear hmulS
            go_wp2_with fail
            refine (Sign_yes _ _ _ A _ (HRA.out.mono HG.out) (by omega) HOA.out).mono ?_
            rintro e w4 ⟨rfl, hB4⟩
            rw [hsa]
            have HB4 := hide hB4
            clear hB4
            go_wp2_with fail
            refine (Sign_yes _ _ _ B _ ((HRB.out.mono HG.out).mono HB4.out) (by omega) HOB.out).mono ?_
            rintro e w5 ⟨rfl, hB5⟩
            rw [hsb]
            have HB5 := hide hB5
            clear hB5
            go_wp2_with fail
            refine (Sign_yes _ _ _ L _ (((Rd.of_own HO.out).mono HB4.out).mono HB5.out) (by omega) HOL.out).mono ?_
            rintro e w6 ⟨rfl, hB6⟩
            rw [hsl]
            have HB6 := hide hB6
            clear hB6
            go_wp2_with fail
            refine (HXX.out _ hx1 hx2 hF1 hf).mono ?_
            rintro e w7 ⟨rfl, hw⟩
            subst w7
            have hXX : ((X : Int) == (X : Int)) = true := by simp
            go_wp2_with fail
            go_ret
            exact ⟨rfl, below_call (below_call (below_call (below_call HB.out HG.out) HB4.out) HB5.out) HB6.out⟩

end Go.Proofs.Ytdipbbcggccgcab
