/-
  The law DominoEuler, walked. No conditions beyond those that each theorem bears.
-/
import Derived.Test.YtjcglpnpdalcjaaEuTab
namespace Go.Proofs.Ytjcglpnpdalcjaa
open Go.RowKit
attribute [local irreducible] hz hzL laid rcB setL rowE

theorem own_base35 {w : World} {base n : Nat} {v : Value} {xs : List Value} (h : w.ownsRow base 35 2 v n xs) {g : Nat} (hg : v.ownBlock = some g) : base ≤ g := by
  rcases h.2 with ⟨hv, _⟩ | ⟨g', cap, cur, hv, hb, _⟩
  · rw [hv] at hg; simp [Value.ownBlock] at hg
  · rw [hv] at hg
    simp [Value.ownBlock] at hg
    omega

theorem Rp.grownB {w w' : World} {base n c : Nat} {a : Option Addr} {ps : List Pc} {row : Option Nat} (h : Rp w a n c ps) (hg : w.grownBy w' row) (hlt : ∀ b off, a = some ⟨b, off, none⟩ → b < base) (hrow : ∀ g, row = some g → base ≤ g) : Rp w' a n c ps := by
  refine ⟨h.len, h.cap, h.max, h.nil, fun hn => ?_⟩
  obtain ⟨b, off, rfl, hc⟩ := h.cells hn
  refine ⟨b, off, rfl, fun i hi => ?_⟩
  obtain ⟨h0, h1⟩ := hc i hi
  have hb := hlt b off rfl
  have hne : some b ≠ row := fun e => by have := hrow b e.symm; omega
  exact ⟨hg.cell h0 hne, hg.cell h1 hne⟩

theorem rowE_ok (ps : List Pc) (h : ps.length ≤ 60) (hp : pcsB ps = true) (hr : rcB ps = true) : (rowE ps).2 = 0 ∧ (rowE ps).1.length = ps.length := by
  obtain ⟨h1, h2, _, _⟩ := rowE_yes ps h hp hr
  rw [h1]
  exact ⟨rfl, h2⟩

theorem rowE_not (ps : List Pc) (h : ps.length ≤ 60) (hp : pcsB ps = true) (hr : rcB ps = false) : (rowE ps).2 = 10 := by rw [rowE_no ps h hp hr]

set_option maxRecDepth 100000 in
set_option maxHeartbeats 8000000 in
theorem law6_zero (most gone : Int) (n : Nat) (w : World) (hm1 : -9223372036854775808 ≤ most) (hm2 : most ≤ 9223372036854775807) (hg1 : -9223372036854775808 ≤ gone) (hg2 : gone ≤ 9223372036854775807) (hpk : pk most 10 = n) (hn10 : n < 10) (hc : n = 0) :
    Calls Try.prog 6 #[.int .i64 most, .int .i64 gone] w fun e w' => e = .returned (.bool true) ∧ Below w.heap.size w w' := by
  obtain ⟨hl, hl55, hpB, hrc⟩ := eu_at n hn10
  obtain ⟨l, hle⟩ : ∃ l, (setL n).length = l := ⟨_, rfl⟩
  rw [hle] at hl hl55
  obtain ⟨Q, hQ⟩ : ∃ Q, (n + 1) * (n + 2) = Q := ⟨_, rfl⟩
  rw [hQ] at hl
  have hQb : Q ≤ 110 := by rw [← hQ]; exact Nat.le_trans (Nat.mul_le_mul (show n + 1 ≤ 10 by omega) (show n + 2 ≤ 11 by omega)) (by omega)
  have hl1 : 1 ≤ l := by
    have : 1 * 2 ≤ (n + 1) * (n + 2) := Nat.mul_le_mul (by omega) (by omega)
    omega
  have hQe : ((n : Int) + 1) * ((n : Int) + 2) = (Q : Int) := by rw [← hQ]; simp
  have hQ2 : (Q : Int) / 2 = (l : Int) := by omega
  have hll : ((l : Int) != (l : Int)) = false := by simp
  have hrt : rcB (setL n) = true := by rw [hrc]; simp [hc]
  obtain ⟨hE, hR⟩ := rowE_ok (setL n) (by omega) hpB hrt
  rw [hle] at hR
  have HE := hide hE
  have HR := hide hR
  have HLE := hide hle
  have HPK := hide hpk
  have hmod : (n : Int) % 2 = ((n % 2 : Nat) : Int) := by omega
  have z1 : ((n : Int) % 2 == 0) = true := by simp [hc]
  have z2 : ¬ (0 : Int) < (n : Int) := by omega
  clear hmod
  have HN0 : Hid (n < 10) := hide hn10
  clear hE hR hle hpk hc hrt hrc hpB hl hQ 
  go_enter Try.func6, Try.ntmps6
  go_wp2_with fail
  refine (picked_any most 10 w hm1 hm2 (by omega) (by omega)).mono ?_
  rintro e w1 ⟨rfl, hw1⟩
  subst w1
  rw [HPK.out]
  go_wp2_with fail
  refine (Set_any n (by omega) w).mono ?_
  rw [HLE.out]
  rintro e w2 ⟨a2, c2, rfl, hO2, hB2⟩
  have hR2 := Rp.of_own hO2
  have hc2 := hR2.max
  have hc2' := hR2.cap
  unfold maxLen at hc2
  have HR2 := hide hR2
  have HB2 := hide hB2
  have HBK : Hid (∀ b off, a2 = some ⟨b, off, none⟩ → b < w2.heap.size) := hide (fun b off e => by
    obtain ⟨b', off', e', hcc⟩ := hR2.cells (by omega)
    rw [e] at e'
    simp only [Option.some.injEq, Addr.mk.injEq] at e'
    obtain ⟨rfl, rfl, _⟩ := e'
    exact World.block_lt_of_cell? w2 _ (hcc 0 (by omega)).1)
  obtain ⟨b2, o2, ha2, -⟩ := hR2.cells (by omega)
  subst ha2
  clear hO2 hB2 hR2
  go_wp2_with fail
  refine (Row_any _ l c2 (setL n) w2 HR2.out).mono ?_
  rw [HE.out, HR.out]
  rintro e w3 ⟨a3, c3, rfl, -, hB3⟩
  have HR3 := hide (HR2.out.mono hB3)
  have HBK3 : Hid (b2 < w3.heap.size) := hide (Nat.lt_of_lt_of_le (HBK.out b2 o2 rfl) hB3.size)
  have HB3 := hide (HB2.out.trans (hB3.mono HB2.out.size))
  clear hB3
  go_wp2_with fail
  refine (picked_any gone l w3 hg1 hg2 hl1 (by omega)).mono ?_
  rintro e w4 ⟨rfl, hw4⟩
  subst w4
  have hk := pk_lt gone l hl1
  obtain ⟨k, hke⟩ : ∃ k, pk gone l = k := ⟨_, rfl⟩
  rw [hke] at hk
  rw [hke]
  have hkI : (k : Int) ≤ (l : Int) := by omega
  have hkcI : (k : Int) ≤ (c2 : Int) := by omega
  obtain ⟨k1, hk1⟩ : ∃ k1, k + 1 = k1 := ⟨_, rfl⟩
  have hk1e : (k : Int) + 1 = (k1 : Int) := by omega
  have hk1I : (k1 : Int) ≤ (l : Int) := by omega
  have HU := hide (HR3.out.upto (k := k) (by omega))
  have hF := HR3.out.from (k := k1) (by omega)
  have HK1 := hide hk1
  clear hke hk1
  go_wp2_with (at_builtin; refine wpList_append_rp w3 rfl _ _ rfl w3.heap.size _ 0 [] rfl (World.ownsRow_nil _ _ _ _) _ k c2 ((setL n).take k) rfl HU.out (by omega) (Nat.le_refl _) ?_)
  intro v5 w5 hO5 hG5
  have HF5 := hide (Rp.grownB (base := w3.heap.size) hF hG5 (fun b off e => by
    by_cases hck : c2 = k1
    · rw [if_pos hck] at e
      simp only [Option.some.injEq, Addr.mk.injEq] at e
      rw [← e.1]; exact HBK3.out
    · rw [if_neg hck] at e
      simp only [Option.map_some, Addr.add_lit, Option.some.injEq, Addr.mk.injEq] at e
      rw [← e.1]; exact HBK3.out) (fun g hg => by simp [Value.ownBlock] at hg))
  have HB5 := hide (HB3.out.grown hG5 HB3.out.size (fun g hg => by simp [Value.ownBlock] at hg))
  have HO5 := hide hO5
  have hs5 : w3.heap.size ≤ w5.heap.size := hG5.size
  have hs3 : w.heap.size ≤ w3.heap.size := HB3.out.size
  clear hF hO5 hG5 HU
  by_cases hck : c2 = k1
  · skip
    rw [if_pos hck, hck, Nat.sub_self, show l - k1 = 0 by omega] at HF5
    subst hck
    go_wp2_with (at_builtin; refine wpList_append_rp w5 rfl _ _ rfl w3.heap.size _ k ((setL n).take k) rfl HO5.out _ _ _ _ rfl HF5.out (by omega) hs5 ?_)
    intro v6 w6 hO6 hG6
    have HB6 := hide (HB5.out.grown hG6 HB5.out.size (fun g hg => Nat.le_trans hs3 (own_base35 HO5.out hg)))
    obtain ⟨a6, c6, hv6⟩ := own_slice hO6
    subst hv6
    have HLS : Hid ((setL n).take k ++ (setL n).drop c2 = lessOf n k) := hide (by rw [← HK1.out]; rfl)
    (try rw [Nat.add_zero] at hO6)
    rw [HLS.out] at hO6
    have HO6 := hide (Rp.of_own hO6)
    clear hO6 hG6
    go_wp2_with fail
    refine (Row_any a6 k c6 (lessOf n k) w6 HO6.out).mono ?_
    rintro e w7 ⟨a7, c7, rfl, -, hB7⟩
    have HB7 := hide (HB6.out.trans (hB7.mono HB6.out.size))
    clear hB7
    obtain ⟨E7, hE7⟩ : ∃ E, (rowE (lessOf n k)).2 = E := ⟨_, rfl⟩
    obtain ⟨R7, hR7⟩ : ∃ E, (rowE (lessOf n k)).1.length = E := ⟨_, rfl⟩
    rw [hE7, hR7]
    clear hE7 hR7
    go_wp2_with fail
    go_ret
    exact ⟨rfl, HB7.out⟩
  · rw [if_neg hck] at HF5
    simp only [Option.map_some, Addr.add_lit] at HF5
    go_wp2_with (at_builtin; refine wpList_append_rp w5 rfl _ _ rfl w3.heap.size _ k ((setL n).take k) rfl HO5.out _ _ _ _ rfl HF5.out (by omega) hs5 ?_)
    intro v6 w6 hO6 hG6
    have HB6 := hide (HB5.out.grown hG6 HB5.out.size (fun g hg => Nat.le_trans hs3 (own_base35 HO5.out hg)))
    obtain ⟨a6, c6, hv6⟩ := own_slice hO6
    subst hv6
    have HLS : Hid ((setL n).take k ++ (setL n).drop k1 = lessOf n k) := hide (by rw [← HK1.out]; rfl)
    obtain ⟨ls, hls⟩ : ∃ ls, k + (l - k1) = ls := ⟨_, rfl⟩
    rw [HLS.out, hls] at hO6
    rw [hls]
    have HO6 := hide (Rp.of_own hO6)
    clear hO6 hG6
    go_wp2_with fail
    refine (Row_any a6 ls c6 (lessOf n k) w6 HO6.out).mono ?_
    rintro e w7 ⟨a7, c7, rfl, -, hB7⟩
    have HB7 := hide (HB6.out.trans (hB7.mono HB6.out.size))
    clear hB7
    obtain ⟨E7, hE7⟩ : ∃ E, (rowE (lessOf n k)).2 = E := ⟨_, rfl⟩
    obtain ⟨R7, hR7⟩ : ∃ E, (rowE (lessOf n k)).1.length = E := ⟨_, rfl⟩
    rw [hE7, hR7]
    clear hE7 hR7
    go_wp2_with fail
    go_ret
    exact ⟨rfl, HB7.out⟩

set_option maxRecDepth 100000 in
set_option maxHeartbeats 8000000 in
theorem law6_even (most gone : Int) (n : Nat) (w : World) (hm1 : -9223372036854775808 ≤ most) (hm2 : most ≤ 9223372036854775807) (hg1 : -9223372036854775808 ≤ gone) (hg2 : gone ≤ 9223372036854775807) (hpk : pk most 10 = n) (hn10 : n < 10) (hc : n % 2 = 0) (h0 : 0 < n) :
    Calls Try.prog 6 #[.int .i64 most, .int .i64 gone] w fun e w' => e = .returned (.bool true) ∧ Below w.heap.size w w' := by
  obtain ⟨hl, hl55, hpB, hrc⟩ := eu_at n hn10
  obtain ⟨l, hle⟩ : ∃ l, (setL n).length = l := ⟨_, rfl⟩
  rw [hle] at hl hl55
  obtain ⟨Q, hQ⟩ : ∃ Q, (n + 1) * (n + 2) = Q := ⟨_, rfl⟩
  rw [hQ] at hl
  have hQb : Q ≤ 110 := by rw [← hQ]; exact Nat.le_trans (Nat.mul_le_mul (show n + 1 ≤ 10 by omega) (show n + 2 ≤ 11 by omega)) (by omega)
  have hl1 : 1 ≤ l := by
    have : 1 * 2 ≤ (n + 1) * (n + 2) := Nat.mul_le_mul (by omega) (by omega)
    omega
  have hQe : ((n : Int) + 1) * ((n : Int) + 2) = (Q : Int) := by rw [← hQ]; simp
  have hQ2 : (Q : Int) / 2 = (l : Int) := by omega
  have hll : ((l : Int) != (l : Int)) = false := by simp
  have hrt : rcB (setL n) = true := by rw [hrc]; simp [hc]
  obtain ⟨hE, hR⟩ := rowE_ok (setL n) (by omega) hpB hrt
  rw [hle] at hR
  have HE := hide hE
  have HR := hide hR
  have HLE := hide hle
  have HPK := hide hpk
  have hmod : (n : Int) % 2 = ((n % 2 : Nat) : Int) := by omega
  have z1 : ((n : Int) % 2 == 0) = true := by rw [hmod, hc]; rfl
  have z2 : (0 : Int) < (n : Int) := by omega
  clear hmod
  have HN0 : Hid (n < 10) := hide hn10
  have HC := hide hc
  have HC0 := hide h0
  clear hE hR hle hpk hc hrt hrc hpB hl hQ h0
  go_enter Try.func6, Try.ntmps6
  go_wp2_with fail
  refine (picked_any most 10 w hm1 hm2 (by omega) (by omega)).mono ?_
  rintro e w1 ⟨rfl, hw1⟩
  subst w1
  rw [HPK.out]
  go_wp2_with fail
  refine (Set_any n (by omega) w).mono ?_
  rw [HLE.out]
  rintro e w2 ⟨a2, c2, rfl, hO2, hB2⟩
  have hR2 := Rp.of_own hO2
  have hc2 := hR2.max
  have hc2' := hR2.cap
  unfold maxLen at hc2
  have HR2 := hide hR2
  have HB2 := hide hB2
  have HBK : Hid (∀ b off, a2 = some ⟨b, off, none⟩ → b < w2.heap.size) := hide (fun b off e => by
    obtain ⟨b', off', e', hcc⟩ := hR2.cells (by omega)
    rw [e] at e'
    simp only [Option.some.injEq, Addr.mk.injEq] at e'
    obtain ⟨rfl, rfl, _⟩ := e'
    exact World.block_lt_of_cell? w2 _ (hcc 0 (by omega)).1)
  obtain ⟨b2, o2, ha2, -⟩ := hR2.cells (by omega)
  subst ha2
  clear hO2 hB2 hR2
  go_wp2_with fail
  refine (Row_any _ l c2 (setL n) w2 HR2.out).mono ?_
  rw [HE.out, HR.out]
  rintro e w3 ⟨a3, c3, rfl, -, hB3⟩
  have HR3 := hide (HR2.out.mono hB3)
  have HBK3 : Hid (b2 < w3.heap.size) := hide (Nat.lt_of_lt_of_le (HBK.out b2 o2 rfl) hB3.size)
  have HB3 := hide (HB2.out.trans (hB3.mono HB2.out.size))
  clear hB3
  go_wp2_with fail
  refine (picked_any gone l w3 hg1 hg2 hl1 (by omega)).mono ?_
  rintro e w4 ⟨rfl, hw4⟩
  subst w4
  have hk := pk_lt gone l hl1
  obtain ⟨k, hke⟩ : ∃ k, pk gone l = k := ⟨_, rfl⟩
  rw [hke] at hk
  rw [hke]
  have hkI : (k : Int) ≤ (l : Int) := by omega
  have hkcI : (k : Int) ≤ (c2 : Int) := by omega
  obtain ⟨k1, hk1⟩ : ∃ k1, k + 1 = k1 := ⟨_, rfl⟩
  have hk1e : (k : Int) + 1 = (k1 : Int) := by omega
  have hk1I : (k1 : Int) ≤ (l : Int) := by omega
  have HU := hide (HR3.out.upto (k := k) (by omega))
  have hF := HR3.out.from (k := k1) (by omega)
  have HK1 := hide hk1
  clear hke hk1
  go_wp2_with (at_builtin; refine wpList_append_rp w3 rfl _ _ rfl w3.heap.size _ 0 [] rfl (World.ownsRow_nil _ _ _ _) _ k c2 ((setL n).take k) rfl HU.out (by omega) (Nat.le_refl _) ?_)
  intro v5 w5 hO5 hG5
  have HF5 := hide (Rp.grownB (base := w3.heap.size) hF hG5 (fun b off e => by
    by_cases hck : c2 = k1
    · rw [if_pos hck] at e
      simp only [Option.some.injEq, Addr.mk.injEq] at e
      rw [← e.1]; exact HBK3.out
    · rw [if_neg hck] at e
      simp only [Option.map_some, Addr.add_lit, Option.some.injEq, Addr.mk.injEq] at e
      rw [← e.1]; exact HBK3.out) (fun g hg => by simp [Value.ownBlock] at hg))
  have HB5 := hide (HB3.out.grown hG5 HB3.out.size (fun g hg => by simp [Value.ownBlock] at hg))
  have HO5 := hide hO5
  have hs5 : w3.heap.size ≤ w5.heap.size := hG5.size
  have hs3 : w.heap.size ≤ w3.heap.size := HB3.out.size
  clear hF hO5 hG5 HU
  by_cases hck : c2 = k1
  · skip
    rw [if_pos hck, hck, Nat.sub_self, show l - k1 = 0 by omega] at HF5
    subst hck
    go_wp2_with (at_builtin; refine wpList_append_rp w5 rfl _ _ rfl w3.heap.size _ k ((setL n).take k) rfl HO5.out _ _ _ _ rfl HF5.out (by omega) hs5 ?_)
    intro v6 w6 hO6 hG6
    have HB6 := hide (HB5.out.grown hG6 HB5.out.size (fun g hg => Nat.le_trans hs3 (own_base35 HO5.out hg)))
    obtain ⟨a6, c6, hv6⟩ := own_slice hO6
    subst hv6
    have HLS : Hid ((setL n).take k ++ (setL n).drop c2 = lessOf n k) := hide (by rw [← HK1.out]; rfl)
    (try rw [Nat.add_zero] at hO6)
    rw [HLS.out] at hO6
    have HO6 := hide (Rp.of_own hO6)
    clear hO6 hG6
    go_wp2_with fail
    refine (Row_any a6 k c6 (lessOf n k) w6 HO6.out).mono ?_
    obtain ⟨hrl, hpl⟩ := eu_less_at n k HN0.out HC.out HC0.out (by rw [HLE.out]; exact hk)
    have hlen6 := HO6.out.len
    obtain ⟨hE6, hR6⟩ := rowE_ok (lessOf n k) (by rw [hlen6]; omega) hpl hrl
    rw [hE6, hR6, hlen6]
    have hlsl : ((k : Int) == (k : Int)) = true := by simp
    clear hrl hpl hlen6 hE6 hR6
    rintro e w7 ⟨a7, c7, rfl, -, hB7⟩
    have HB7 := hide (HB6.out.trans (hB7.mono HB6.out.size))
    clear hB7
    go_wp2_with fail
    go_ret
    exact ⟨rfl, HB7.out⟩
  · rw [if_neg hck] at HF5
    simp only [Option.map_some, Addr.add_lit] at HF5
    go_wp2_with (at_builtin; refine wpList_append_rp w5 rfl _ _ rfl w3.heap.size _ k ((setL n).take k) rfl HO5.out _ _ _ _ rfl HF5.out (by omega) hs5 ?_)
    intro v6 w6 hO6 hG6
    have HB6 := hide (HB5.out.grown hG6 HB5.out.size (fun g hg => Nat.le_trans hs3 (own_base35 HO5.out hg)))
    obtain ⟨a6, c6, hv6⟩ := own_slice hO6
    subst hv6
    have HLS : Hid ((setL n).take k ++ (setL n).drop k1 = lessOf n k) := hide (by rw [← HK1.out]; rfl)
    obtain ⟨ls, hls⟩ : ∃ ls, k + (l - k1) = ls := ⟨_, rfl⟩
    rw [HLS.out, hls] at hO6
    rw [hls]
    have HO6 := hide (Rp.of_own hO6)
    clear hO6 hG6
    go_wp2_with fail
    refine (Row_any a6 ls c6 (lessOf n k) w6 HO6.out).mono ?_
    obtain ⟨hrl, hpl⟩ := eu_less_at n k HN0.out HC.out HC0.out (by rw [HLE.out]; exact hk)
    have hlen6 := HO6.out.len
    obtain ⟨hE6, hR6⟩ := rowE_ok (lessOf n k) (by rw [hlen6]; omega) hpl hrl
    rw [hE6, hR6, hlen6]
    have hlsl : ((ls : Int) == (ls : Int)) = true := by simp
    clear hrl hpl hlen6 hE6 hR6
    rintro e w7 ⟨a7, c7, rfl, -, hB7⟩
    have HB7 := hide (HB6.out.trans (hB7.mono HB6.out.size))
    clear hB7
    go_wp2_with fail
    go_ret
    exact ⟨rfl, HB7.out⟩

set_option maxRecDepth 100000 in
set_option maxHeartbeats 8000000 in
theorem law6_one (most gone : Int) (n : Nat) (w : World) (hm1 : -9223372036854775808 ≤ most) (hm2 : most ≤ 9223372036854775807) (hg1 : -9223372036854775808 ≤ gone) (hg2 : gone ≤ 9223372036854775807) (hpk : pk most 10 = n) (hn10 : n < 10) (hc : n = 1) :
    Calls Try.prog 6 #[.int .i64 most, .int .i64 gone] w fun e w' => e = .returned (.bool true) ∧ Below w.heap.size w w' := by
  obtain ⟨hl, hl55, hpB, hrc⟩ := eu_at n hn10
  obtain ⟨l, hle⟩ : ∃ l, (setL n).length = l := ⟨_, rfl⟩
  rw [hle] at hl hl55
  obtain ⟨Q, hQ⟩ : ∃ Q, (n + 1) * (n + 2) = Q := ⟨_, rfl⟩
  rw [hQ] at hl
  have hQb : Q ≤ 110 := by rw [← hQ]; exact Nat.le_trans (Nat.mul_le_mul (show n + 1 ≤ 10 by omega) (show n + 2 ≤ 11 by omega)) (by omega)
  have hl1 : 1 ≤ l := by
    have : 1 * 2 ≤ (n + 1) * (n + 2) := Nat.mul_le_mul (by omega) (by omega)
    omega
  have hQe : ((n : Int) + 1) * ((n : Int) + 2) = (Q : Int) := by rw [← hQ]; simp
  have hQ2 : (Q : Int) / 2 = (l : Int) := by omega
  have hll : ((l : Int) != (l : Int)) = false := by simp
  have hrt : rcB (setL n) = true := by rw [hrc]; simp [hc]
  obtain ⟨hE, hR⟩ := rowE_ok (setL n) (by omega) hpB hrt
  rw [hle] at hR
  have HE := hide hE
  have HR := hide hR
  have HLE := hide hle
  have HPK := hide hpk
  have hmod : (n : Int) % 2 = ((n % 2 : Nat) : Int) := by omega
  have z1 : ((n : Int) % 2 == 0) = false := by rw [hc]; rfl
  have z3 : ((n : Int) == 1) = true := by simp [hc]
  clear hmod
  have HN0 : Hid (n < 10) := hide hn10
  clear hE hR hle hpk hc hrt hrc hpB hl hQ 
  go_enter Try.func6, Try.ntmps6
  go_wp2_with fail
  refine (picked_any most 10 w hm1 hm2 (by omega) (by omega)).mono ?_
  rintro e w1 ⟨rfl, hw1⟩
  subst w1
  rw [HPK.out]
  go_wp2_with fail
  refine (Set_any n (by omega) w).mono ?_
  rw [HLE.out]
  rintro e w2 ⟨a2, c2, rfl, hO2, hB2⟩
  have hR2 := Rp.of_own hO2
  have hc2 := hR2.max
  have hc2' := hR2.cap
  unfold maxLen at hc2
  have HR2 := hide hR2
  have HB2 := hide hB2
  have HBK : Hid (∀ b off, a2 = some ⟨b, off, none⟩ → b < w2.heap.size) := hide (fun b off e => by
    obtain ⟨b', off', e', hcc⟩ := hR2.cells (by omega)
    rw [e] at e'
    simp only [Option.some.injEq, Addr.mk.injEq] at e'
    obtain ⟨rfl, rfl, _⟩ := e'
    exact World.block_lt_of_cell? w2 _ (hcc 0 (by omega)).1)
  obtain ⟨b2, o2, ha2, -⟩ := hR2.cells (by omega)
  subst ha2
  clear hO2 hB2 hR2
  go_wp2_with fail
  refine (Row_any _ l c2 (setL n) w2 HR2.out).mono ?_
  rw [HE.out, HR.out]
  rintro e w3 ⟨a3, c3, rfl, -, hB3⟩
  have HR3 := hide (HR2.out.mono hB3)
  have HBK3 : Hid (b2 < w3.heap.size) := hide (Nat.lt_of_lt_of_le (HBK.out b2 o2 rfl) hB3.size)
  have HB3 := hide (HB2.out.trans (hB3.mono HB2.out.size))
  clear hB3
  go_wp2_with fail
  refine (picked_any gone l w3 hg1 hg2 hl1 (by omega)).mono ?_
  rintro e w4 ⟨rfl, hw4⟩
  subst w4
  have hk := pk_lt gone l hl1
  obtain ⟨k, hke⟩ : ∃ k, pk gone l = k := ⟨_, rfl⟩
  rw [hke] at hk
  rw [hke]
  have hkI : (k : Int) ≤ (l : Int) := by omega
  have hkcI : (k : Int) ≤ (c2 : Int) := by omega
  obtain ⟨k1, hk1⟩ : ∃ k1, k + 1 = k1 := ⟨_, rfl⟩
  have hk1e : (k : Int) + 1 = (k1 : Int) := by omega
  have hk1I : (k1 : Int) ≤ (l : Int) := by omega
  have HU := hide (HR3.out.upto (k := k) (by omega))
  have hF := HR3.out.from (k := k1) (by omega)
  have HK1 := hide hk1
  clear hke hk1
  go_wp2_with (at_builtin; refine wpList_append_rp w3 rfl _ _ rfl w3.heap.size _ 0 [] rfl (World.ownsRow_nil _ _ _ _) _ k c2 ((setL n).take k) rfl HU.out (by omega) (Nat.le_refl _) ?_)
  intro v5 w5 hO5 hG5
  have HF5 := hide (Rp.grownB (base := w3.heap.size) hF hG5 (fun b off e => by
    by_cases hck : c2 = k1
    · rw [if_pos hck] at e
      simp only [Option.some.injEq, Addr.mk.injEq] at e
      rw [← e.1]; exact HBK3.out
    · rw [if_neg hck] at e
      simp only [Option.map_some, Addr.add_lit, Option.some.injEq, Addr.mk.injEq] at e
      rw [← e.1]; exact HBK3.out) (fun g hg => by simp [Value.ownBlock] at hg))
  have HB5 := hide (HB3.out.grown hG5 HB3.out.size (fun g hg => by simp [Value.ownBlock] at hg))
  have HO5 := hide hO5
  have hs5 : w3.heap.size ≤ w5.heap.size := hG5.size
  have hs3 : w.heap.size ≤ w3.heap.size := HB3.out.size
  clear hF hO5 hG5 HU
  by_cases hck : c2 = k1
  · skip
    rw [if_pos hck, hck, Nat.sub_self, show l - k1 = 0 by omega] at HF5
    subst hck
    go_wp2_with (at_builtin; refine wpList_append_rp w5 rfl _ _ rfl w3.heap.size _ k ((setL n).take k) rfl HO5.out _ _ _ _ rfl HF5.out (by omega) hs5 ?_)
    intro v6 w6 hO6 hG6
    have HB6 := hide (HB5.out.grown hG6 HB5.out.size (fun g hg => Nat.le_trans hs3 (own_base35 HO5.out hg)))
    obtain ⟨a6, c6, hv6⟩ := own_slice hO6
    subst hv6
    have HLS : Hid ((setL n).take k ++ (setL n).drop c2 = lessOf n k) := hide (by rw [← HK1.out]; rfl)
    (try rw [Nat.add_zero] at hO6)
    rw [HLS.out] at hO6
    have HO6 := hide (Rp.of_own hO6)
    clear hO6 hG6
    go_wp2_with fail
    refine (Row_any a6 k c6 (lessOf n k) w6 HO6.out).mono ?_
    rintro e w7 ⟨a7, c7, rfl, -, hB7⟩
    have HB7 := hide (HB6.out.trans (hB7.mono HB6.out.size))
    clear hB7
    obtain ⟨E7, hE7⟩ : ∃ E, (rowE (lessOf n k)).2 = E := ⟨_, rfl⟩
    obtain ⟨R7, hR7⟩ : ∃ E, (rowE (lessOf n k)).1.length = E := ⟨_, rfl⟩
    rw [hE7, hR7]
    clear hE7 hR7
    go_wp2_with fail
    go_ret
    exact ⟨rfl, HB7.out⟩
  · rw [if_neg hck] at HF5
    simp only [Option.map_some, Addr.add_lit] at HF5
    go_wp2_with (at_builtin; refine wpList_append_rp w5 rfl _ _ rfl w3.heap.size _ k ((setL n).take k) rfl HO5.out _ _ _ _ rfl HF5.out (by omega) hs5 ?_)
    intro v6 w6 hO6 hG6
    have HB6 := hide (HB5.out.grown hG6 HB5.out.size (fun g hg => Nat.le_trans hs3 (own_base35 HO5.out hg)))
    obtain ⟨a6, c6, hv6⟩ := own_slice hO6
    subst hv6
    have HLS : Hid ((setL n).take k ++ (setL n).drop k1 = lessOf n k) := hide (by rw [← HK1.out]; rfl)
    obtain ⟨ls, hls⟩ : ∃ ls, k + (l - k1) = ls := ⟨_, rfl⟩
    rw [HLS.out, hls] at hO6
    rw [hls]
    have HO6 := hide (Rp.of_own hO6)
    clear hO6 hG6
    go_wp2_with fail
    refine (Row_any a6 ls c6 (lessOf n k) w6 HO6.out).mono ?_
    rintro e w7 ⟨a7, c7, rfl, -, hB7⟩
    have HB7 := hide (HB6.out.trans (hB7.mono HB6.out.size))
    clear hB7
    obtain ⟨E7, hE7⟩ : ∃ E, (rowE (lessOf n k)).2 = E := ⟨_, rfl⟩
    obtain ⟨R7, hR7⟩ : ∃ E, (rowE (lessOf n k)).1.length = E := ⟨_, rfl⟩
    rw [hE7, hR7]
    clear hE7 hR7
    go_wp2_with fail
    go_ret
    exact ⟨rfl, HB7.out⟩

set_option maxRecDepth 100000 in
set_option maxHeartbeats 8000000 in
theorem law6_odd (most gone : Int) (n : Nat) (w : World) (hm1 : -9223372036854775808 ≤ most) (hm2 : most ≤ 9223372036854775807) (hg1 : -9223372036854775808 ≤ gone) (hg2 : gone ≤ 9223372036854775807) (hpk : pk most 10 = n) (hn10 : n < 10) (hc : n % 2 = 1) (h0 : 1 < n) :
    Calls Try.prog 6 #[.int .i64 most, .int .i64 gone] w fun e w' => e = .returned (.bool true) ∧ Below w.heap.size w w' := by
  obtain ⟨hl, hl55, hpB, hrc⟩ := eu_at n hn10
  obtain ⟨l, hle⟩ : ∃ l, (setL n).length = l := ⟨_, rfl⟩
  rw [hle] at hl hl55
  obtain ⟨Q, hQ⟩ : ∃ Q, (n + 1) * (n + 2) = Q := ⟨_, rfl⟩
  rw [hQ] at hl
  have hQb : Q ≤ 110 := by rw [← hQ]; exact Nat.le_trans (Nat.mul_le_mul (show n + 1 ≤ 10 by omega) (show n + 2 ≤ 11 by omega)) (by omega)
  have hl1 : 1 ≤ l := by
    have : 1 * 2 ≤ (n + 1) * (n + 2) := Nat.mul_le_mul (by omega) (by omega)
    omega
  have hQe : ((n : Int) + 1) * ((n : Int) + 2) = (Q : Int) := by rw [← hQ]; simp
  have hQ2 : (Q : Int) / 2 = (l : Int) := by omega
  have hll : ((l : Int) != (l : Int)) = false := by simp
  have hrt : rcB (setL n) = false := by rw [hrc]; simp [hc]; omega
  have hE := rowE_not (setL n) (by omega) hpB hrt
  obtain ⟨rl, hR⟩ : ∃ rl, (rowE (setL n)).1.length = rl := ⟨_, rfl⟩
  have HE := hide hE
  have HR := hide hR
  have HLE := hide hle
  have HPK := hide hpk
  have hmod : (n : Int) % 2 = ((n % 2 : Nat) : Int) := by omega
  have z1 : ((n : Int) % 2 == 0) = false := by rw [hmod, hc]; rfl
  have z3 : ((n : Int) == 1) = false := by simp; omega
  clear hmod
  have HN0 : Hid (n < 10) := hide hn10
  clear hE hR hle hpk hc hrt hrc hpB hl hQ h0
  go_enter Try.func6, Try.ntmps6
  go_wp2_with fail
  refine (picked_any most 10 w hm1 hm2 (by omega) (by omega)).mono ?_
  rintro e w1 ⟨rfl, hw1⟩
  subst w1
  rw [HPK.out]
  go_wp2_with fail
  refine (Set_any n (by omega) w).mono ?_
  rw [HLE.out]
  rintro e w2 ⟨a2, c2, rfl, hO2, hB2⟩
  have hR2 := Rp.of_own hO2
  have hc2 := hR2.max
  have hc2' := hR2.cap
  unfold maxLen at hc2
  have HR2 := hide hR2
  have HB2 := hide hB2
  have HBK : Hid (∀ b off, a2 = some ⟨b, off, none⟩ → b < w2.heap.size) := hide (fun b off e => by
    obtain ⟨b', off', e', hcc⟩ := hR2.cells (by omega)
    rw [e] at e'
    simp only [Option.some.injEq, Addr.mk.injEq] at e'
    obtain ⟨rfl, rfl, _⟩ := e'
    exact World.block_lt_of_cell? w2 _ (hcc 0 (by omega)).1)
  obtain ⟨b2, o2, ha2, -⟩ := hR2.cells (by omega)
  subst ha2
  clear hO2 hB2 hR2
  go_wp2_with fail
  refine (Row_any _ l c2 (setL n) w2 HR2.out).mono ?_
  rw [HE.out, HR.out]
  rintro e w3 ⟨a3, c3, rfl, -, hB3⟩
  have HR3 := hide (HR2.out.mono hB3)
  have HBK3 : Hid (b2 < w3.heap.size) := hide (Nat.lt_of_lt_of_le (HBK.out b2 o2 rfl) hB3.size)
  have HB3 := hide (HB2.out.trans (hB3.mono HB2.out.size))
  clear hB3
  go_wp2_with fail
  refine (picked_any gone l w3 hg1 hg2 hl1 (by omega)).mono ?_
  rintro e w4 ⟨rfl, hw4⟩
  subst w4
  have hk := pk_lt gone l hl1
  obtain ⟨k, hke⟩ : ∃ k, pk gone l = k := ⟨_, rfl⟩
  rw [hke] at hk
  rw [hke]
  have hkI : (k : Int) ≤ (l : Int) := by omega
  have hkcI : (k : Int) ≤ (c2 : Int) := by omega
  obtain ⟨k1, hk1⟩ : ∃ k1, k + 1 = k1 := ⟨_, rfl⟩
  have hk1e : (k : Int) + 1 = (k1 : Int) := by omega
  have hk1I : (k1 : Int) ≤ (l : Int) := by omega
  have HU := hide (HR3.out.upto (k := k) (by omega))
  have hF := HR3.out.from (k := k1) (by omega)
  have HK1 := hide hk1
  clear hke hk1
  go_wp2_with (at_builtin; refine wpList_append_rp w3 rfl _ _ rfl w3.heap.size _ 0 [] rfl (World.ownsRow_nil _ _ _ _) _ k c2 ((setL n).take k) rfl HU.out (by omega) (Nat.le_refl _) ?_)
  intro v5 w5 hO5 hG5
  have HF5 := hide (Rp.grownB (base := w3.heap.size) hF hG5 (fun b off e => by
    by_cases hck : c2 = k1
    · rw [if_pos hck] at e
      simp only [Option.some.injEq, Addr.mk.injEq] at e
      rw [← e.1]; exact HBK3.out
    · rw [if_neg hck] at e
      simp only [Option.map_some, Addr.add_lit, Option.some.injEq, Addr.mk.injEq] at e
      rw [← e.1]; exact HBK3.out) (fun g hg => by simp [Value.ownBlock] at hg))
  have HB5 := hide (HB3.out.grown hG5 HB3.out.size (fun g hg => by simp [Value.ownBlock] at hg))
  have HO5 := hide hO5
  have hs5 : w3.heap.size ≤ w5.heap.size := hG5.size
  have hs3 : w.heap.size ≤ w3.heap.size := HB3.out.size
  clear hF hO5 hG5 HU
  by_cases hck : c2 = k1
  · skip
    rw [if_pos hck, hck, Nat.sub_self, show l - k1 = 0 by omega] at HF5
    subst hck
    go_wp2_with (at_builtin; refine wpList_append_rp w5 rfl _ _ rfl w3.heap.size _ k ((setL n).take k) rfl HO5.out _ _ _ _ rfl HF5.out (by omega) hs5 ?_)
    intro v6 w6 hO6 hG6
    have HB6 := hide (HB5.out.grown hG6 HB5.out.size (fun g hg => Nat.le_trans hs3 (own_base35 HO5.out hg)))
    obtain ⟨a6, c6, hv6⟩ := own_slice hO6
    subst hv6
    have HLS : Hid ((setL n).take k ++ (setL n).drop c2 = lessOf n k) := hide (by rw [← HK1.out]; rfl)
    (try rw [Nat.add_zero] at hO6)
    rw [HLS.out] at hO6
    have HO6 := hide (Rp.of_own hO6)
    clear hO6 hG6
    go_wp2_with fail
    refine (Row_any a6 k c6 (lessOf n k) w6 HO6.out).mono ?_
    rintro e w7 ⟨a7, c7, rfl, -, hB7⟩
    have HB7 := hide (HB6.out.trans (hB7.mono HB6.out.size))
    clear hB7
    obtain ⟨E7, hE7⟩ : ∃ E, (rowE (lessOf n k)).2 = E := ⟨_, rfl⟩
    obtain ⟨R7, hR7⟩ : ∃ E, (rowE (lessOf n k)).1.length = E := ⟨_, rfl⟩
    rw [hE7, hR7]
    clear hE7 hR7
    go_wp2_with fail
    go_ret
    exact ⟨rfl, HB7.out⟩
  · rw [if_neg hck] at HF5
    simp only [Option.map_some, Addr.add_lit] at HF5
    go_wp2_with (at_builtin; refine wpList_append_rp w5 rfl _ _ rfl w3.heap.size _ k ((setL n).take k) rfl HO5.out _ _ _ _ rfl HF5.out (by omega) hs5 ?_)
    intro v6 w6 hO6 hG6
    have HB6 := hide (HB5.out.grown hG6 HB5.out.size (fun g hg => Nat.le_trans hs3 (own_base35 HO5.out hg)))
    obtain ⟨a6, c6, hv6⟩ := own_slice hO6
    subst hv6
    have HLS : Hid ((setL n).take k ++ (setL n).drop k1 = lessOf n k) := hide (by rw [← HK1.out]; rfl)
    obtain ⟨ls, hls⟩ : ∃ ls, k + (l - k1) = ls := ⟨_, rfl⟩
    rw [HLS.out, hls] at hO6
    rw [hls]
    have HO6 := hide (Rp.of_own hO6)
    clear hO6 hG6
    go_wp2_with fail
    refine (Row_any a6 ls c6 (lessOf n k) w6 HO6.out).mono ?_
    rintro e w7 ⟨a7, c7, rfl, -, hB7⟩
    have HB7 := hide (HB6.out.trans (hB7.mono HB6.out.size))
    clear hB7
    obtain ⟨E7, hE7⟩ : ∃ E, (rowE (lessOf n k)).2 = E := ⟨_, rfl⟩
    obtain ⟨R7, hR7⟩ : ∃ E, (rowE (lessOf n k)).1.length = E := ⟨_, rfl⟩
    rw [hE7, hR7]
    clear hE7 hR7
    go_wp2_with fail
    go_ret
    exact ⟨rfl, HB7.out⟩

theorem law6_any (most gone : Int) (w : World) (hm1 : -9223372036854775808 ≤ most) (hm2 : most ≤ 9223372036854775807) (hg1 : -9223372036854775808 ≤ gone) (hg2 : gone ≤ 9223372036854775807) :
    Calls Try.prog 6 #[.int .i64 most, .int .i64 gone] w fun e w' => e = .returned (.bool true) ∧ Below w.heap.size w w' := by
  have hn := pk_lt most 10 (by omega)
  by_cases h0 : pk most 10 = 0
  · exact law6_zero most gone _ w hm1 hm2 hg1 hg2 rfl hn h0
  · by_cases h1 : pk most 10 % 2 = 0
    · exact law6_even most gone _ w hm1 hm2 hg1 hg2 rfl hn h1 (by omega)
    · by_cases h2 : pk most 10 = 1
      · exact law6_one most gone _ w hm1 hm2 hg1 hg2 rfl hn h2
      · exact law6_odd most gone _ w hm1 hm2 hg1 hg2 rfl hn (by omega) (by omega)

end Go.Proofs.Ytjcglpnpdalcjaa
