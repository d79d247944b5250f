/-
  Chess: the places ahead of a pawn, walked. No conditions beyond those that each theorem bears.
  Chess: a castling's places, walked. No conditions beyond those that each theorem bears.
  Chess: the places between king and rook, one by one, walked. No conditions beyond those that each theorem bears.
-/
import Derived.Test.YtdmlamnonbmboaaGreatDoorV22
namespace Go.Proofs.YtdmlamnonbmboaaGreatDoor
open Go.RowKit Go.Shelf

theorem two_bits (y z j : Nat) : (2 ^ y ||| 2 ^ z).testBit j = (decide (y = j) || decide (z = j)) := by
  rw [Nat.testBit_or, Nat.testBit_two_pow, Nat.testBit_two_pow]

set_option maxRecDepth 100000 in
set_option maxHeartbeats 4000000 in
theorem ahead_any (b : Nat) (Z : List Int) (t : Nat) (k e h f : Int) (x : Nat) (h8 : 8 ≤ x) (h56 : x < 56) (w : World) (hs : Sb w b Z (t : Nat) k e h f) :
    Calls Tryz.prog 116 #[.pointer (some ⟨b, 0, none⟩), .int .i64 (x : Nat)] w fun r w' => r = .returned (.int .u64 (msk (ahB Z t x) 64 : Nat)) ∧ w' = w := by
  have hfw : pci t 8 = 8 ∨ pci t 8 = -8 := by unfold pci; split <;> omega
  have HFO := hide (forward_any t)
  have HED := hide (onEdge_any ((x : Int) - pci t 8))
  obtain ⟨y, hy⟩ : ∃ y : Nat, on1 t x = y := ⟨_, rfl⟩
  have hy1 : (x : Int) + pci t 8 = (y : Int) := by rw [← hy]; unfold on1 fw; omega
  have hy64 : y < 64 := by omega
  have HE1 := hide (empty_any b Z t k e h f y hy64 w hs)
  have HJ1 := hide (just_any y hy64)
  have hpy := pow_lt64 hy64
  obtain ⟨z, hz⟩ : ∃ z : Nat, on2 t x = z := ⟨_, rfl⟩
  have hz1 : edge ((x : Int) - pci t 8) = true → (y : Int) + pci t 8 = (z : Int) ∧ z < 64 := by
    intro he
    unfold edge at he
    simp only [Bool.or_eq_true, decide_eq_true_eq] at he
    rw [← hz]; unfold on2 fw; omega
  have HE2 : Hid (z < 64 → Calls Tryz.prog 53 #[.pointer (some ⟨b, 0, none⟩), .int .i64 (z : Nat)] w fun r w' => r = .returned (.bool (zg Z z == 0)) ∧ w' = w) := hide (fun h64 => empty_any b Z t k e h f z h64 w hs)
  have HAH : Hid (∀ j, ahB Z t x j = (zg Z y == 0 && (j == y || (edge ((x : Int) - pci t 8) && zg Z z == 0 && j == z)))) := hide (fun j => by rw [← hy, ← hz]; rfl)
  have x64 := hs.ends.1
  obtain ⟨M, hM⟩ : ∃ M, msk (ahB Z t x) 64 = M := ⟨_, rfl⟩
  have HMX : Hid (∀ v, v < 2 ^ 64 → (∀ j, j < 64 → v.testBit j = ahB Z t x j) → v = M) := hide (fun v h1 h2 => by rw [← hM]; exact msk_ext h1 h2)
  rw [hM]
  clear hM hy hz hs
  by_cases hzy : zg Z y = 0
  · have b1 : (zg Z y == 0) = true := by simp [hzy]
    rw [b1] at HE1 HAH
    cases hed : edge ((x : Int) - pci t 8) with
    | false =>
      rw [hed] at HED HAH
      have HV : Hid (2 ^ y = M) := hide (HMX.out _ (by rw [p64]; exact hpy) (fun j _ => by
        rw [HAH.out j, Nat.testBit_two_pow]
        by_cases e : y = j
        · subst e; simp
        · simp [e, Ne.symm e]))
      clear HMX HAH HE2 hz1 hed hpy
      generalize 2 ^ y = py at *
      generalize pci t 8 = F at *
      go_enter Tryz.func116, Tryz.ntmps116
      go_wp2_with (first | (go_at_call 76; refine (HFO.out _).mono ?_; rintro e w5 ⟨rfl, hw⟩; subst w5) | (go_at_call 53; refine (HE1.out).mono ?_; rintro e w5 ⟨rfl, hw⟩; subst w5) | (go_at_call 65; refine (HJ1.out _).mono ?_; rintro e w5 ⟨rfl, hw⟩; subst w5) | (go_at_call 93; refine (HED.out _).mono ?_; rintro e w5 ⟨rfl, hw⟩; subst w5))
      go_ret
      exact ⟨by rw [HV.out]; rfl, rfl⟩
    | true =>
      obtain ⟨hz2, hz64⟩ := hz1 hed
      have HE3 := hide (HE2.out hz64)
      have HJ2 := hide (just_any z hz64)
      have hpz := pow_lt64 hz64
      have hor : bits BinOp.or .u64 ((2 ^ y : Nat) : Int) ((2 ^ z : Nat) : Int) = ((2 ^ y ||| 2 ^ z : Nat) : Int) := u64_or_nat _ _ hpy hpz
      rw [hed] at HED HAH
      clear hz1 hed HE2
      by_cases hzz : zg Z z = 0
      · have b2 : (zg Z z == 0) = true := by simp [hzz]
        rw [b2] at HE3 HAH
        have HV : Hid (2 ^ y ||| 2 ^ z = M) := hide (HMX.out _ (Nat.or_lt_two_pow (by rw [p64]; exact hpy) (by rw [p64]; exact hpz)) (fun j _ => by
          rw [HAH.out j, two_bits]
          by_cases e1 : y = j
          · subst e1; simp
          · by_cases e2 : z = j
            · subst e2; simp
            · simp [e1, e2, Ne.symm e1, Ne.symm e2]))
        clear HMX HAH hpy hpz
        generalize 2 ^ y ||| 2 ^ z = pp at *
        generalize 2 ^ y = py at *
        generalize 2 ^ z = pz at *
        generalize pci t 8 = F at *
        go_enter Tryz.func116, Tryz.ntmps116
        go_upto_region 4 with (first | (go_at_call 76; refine (HFO.out _).mono ?_; rintro e w5 ⟨rfl, hw⟩; subst w5) | (go_at_call 53; refine (HE1.out).mono ?_; rintro e w5 ⟨rfl, hw⟩; subst w5))
        go_upto_region 6 with (first | (go_at_call 65; refine (HJ1.out _).mono ?_; rintro e w5 ⟨rfl, hw⟩; subst w5))
        go_wp2_with (first | (go_at_call 53; refine (HE3.out).mono ?_; rintro e w5 ⟨rfl, hw⟩; subst w5) | (go_at_call 65; refine (HJ2.out _).mono ?_; rintro e w5 ⟨rfl, hw⟩; subst w5) | (go_at_call 93; refine (HED.out _).mono ?_; rintro e w5 ⟨rfl, hw⟩; subst w5))
        go_ret
        exact ⟨by rw [HV.out]; rfl, rfl⟩
      · have b2 : (zg Z z == 0) = false := by simp [hzz]
        rw [b2] at HE3 HAH
        have HV : Hid (2 ^ y = M) := hide (HMX.out _ (by rw [p64]; exact hpy) (fun j _ => by
          rw [HAH.out j, Nat.testBit_two_pow]
          by_cases e : y = j
          · subst e; simp
          · simp [e, Ne.symm e]))
        clear HMX HAH hpy hpz hor
        generalize 2 ^ y = py at *
        generalize pci t 8 = F at *
        go_enter Tryz.func116, Tryz.ntmps116
        go_upto_region 4 with (first | (go_at_call 76; refine (HFO.out _).mono ?_; rintro e w5 ⟨rfl, hw⟩; subst w5) | (go_at_call 53; refine (HE1.out).mono ?_; rintro e w5 ⟨rfl, hw⟩; subst w5))
        go_upto_region 6 with (first | (go_at_call 65; refine (HJ1.out _).mono ?_; rintro e w5 ⟨rfl, hw⟩; subst w5))
        go_wp2_with (first | (go_at_call 53; refine (HE3.out).mono ?_; rintro e w5 ⟨rfl, hw⟩; subst w5) | (go_at_call 93; refine (HED.out _).mono ?_; rintro e w5 ⟨rfl, hw⟩; subst w5))
        go_ret
        exact ⟨by rw [HV.out]; rfl, rfl⟩
  · have b1 : (zg Z y == 0) = false := by simp [hzy]
    rw [b1] at HE1 HAH
    have HV : Hid (0 = M) := hide (HMX.out 0 (by decide) (fun j _ => by rw [HAH.out j]; simp))
    clear HMX HAH HE2 hz1 hpy
    generalize pci t 8 = F at *
    go_enter Tryz.func116, Tryz.ntmps116
    go_wp2_with (first | (go_at_call 76; refine (HFO.out _).mono ?_; rintro e w5 ⟨rfl, hw⟩; subst w5) | (go_at_call 53; refine (HE1.out).mono ?_; rintro e w5 ⟨rfl, hw⟩; subst w5))
    go_ret
    exact ⟨by rw [← HV.out]; rfl, rfl⟩

end Go.Proofs.YtdmlamnonbmboaaGreatDoor

namespace Go.Proofs.YtdmlamnonbmboaaGreatDoor
open Go.RowKit Go.Shelf

theorem Vb.range {w : World} {b t : Nat} {L : List Value} (h : Vb w b t L) : w.rangeAt b 0 L := fun j v hv => by rw [Nat.zero_add]; exact h.cell hv

theorem toRook_any (s kn rn : Nat) (d : Int) (hd : (kn < rn ∧ d = 1) ∨ (¬ kn < rn ∧ d = -1)) (w : World) : Calls Tryz.prog 107 #[.agg #[.int .i64 (s : Nat), .int .i64 (kn : Nat), .int .i64 (rn : Nat)]] w fun r w' => r = .returned (.int .i64 d) ∧ Below w.heap.size w w' := by
  obtain ⟨w1, hw1⟩ : ∃ w1, w.alloc (.cells #[.int .i64 (s : Nat), .int .i64 (kn : Nat), .int .i64 (rn : Nat)] 106) = w1 := ⟨_, rfl⟩
  have B1 : Below w.heap.size w w1 := by rw [← hw1]; exact (Below.refl _ w).alloc (Nat.le_refl _) _
  have V1 : Vb w1 w.heap.size 106 [.int .i64 (s : Nat), .int .i64 (kn : Nat), .int .i64 (rn : Nat)] := by rw [← hw1]; exact Vb.new w 106 _
  have c0 := V1.cell (i := 0) rfl
  have c1 := V1.cell (i := 1) rfl
  have c2 := V1.cell (i := 2) rfl
  have HB1 := hide B1
  clear V1 B1
  rcases hd with ⟨h1, rfl⟩ | ⟨h1, rfl⟩
  · have h2 : (kn : Int) < (rn : Int) := by omega
    go_enter Tryz.func107, Tryz.ntmps107
    go_upto_region 1 with fail
    clear hw1
    go_wp2_with fail
    go_ret
    exact ⟨rfl, HB1.out⟩
  · have h2 : ¬ (kn : Int) < (rn : Int) := by omega
    go_enter Tryz.func107, Tryz.ntmps107
    go_upto_region 1 with fail
    clear hw1
    go_wp2_with fail
    go_ret
    exact ⟨rfl, HB1.out⟩

set_option maxRecDepth 100000 in
theorem over_any (s kn rn o : Nat) (d : Int) (hd : (kn < rn ∧ d = 1) ∨ (¬ kn < rn ∧ d = -1)) (ho : (kn : Int) + d = (o : Int)) (hk : kn < 64) (w : World) : Calls Tryz.prog 82 #[.agg #[.int .i64 (s : Nat), .int .i64 (kn : Nat), .int .i64 (rn : Nat)]] w fun r w' => r = .returned (.int .i64 (o : Nat)) ∧ Below w.heap.size w w' := by
  obtain ⟨w1, hw1⟩ : ∃ w1, w.alloc (.cells #[.int .i64 (s : Nat), .int .i64 (kn : Nat), .int .i64 (rn : Nat)] 106) = w1 := ⟨_, rfl⟩
  have B1 : Below w.heap.size w w1 := by rw [← hw1]; exact (Below.refl _ w).alloc (Nat.le_refl _) _
  have V1 : Vb w1 w.heap.size 106 [.int .i64 (s : Nat), .int .i64 (kn : Nat), .int .i64 (rn : Nat)] := by rw [← hw1]; exact Vb.new w 106 _
  have c0 := V1.cell (i := 0) rfl
  have c1 := V1.cell (i := 1) rfl
  have c2 := V1.cell (i := 2) rfl
  have HB1 := hide B1
  have HV : Hid (∀ W, Below w1.heap.size w1 W → Vb W w.heap.size 106 [.int .i64 (s : Nat), .int .i64 (kn : Nat), .int .i64 (rn : Nat)]) := hide (fun W hb => V1.mono hb)
  have HTR := hide (toRook_any s kn rn d hd)
  have hd2 : d = 1 ∨ d = -1 := by omega
  clear V1 B1 hd c0 c1 c2
  go_enter Tryz.func82, Tryz.ntmps82
  go_upto_region 1 with fail
  clear hw1
  refine wp_region_held (S := fun W5 => Below w1.heap.size w1 W5) (by kernel_rfl) ?_
  change wpAnyH _ _ _ _ _ _ _ _ (World.drew _)
  have SW : Below w1.heap.size w1 (w1.drew) := (Below.refl _ _).drew
  refine wpAnyH_take (i := 0) (v := .pointer (some ⟨w.heap.size, 1, none⟩)) rfl (by kernel_rfl) (by kernel_rfl) (by kernel_rfl) (fun _ _ _ h => h) (Or.inl ⟨by rfl, ?_⟩) SW ?_
  · intro W5 hW5
    go_simp <;> first | done | rfl | (rw [IntKind.wrap_i64]; omega) | omega
  go_simp
  refine wpAnyH_take (i := 1) (v := .int .i64 (kn : Nat)) rfl (by kernel_rfl) (by kernel_rfl) (by kernel_rfl) (fun _ _ _ h => h) (Or.inl ⟨by rfl, ?_⟩) SW ?_
  · intro W5 hW5
    have x1 := (HV.out W5 hW5).cell (i := 1) rfl
    go_simp <;> first | done | rfl | (rw [IntKind.wrap_i64]; omega) | omega
  go_simp
  refine wpAnyH_take (i := 2) (v := .agg #[.int .i64 (s : Nat), .int .i64 (kn : Nat), .int .i64 (rn : Nat)]) rfl (by kernel_rfl) (by kernel_rfl) (by kernel_rfl) (fun _ _ _ h => h) (yieldsIf_load_mid (by rfl) 106 _ rfl w.heap.size 0 (by rfl) [.int .i64 (s : Nat), .int .i64 (kn : Nat), .int .i64 (rn : Nat)] _ (fun W hW => (HV.out W hW).range) Tryz.underlying106 rfl (by exact size105)) SW ?_
  go_simp
  refine wpAnyH_ready (rs := [3]) (by kernel_rfl) (by simp) ?_
  refine AllReadyH.cons rfl (fun K1 hK1 => ?_) AllReadyH.nil
  go_simp
  refine (HTR.out _).mono ?_
  rintro r w7 ⟨rfl, hb5⟩
  have B5 := SW.trans (hb5.mono SW.size)
  refine hK1.out _ _ B5 (fun SW => ?_)
  clear hK1 K1 hb5 B5
  go_simp
  refine wpAnyH_take (i := 4) (v := .int .i64 (o : Nat)) rfl (by kernel_rfl) (by kernel_rfl) (by kernel_rfl) (fun _ _ _ h => h) (Or.inl ⟨by rfl, ?_⟩) SW ?_
  · intro W5 hW5
    go_simp <;> first | done | rfl | (rw [IntKind.wrap_i64]; omega) | omega
  go_simp
  refine wpAnyH_take (i := 5) (v := .int .i64 (o : Nat)) rfl (by kernel_rfl) (by kernel_rfl) (by kernel_rfl) (fun _ _ _ h => h) (Or.inl ⟨by rfl, ?_⟩) SW ?_
  · intro W5 hW5
    go_simp <;> first | done | rfl | (rw [IntKind.wrap_i64]; omega) | omega
  go_simp
  refine wpAnyH_done (by kernel_rfl) ?_ _
  have HB := hide SW
  clear SW
  go_wp2_with fail
  go_ret
  exact ⟨rfl, HB1.out.trans (HB.out.mono HB1.out.size)⟩

set_option maxRecDepth 100000 in
theorem to_any (s kn rn o : Nat) (d : Int) (hd : (kn < rn ∧ d = 1) ∨ (¬ kn < rn ∧ d = -1)) (ho : (kn : Int) + 2 * d = (o : Int)) (hk : kn < 64) (w : World) : Calls Tryz.prog 106 #[.agg #[.int .i64 (s : Nat), .int .i64 (kn : Nat), .int .i64 (rn : Nat)]] w fun r w' => r = .returned (.int .i64 (o : Nat)) ∧ Below w.heap.size w w' := by
  obtain ⟨w1, hw1⟩ : ∃ w1, w.alloc (.cells #[.int .i64 (s : Nat), .int .i64 (kn : Nat), .int .i64 (rn : Nat)] 106) = w1 := ⟨_, rfl⟩
  have B1 : Below w.heap.size w w1 := by rw [← hw1]; exact (Below.refl _ w).alloc (Nat.le_refl _) _
  have V1 : Vb w1 w.heap.size 106 [.int .i64 (s : Nat), .int .i64 (kn : Nat), .int .i64 (rn : Nat)] := by rw [← hw1]; exact Vb.new w 106 _
  have c0 := V1.cell (i := 0) rfl
  have c1 := V1.cell (i := 1) rfl
  have c2 := V1.cell (i := 2) rfl
  have HB1 := hide B1
  have HV : Hid (∀ W, Below w1.heap.size w1 W → Vb W w.heap.size 106 [.int .i64 (s : Nat), .int .i64 (kn : Nat), .int .i64 (rn : Nat)]) := hide (fun W hb => V1.mono hb)
  have HTR := hide (toRook_any s kn rn d hd)
  have hd2 : d = 1 ∨ d = -1 := by omega
  clear V1 B1 hd c0 c1 c2
  go_enter Tryz.func106, Tryz.ntmps106
  go_upto_region 1 with fail
  clear hw1
  refine wp_region_held (S := fun W5 => Below w1.heap.size w1 W5) (by kernel_rfl) ?_
  change wpAnyH _ _ _ _ _ _ _ _ (World.drew _)
  have SW : Below w1.heap.size w1 (w1.drew) := (Below.refl _ _).drew
  refine wpAnyH_take (i := 0) (v := .pointer (some ⟨w.heap.size, 1, none⟩)) rfl (by kernel_rfl) (by kernel_rfl) (by kernel_rfl) (fun _ _ _ h => h) (Or.inl ⟨by rfl, ?_⟩) SW ?_
  · intro W5 hW5
    go_simp <;> first | done | rfl | (rw [IntKind.wrap_i64]; omega) | omega
  go_simp
  refine wpAnyH_take (i := 1) (v := .int .i64 (kn : Nat)) rfl (by kernel_rfl) (by kernel_rfl) (by kernel_rfl) (fun _ _ _ h => h) (Or.inl ⟨by rfl, ?_⟩) SW ?_
  · intro W5 hW5
    have x1 := (HV.out W5 hW5).cell (i := 1) rfl
    go_simp <;> first | done | rfl | (rw [IntKind.wrap_i64]; omega) | omega
  go_simp
  refine wpAnyH_take (i := 2) (v := .agg #[.int .i64 (s : Nat), .int .i64 (kn : Nat), .int .i64 (rn : Nat)]) rfl (by kernel_rfl) (by kernel_rfl) (by kernel_rfl) (fun _ _ _ h => h) (yieldsIf_load_mid (by rfl) 106 _ rfl w.heap.size 0 (by rfl) [.int .i64 (s : Nat), .int .i64 (kn : Nat), .int .i64 (rn : Nat)] _ (fun W hW => (HV.out W hW).range) Tryz.underlying106 rfl (by exact size105)) SW ?_
  go_simp
  refine wpAnyH_ready (rs := [3]) (by kernel_rfl) (by simp) ?_
  refine AllReadyH.cons rfl (fun K1 hK1 => ?_) AllReadyH.nil
  go_simp
  refine (HTR.out _).mono ?_
  rintro r w7 ⟨rfl, hb5⟩
  have B5 := SW.trans (hb5.mono SW.size)
  refine hK1.out _ _ B5 (fun SW => ?_)
  clear hK1 K1 hb5 B5
  go_simp
  refine wpAnyH_take (i := 4) (v := .int .i64 (2 * d)) rfl (by kernel_rfl) (by kernel_rfl) (by kernel_rfl) (fun _ _ _ h => h) (Or.inl ⟨by rfl, ?_⟩) SW ?_
  · intro W5 hW5
    go_simp <;> first | done | rfl | (rw [IntKind.wrap_i64]; omega) | omega
  go_simp
  refine wpAnyH_take (i := 5) (v := .int .i64 (o : Nat)) rfl (by kernel_rfl) (by kernel_rfl) (by kernel_rfl) (fun _ _ _ h => h) (Or.inl ⟨by rfl, ?_⟩) SW ?_
  · intro W5 hW5
    go_simp <;> first | done | rfl | (rw [IntKind.wrap_i64]; omega) | omega
  go_simp
  refine wpAnyH_take (i := 6) (v := .int .i64 (o : Nat)) rfl (by kernel_rfl) (by kernel_rfl) (by kernel_rfl) (fun _ _ _ h => h) (Or.inl ⟨by rfl, ?_⟩) SW ?_
  · intro W5 hW5
    go_simp <;> first | done | rfl | (rw [IntKind.wrap_i64]; omega) | omega
  go_simp
  refine wpAnyH_done (by kernel_rfl) ?_ _
  have HB := hide SW
  clear SW
  go_wp2_with fail
  go_ret
  exact ⟨rfl, HB1.out.trans (HB.out.mono HB1.out.size)⟩

end Go.Proofs.YtdmlamnonbmboaaGreatDoor

namespace Go.Proofs.YtdmlamnonbmboaaGreatDoor
open Go.RowKit Go.Shelf

/-- A castling in a block. -/
def Cb (W : World) (cb s kn rn : Nat) : Prop := Vb W cb 106 [.int .i64 (s : Nat), .int .i64 (kn : Nat), .int .i64 (rn : Nat)]

/-- Where the places between go. -/
structure Bw (kn rn o : Nat) (d : Int) (xs : List Nat) : Prop where
  dd : (kn < rn ∧ d = 1) ∨ (¬ kn < rn ∧ d = -1)
  oo : (kn : Int) + d = (o : Int)
  k64 : kn < 64
  r64 : rn < 64
  h0 : (xs ++ [rn]).getD 0 0 = o
  hs : ∀ j, j < xs.length → (((xs ++ [rn]).getD j 0 : Nat) : Int) + d = (((xs ++ [rn]).getD (j + 1) 0 : Nat) : Int)
  ne : ∀ j, j < xs.length → (xs ++ [rn]).getD j 0 ≠ rn
  ms : ∀ j, j < xs.length → ((rn : Int) - (((xs ++ [rn]).getD (j + 1) 0 : Nat) : Int)).natAbs < ((rn : Int) - (((xs ++ [rn]).getD j 0 : Nat) : Int)).natAbs
  lt : ∀ j, j ≤ xs.length → (xs ++ [rn]).getD j 0 < 64

attribute [local go_sem] Oper.semAt_some wide_fn wide_fn0 wide_depth

set_option maxRecDepth 100000 in
set_option maxHeartbeats 4000000 in
theorem between1_o (cb s kn rn o : Nat) (d : Int) (xs : List Nat) (hB : Bw kn rn o d xs) :
    SeqO Tryz.prog 170 #[.pointer (some ⟨cb, 0, none⟩)] RcG xs (fun W => Cb W cb s kn rn) (fun k => k = cb) := by
  intro l J Jx N0 W O0 hR hN hC hY h0
  have HY := hide hY
  have HC := hide hC
  have HN := hide hN
  have HRK : Hid (∀ W', Keeps O0 W W' → Cb W' cb s kn rn) := hide (fun W' hk => Vb.keeps hR hk (fun h => ((hC.lt _ _ _ h0) cb h).2 rfl))
  have HJK : Hid (∀ s A B, (∃ O, J O s A ∧ ∀ k, k < W.heap.size → O k → O0 k) → Below A.heap.size A B → ∃ O, J O s B ∧ ∀ k, k < W.heap.size → O k → O0 k) := hide (fun s A B ⟨O, h1, h2⟩ hb => ⟨O, hC.keep _ _ _ _ h1 (Keeps.of_all hb), h2⟩)
  have HJ0 : Hid (∃ O, J O (xs.take 0) W ∧ ∀ k, k < W.heap.size → O k → O0 k) := hide ⟨O0, by rw [List.take_zero]; exact h0, fun _ _ h => h⟩
  have HOV := hide (over_any s kn rn o d hB.dd hB.oo hB.k64)
  have HTR := hide (toRook_any s kn rn d hB.dd)
  have HB := hide hB
  have HSZ : Hid ((Tryz.prog.info? 106).map (·.size) = some 3) := hide size105
  obtain ⟨L, hL⟩ : ∃ L, xs ++ [rn] = L := ⟨_, rfl⟩
  have hd2 : d = 1 ∨ d = -1 := by have := hB.dd; omega
  have rng : W.rangeAt cb 0 [.int .i64 (s : Nat), .int .i64 (kn : Nat), .int .i64 (rn : Nat)] := Vb.range hR
  clear hY h0 hC hN hR hB
  refine callsIn_of_wp Tryz.func170 rfl trivial ?_ rfl
  simp only [Tryz.ntmps170, List.size_toArray, List.length_cons, List.length_nil, Nat.reduceAdd, Nat.reduceSub, Array.replicate_succ, Array.replicate_zero, List.push_toArray, List.append_toArray, List.nil_append, List.cons_append]
  refine wpIn_wide.2 ?_
  go_wp2_with (refine wpList_load_mid rfl 106 _ rfl cb 0 rfl [.int .i64 (s : Nat), .int .i64 (kn : Nat), .int .i64 (rn : Nat)] _ rng Tryz.underlying106 rfl HSZ.out ?_)
  refine (HOV.out _).mono ?_
  rintro e w1 ⟨rfl, hb1⟩
  have HJ1 := hide (HJK.out _ _ _ HJ0.out hb1)
  have HK1 : Hid (Keeps O0 W w1) := hide (Keeps.of_all hb1)
  clear rng hb1 HJ0
  go_wp2_with fail
  go_loopw [3] (fun v wr => ∃ j : Nat, v = .int .i64 ((L.getD j 0 : Nat) : Int) ∧ j ≤ xs.length ∧ Hid (∃ O, J O (xs.take j) wr ∧ ∀ k, k < W.heap.size → O k → O0 k) ∧ Hid (Keeps O0 W wr)) (fun v _ => ((rn : Int) - intOf v).natAbs)
  case atStart => exact ⟨0, by rw [← hL, HB.out.h0], by omega, HJ1, HK1⟩
  case round =>
    obtain ⟨j, rfl, hj, hJr, hK⟩ := hrel
    clear HJ1 HK1
    have c2 := (HRK.out _ hK.out).cell (i := 2) rfl
    by_cases hjl : j < xs.length
    · have hst := HB.out.hs j hjl
      have hne := HB.out.ne j hjl
      have HMS := hide (HB.out.ms j hjl)
      have h64 := HB.out.lt j (by omega)
      have h641 := HB.out.lt (j + 1) (by omega)
      rw [hL] at hst hne HMS h64 h641
      have HX : Hid (xs.take j ++ [L.getD j 0] = xs.take (j + 1)) := hide (by
        rw [← hL, List.take_succ_eq_append_getElem hjl]
        congr 2
        simp [List.getD, List.getElem?_append_left hjl, hjl])
      have HPF : Hid (xs.take j ++ [L.getD j 0] <+: xs) := hide (by rw [HX.out]; exact List.take_prefix _ _)
      have hb1 : (((L.getD j 0 : Nat) : Int) != (rn : Int)) = true := by rw [bne_iff_ne]; intro h; exact hne (by omega)
      obtain ⟨q1, hq1⟩ : ∃ q1, L.getD (j + 1) 0 = q1 := ⟨_, rfl⟩
      have HQ1 := hide hq1
      rw [hq1] at hst HMS h641
      obtain ⟨q, hq⟩ : ∃ q, L.getD j 0 = q := ⟨_, rfl⟩
      rw [hq] at hst hne HMS h64 HX HPF hb1 ⊢
      obtain ⟨O, hJO, hOm⟩ := hJr.out
      have HOM := hide hOm
      obtain ⟨fn, tmps, assign, body, hy, hRR⟩ := YieldAt.anyD (m' := 0) (HY.out O _ q #[.int .i64 (q : Nat)] wr hJO HPF.out rfl (Nat.le_trans HN.out hK.out.size))
      clear hOm hJO hJr HPF hq hq1 hne
      refine (wpIn_wide (n := 1)).1 ?_
      gi_wp2
      refine hRR.mono ?_
      rintro e W3 ⟨hk3, O', hO', h3⟩
      have HK3 : Hid (Keeps O0 W W3) := hide ⟨hk3.os.trans hK.out.os, hk3.tape.trans hK.out.tape, hk3.output.trans hK.out.output, Nat.le_trans hK.out.size hk3.size, fun i hi hx => (hk3.block i (Nat.lt_of_lt_of_le hi hK.out.size) (fun h => hx (HOM.out i hi h))).trans (hK.out.block i hi hx)⟩
      have HO3 : Hid (∀ k, k < W.heap.size → O' k → O0 k) := hide (fun k hk h => HOM.out k hk (hO' k (Nat.lt_of_lt_of_le hk hK.out.size) h))
      clear hy hRR hK hk3 hO' HOM c2
      rcases h3 with ⟨rfl, hJ3⟩ | ⟨rfl, hJ3⟩
      · have HJ3 : Hid (∃ O, J O (xs.take (j + 1)) W3 ∧ ∀ k, k < W.heap.size → O k → O0 k) := hide ⟨O', by rw [← HX.out]; exact hJ3, HO3.out⟩
        have k0 := (HRK.out _ HK3.out).cell (i := 0) rfl
        have k1 := (HRK.out _ HK3.out).cell (i := 1) rfl
        have k2 := (HRK.out _ HK3.out).cell (i := 2) rfl
        clear hJ3 HO3 HX
        gi_wp2
        refine (callsIn_wide.2 (HTR.out W3)).mono ?_
        rintro e w5 ⟨rfl, hb5⟩
        have HJ5 := hide (HJK.out _ _ _ HJ3.out hb5)
        have HK5 : Hid (Keeps O0 W w5) := hide (HK3.out.trans (Keeps.of_all hb5))
        clear hb5 HJ3 k0 k1 k2
        gi_wp2
        exact ⟨⟨j + 1, by rw [HQ1.out], by omega, HJ5, HK5⟩, by simp only [intOf]; exact HMS.out⟩
      · have HJ3 := hide hJ3
        clear hJ3
        gi_wp2
        refine bodyPost_end (results_none rfl _ _ _) rfl ?_
        exact ⟨⟨_, rfl⟩, HK3.out, O', HO3.out, .inr HJ3.out⟩
    · obtain rfl : j = xs.length := by omega
      have hrn : L.getD xs.length 0 = rn := by rw [← hL]; simp [List.getD]
      have HE : Hid (∃ O, J O xs wr ∧ ∀ k, k < W.heap.size → O k → O0 k) := hide (by have := hJr.out; rwa [List.take_length] at this)
      rw [hrn]
      clear hJr
      go_wp2_with fail
      refine bodyPost_end (results_none rfl _ _ _) rfl ?_
      obtain ⟨O, h1, h2⟩ := HE.out
      exact ⟨⟨_, rfl⟩, hK.out, O, h2, .inl h1⟩

end Go.Proofs.YtdmlamnonbmboaaGreatDoor
