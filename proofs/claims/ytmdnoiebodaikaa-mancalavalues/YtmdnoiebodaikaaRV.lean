/-
  The document's value of a board. No conditions beyond those that each theorem bears.
-/
import Derived.Test.YtmdnoiebodaikaaVMath
import Derived.Test.YtmdnoiebodaikaaSOf
import Derived.Test.YtmdnoiebodaikaaMemo
import Derived.Test.YtmdnoiebodaikaaOf
namespace Go.Proofs.Ytmdnoiebodaikaa
open Go.RowKit

/-- Player 0's numbers less player 1's, the first ones. -/
def ldK (p k : Nat) (S : List Int) : Int := sumN k (fun i => S.getD i 0 - S.getD (p + 1 + i) 0)

theorem ldK_succ (p k : Nat) (S : List Int) : ldK p (k + 1) S = ldK p k S + (S.getD k 0 - S.getD (p + 1 + k) 0) := rfl

theorem ldK_all (p : Nat) (S : List Int) : ldK p (p + 1) S = leadS p S := by
  have e : ∀ k, sumN k (fun i => S.getD i 0 - S.getD (p + 1 + i) 0) = sumN k (fun i => S.getD i 0) - sumN k (fun i => S.getD (p + 1 + i) 0) := by
    intro k
    induction k with
    | zero => simp [sumN]
    | succ k ih => rw [sumN, sumN, sumN, ih]; omega
  unfold ldK leadS inP
  rw [sumN, e]
  simp only [pl0, pl1]
  rw [show p + 1 + p = 2 * p + 1 by omega]
  omega

theorem ldK_bd {p : Nat} {S : List Int} (hf : Fit p S) : ∀ k, k ≤ p + 1 → -(1000 * (k : Int)) ≤ ldK p k S ∧ ldK p k S ≤ 1000 * k
  | 0, _ => by simp [ldK, sumN]
  | k + 1, hk => by
    have ih := ldK_bd hf k (by omega)
    have h1 := hf.pos k (by omega)
    have h2 := hf.le (i := k) (by omega)
    have h3 := hf.pos (p + 1 + k) (by omega)
    have h4 := hf.le (i := p + 1 + k) (by omega)
    rw [ldK_succ]
    omega

attribute [local irreducible] val bst sowS sowT agB overB bet ldK in
set_option maxRecDepth 100000 in
set_option maxHeartbeats 4000000 in
theorem RV_any (p : Nat) : ∀ (N t : Nat) (S : List Int), Bd p t S → ms p S < N → ∀ (a : Option Addr) (n c : Nat) (w : World), n = 2 * (p + 1) → Rd w a n c S →
    Calls Try.prog 18 #[.agg (mA a n c t)] w fun e w' => e = .returned (.tuple #[.int .i64 (val p t S).1, .int .i64 (val p t S).2]) ∧ Below w.heap.size w w'
  | 0, _, _, _, h, _, _, _, _, _, _ => absurd h (Nat.not_lt_zero _)
  | N + 1, t, S, hB, hN, a, n, c, w, hn', hR => by
    have hp := hB.p6
    have ht := hB.t1
    have HBD := hide hB
    have HN := hide hn'
    have hn14 : n ≤ 14 := by omega
    have hn2 : 2 * (p + 1) = n := hn'.symm
    clear hn'
    obtain ⟨sb, off, rfl, hc⟩ := hR.cells (by omega)
    have hbl : sb < w.heap.size := World.block_lt_of_cell? w _ (hc 0 (by omega))
    have HIH : Hid (∀ i, i < p → S.getD (pl p t i) 0 ≠ 0 → ∀ (a' : Option Addr) (c' : Nat) (w : World), Rd w a' n c' (sowS p t i S) → Calls Try.prog 18 #[.agg (mA a' n c' (sowT p t i S : Nat))] w fun e w' => e = .returned (.tuple #[.int .i64 (val p (sowT p t i S) (sowS p t i S)).1, .int .i64 (val p (sowT p t i S) (sowS p t i S)).2]) ∧ Below w.heap.size w w') := hide (fun i hi hz a' c' w hR' => by
      have hlen := hB.len
      have hms := ms_sowS hp ht hi (by omega) hB.fit hz
      exact RV_any p N _ _ ⟨hp, sowT_le ht, by rw [sowS_length]; exact hlen, (sowS_fit ht hi (by omega) hB.fit).1⟩ (by omega) a' n c' w HN.out hR')
    have HVE : Hid (overB p S = false → val p t S = bst (val p) p t S p) := hide (fun h => val_eq hp ht (by have := hB.len; omega) hB.fit h)
    have HVO : Hid (overB p S = true → val p t S = (leadS p S, -1)) := hide (fun h => val_over h)
    have HBP := hide (fun k => bst_pit (val p) p t S k)
    obtain ⟨w0, hw0⟩ : ∃ w0, w.alloc (Obj.cells (mA (some ⟨sb, off, none⟩) n c t) 24) = w0 := ⟨_, rfl⟩
    have M0 : Mn w0 w.heap.size (some ⟨sb, off, none⟩) n c t := by rw [← hw0]; exact Mn.new w _ n c t
    have B0 : Below w.heap.size w w0 := by rw [← hw0]; exact (Below.refl _ w).alloc (Nat.le_refl _) _
    obtain ⟨b, hbe⟩ : ∃ b, w.heap.size = b := ⟨_, rfl⟩
    have HR0 := hide (hR.mono B0)
    rw [hbe] at M0 hbl
    have HM0 := hide M0
    have HB0 := hide B0
    have m0 := M0.seeds
    obtain ⟨vv, hvv⟩ : ∃ vv, val p t S = vv := ⟨_, rfl⟩
    have HVV := hide hvv
    rw [hvv]
    have hq2 : (n : Int) / 2 = ((p + 1 : Nat) : Int) := by omega
    clear M0 B0 hB hN hR hvv hc
    go_enter Try.func18, Try.ntmps18
    go_wp2_with (first | refine wpList_load_mn rfl _ rfl b rfl HM0.out ?_)
    refine (MOver_any _ n c p t S _ HR0.out hn2 hp HBD.out.fit).mono ?_
    rintro e w1 ⟨rfl, hw⟩
    have HM1 := hide (HM0.out.below hw HM0.out.lt)
    have HB1 := hide (HB0.out.trans (hw.mono HB0.out.size))
    have HR1 := hide (HR0.out.mono hw)
    clear hw HM0 HB0 HR0 m0
    cases hov : overB p S with
    | true =>
      have HV : Hid (vv = (leadS p S, -1)) := hide (by rw [← HVV.out]; exact HVO.out hov)
      have HLA := hide (ldK_all p S)
      have HF := hide HBD.out.fit
      clear hov HVE HVO HIH HVV HBP
      have m0 := HM1.out.seeds
      go_wp2_with fail
      go_loopw [5, 6] (fun s v wr => ∃ k q : Nat, v = .int .i64 k ∧ k ≤ p + 1 ∧ s = .int .i64 (ldK p k S) ∧ wr = w1.drewN q) (fun _ v _ => p + 1 - (intOf v).toNat)
      case atStart => exact ⟨0, 0, rfl, by omega, by rw [show ldK p 0 S = 0 by unfold ldK; rfl], rfl⟩
      case round =>
        obtain ⟨k, q, rfl, hk, rfl, rfl⟩ := hrel
        by_cases hlt : k < p + 1
        · have hlt' : (k : Int) < (p : Int) + 1 := by omega
          obtain ⟨d1, d2⟩ := ldK_bd HF.out k hk
          obtain ⟨sb', off', hae, hc1⟩ := HR1.out.cells (by omega)
          simp only [Option.some.injEq, Addr.mk.injEq, and_true] at hae
          obtain ⟨rfl, rfl⟩ := hae
          have c1 := hc1 k (by omega)
          have c2 := hc1 (p + 1 + k) (by omega)
          have z1 := HF.out.pos k (by omega)
          have z2 := HF.out.le (i := k) (by omega)
          have y1 := HF.out.pos (p + 1 + k) (by omega)
          have y2 := HF.out.le (i := p + 1 + k) (by omega)
          have HS0 := hide (ldK_succ p k S)
          have hxk : (p : Int) + 1 + (k : Int) = ((p + 1 + k : Nat) : Int) := by omega
          have hkn : (k : Int) < (n : Int) := by omega
          have hYn : ((p + 1 + k : Nat) : Int) < (n : Int) := by omega
          clear hc1
          generalize S.getD (p + 1 + k) 0 = y at *
          generalize S.getD k 0 = z at *
          generalize ldK p k S = i0 at *
          generalize p + 1 + k = Y at *
          go_wp2_with fail
          go_quiet (fail)
          go_wp2_with fail
          exact ⟨⟨k + 1, _, by go_num, by omega, by rw [HS0.out], rfl⟩, by simp [intOf]; omega⟩
        · obtain rfl : k = p + 1 := by omega
          have hlt' : ¬ ((p + 1 : Nat) : Int) < (p : Int) + 1 := by omega
          rw [HLA.out]
          have HB2 := hide (HB1.out.trans (drewN_below _ w1 q))
          generalize leadS p S = ld at *
          go_wp2_with fail
          exact bodyPost_ret (v := .tuple #[.int .i64 ld, .int .i64 (-1)]) (by simp [results, Try.results18, go_sem]) rfl ⟨by rw [HV.out], by first | exact HB2.out | (rw [← hbe]; exact HB2.out)⟩
    | false =>
      have HV : Hid (vv = bst (val p) p t S p) := hide (by rw [← HVV.out]; exact HVE.out hov)
      have HOV := hide hov
      clear hov HVE HVO HVV
      have HB00 : Hid (bst (val p) p t S 0 = (0, -1)) := hide (by rw [bst])
      go_wp2_with fail
      go_loopw [7, 8, 9] (fun x y v wr => ∃ k : Nat, v = .int .i64 k ∧ k ≤ p ∧ x = .int .i64 (bst (val p) p t S k).1 ∧ y = .int .i64 (bst (val p) p t S k).2 ∧ Hid (Mn wr b (some ⟨sb, off, none⟩) n c t) ∧ Hid (Rd wr (some ⟨sb, off, none⟩) n c S) ∧ Hid (Below w.heap.size w wr)) (fun _ _ v _ => p - (intOf v).toNat)
      case atStart => exact ⟨0, rfl, by omega, by rw [HB00.out], by rw [HB00.out], HM1, HR1, HB1⟩
      case round =>
        obtain ⟨k, rfl, hk, rfl, rfl, hM3, hR3, hB3⟩ := hrel
        clear HM1 HR1 HB1 HB00
        by_cases hlt : k < p
        · have hlt' : (k : Int) < (p : Int) := by omega
          by_cases hz : S.getD (pl p t k) 0 = 0
          · have HSK := hide (bst_skip (V := val p) (k := k) hz)
            have HZ := hide hz
            clear hz
            go_wp2_with (first | refine wpList_load_mn rfl _ rfl b rfl hM3.out ?_)
            refine (SowOf_none _ n c p t S _ hR3.out hn2 hp HBD.out.fit ht HOV k hlt HZ.out).mono ?_
            rintro e w4 ⟨rfl, hw⟩
            have HM4 := hide ((hM3.out.below hw hM3.out.lt).old (Obj.cells #[.slice none 0 0, .int .i64 0] 24))
            have B4 := hB3.out.trans (hw.mono hB3.out.size)
            have HB4 := hide (B4.alloc B4.size (Obj.cells #[.slice none 0 0, .int .i64 0] 24))
            have HR4 := hide ((hR3.out.mono hw).mono ((Below.refl w4.heap.size w4).alloc (Nat.le_refl _) (Obj.cells #[.slice none 0 0, .int .i64 0] 24)))
            clear hw B4 hM3 hR3 hB3
            go_wp2_with fail
            exact ⟨⟨k + 1, by go_num, by omega, by rw [HSK.out], by rw [HSK.out], HM4, HR4, HB4⟩, by simp [intOf]; omega⟩
          · have HCALL := hide (HIH.out k hlt hz)
            have HTK := hide (bst_take (V := val p) (k := k) hz)
            have HKP := hide (bst_keep (V := val p) (k := k) hz)
            have HZ := hide hz
            have HBPk := HBP.out k
            clear hz
            go_wp2_with (first | refine wpList_load_mn rfl _ rfl b rfl hM3.out ?_)
            refine (SowOf_ok _ n c p t S _ hR3.out hn2 hp HBD.out.fit ht HOV k hlt HZ.out (by omega)).mono ?_
            rintro e w4 ⟨a4, c4, rfl, hR4, hw⟩
            generalize sowS p t k S = F at *
            generalize sowT p t k S = ut at *
            generalize agB p t k S = ag at *
            have AB := (Below.refl w4.heap.size w4).alloc (Nat.le_refl _) (Obj.cells #[.slice a4 n c4, .int .i64 ut] 24)
            have HM5 := hide ((hM3.out.below hw hM3.out.lt).below AB (hM3.out.below hw hM3.out.lt).lt)
            have B4 := hB3.out.trans (hw.mono hB3.out.size)
            have HB5 := hide (B4.trans (AB.mono B4.size))
            have HR5 := hide ((hR3.out.mono hw).mono AB)
            have HRF := hide (hR4.mono AB)
            have HMF : Hid (Mn (w4.alloc (Obj.cells #[.slice a4 n c4, .int .i64 ut] 24)) w4.heap.size a4 n c4 ut) := hide (Mn.new w4 a4 n c4 ut)
            clear hw B4 hR4 AB hM3 hR3 hB3
            go_upto_region 14 with fail
            obtain ⟨x, hx⟩ : ∃ x, w4.heap.size = x := ⟨_, rfl⟩
            obtain ⟨w5, hw5⟩ : ∃ w5, w4.alloc (Obj.cells #[.slice a4 n c4, .int .i64 ut] 24) = w5 := ⟨_, rfl⟩
            rw [hw5] at HM5 HB5 HR5 HRF HMF ⊢
            rw [hx] at HMF ⊢
            clear hx hw5
            go_wp2_with (first | refine wpList_load_mn rfl _ rfl x rfl HMF.out ?_)
            refine (HCALL.out a4 c4 _ HRF.out).mono ?_
            rintro e w6 ⟨rfl, hw⟩
            have HM6 := hide (HM5.out.below hw HM5.out.lt)
            have HB6 := hide (HB5.out.trans (hw.mono HB5.out.size))
            have HR6 := hide (HR5.out.mono hw)
            have m1 := HM6.out.turn
            clear hw HM5 HB5 HR5 HRF HMF HCALL
            obtain ⟨ld, hld⟩ : ∃ ld, (val p ut F).1 = ld := ⟨_, rfl⟩
            rw [hld] at HTK HKP ⊢
            clear hld
            generalize bst (val p) p t S k = B0 at *
            obtain ⟨x0, y0⟩ := B0
            simp only at HTK HKP HBPk
            by_cases hy : y0 = -1
            · have hyb : y0 < 0 := by omega
              have HB1 := hide (HTK.out (Or.inl hy))
              clear hy HTK HKP HBPk
              go_wp2_with fail
              exact ⟨⟨k + 1, by go_num, by omega, by rw [HB1.out], by rw [HB1.out], HM6, HR6, HB6⟩, by simp [intOf]; omega⟩
            · have hyb : decide (y0 < 0) = false := by simp; omega
              by_cases ht0 : t = 0
              · have t1 : ((t : Int) == 0) = true := by simp [ht0]
                have t1n : (t == 0) = true := by simp [ht0]
                have t2 : ((t : Int) == 1) = false := by simp; omega
                have t2n : (t == 1) = false := by simp; omega
                by_cases hgt : x0 < ld
                · have HB1 := hide (HTK.out (Or.inr (by unfold bet; rw [if_pos ht0]; simpa using hgt)))
                  clear hy HTK HKP HBPk ht0
                  go_wp2_with fail
                  exact ⟨⟨k + 1, by go_num, by omega, by rw [HB1.out], by rw [HB1.out], HM6, HR6, HB6⟩, by simp [intOf]; omega⟩
                · have HB1 := hide (HKP.out hy (by unfold bet; rw [if_pos ht0]; simpa using hgt))
                  have hgtb : decide (x0 < ld) = false := by simpa using hgt
                  clear hy HTK HKP HBPk ht0
                  go_wp2_with fail
                  exact ⟨⟨k + 1, by go_num, by omega, by rw [HB1.out], by rw [HB1.out], HM6, HR6, HB6⟩, by simp [intOf]; omega⟩
              · have t1 : ((t : Int) == 0) = false := by simp; omega
                have t1n : (t == 0) = false := by simpa using ht0
                have t2 : ((t : Int) == 1) = true := by simp; omega
                have t2n : (t == 1) = true := by simp; omega
                by_cases hgt : ld < x0
                · have HB1 := hide (HTK.out (Or.inr (by unfold bet; rw [if_neg ht0]; simpa using hgt)))
                  clear hy HTK HKP HBPk ht0
                  go_wp2_with fail
                  exact ⟨⟨k + 1, by go_num, by omega, by rw [HB1.out], by rw [HB1.out], HM6, HR6, HB6⟩, by simp [intOf]; omega⟩
                · have HB1 := hide (HKP.out hy (by unfold bet; rw [if_neg ht0]; simpa using hgt))
                  have hgtb : decide (ld < x0) = false := by simpa using hgt
                  clear hy HTK HKP HBPk ht0
                  go_wp2_with fail
                  exact ⟨⟨k + 1, by go_num, by omega, by rw [HB1.out], by rw [HB1.out], HM6, HR6, HB6⟩, by simp [intOf]; omega⟩
        · obtain rfl : k = p := by omega
          have hlt' : ¬ (k : Int) < (k : Int) := by omega
          rw [← HV.out]
          go_wp2_with fail
          exact bodyPost_ret (v := .tuple #[.int .i64 vv.1, .int .i64 vv.2]) (by simp [results, Try.results18, go_sem]) rfl ⟨rfl, by first | exact hB3.out | (rw [← hbe]; exact hB3.out)⟩

end Go.Proofs.Ytmdnoiebodaikaa
