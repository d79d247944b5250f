/-
  Chess: what a piece reaches, asked with a state's own question, walked; the range over it. No conditions beyond those that each theorem bears.
-/
import Derived.Test.YtdmlamnonbmboaaGreatDoorV22
namespace Go.Proofs.YtdmlamnonbmboaaGreatDoor
open Go.RowKit Go.Shelf

/-- What reach has captured. -/
structure RmR (xb fb eb sb : Nat) (x : Int) (t : Nat) (Z : List Int) (t0 k0 e0 h0 f0 : Int) (W : World) : Prop where
  x : W.cell? ⟨xb, 0, none⟩ = some (.int .i64 x)
  f : W.cell? ⟨fb, 0, none⟩ = some (.int .i64 t)
  e : W.cell? ⟨eb, 0, none⟩ = some (.func (.func 53) #[.pointer (some ⟨sb, 0, none⟩)] #[])
  st : Sb W sb Z t0 k0 e0 h0 f0
  s : TabS W
def RmT (xb fb eb sb : Nat) (k : Nat) : Prop := k = 1 ∨ k = xb ∨ k = fb ∨ k = eb ∨ k = sb
theorem RmR.keeps {xb fb eb sb : Nat} {x : Int} {t : Nat} {Z : List Int} {t0 k0 e0 h0 f0 : Int} {X : Nat → Prop} {W W' : World} (h : RmR xb fb eb sb x t Z t0 k0 e0 h0 f0 W) (hk : Keeps X W W') (hX : ∀ k, RmT xb fb eb sb k → ¬ X k) : RmR xb fb eb sb x t Z t0 k0 e0 h0 f0 W' :=
  ⟨hk.cell h.x (hX xb (by unfold RmT; simp)), hk.cell h.f (hX fb (by unfold RmT; simp)), hk.cell h.e (hX eb (by unfold RmT; simp)), h.st.keeps hk (hX sb (by unfold RmT; simp)), h.s.keeps hk (hX 1 (by unfold RmT; simp))⟩
theorem RmR.lt {xb fb eb sb : Nat} {x : Int} {t : Nat} {Z : List Int} {t0 k0 e0 h0 f0 : Int} {W : World} (h : RmR xb fb eb sb x t Z t0 k0 e0 h0 f0 W) : ∀ k, RmT xb fb eb sb k → k < W.heap.size := by
  rintro k (rfl | rfl | rfl | rfl | rfl)
  · exact h.s.lt
  · exact World.block_lt_of_cell? W _ h.x
  · exact World.block_lt_of_cell? W _ h.f
  · exact World.block_lt_of_cell? W _ h.e
  · exact h.st.lt

theorem reachM_any (x : Int) (t sb : Nat) (w : World) : Calls Tryz.prog 87 #[.int .i64 x, .int .i64 t, .func (.func 53) #[.pointer (some ⟨sb, 0, none⟩)] #[]] w fun e w' => e = .returned (.func (.func 111) #[] #[.pointer (some ⟨w.heap.size, 0, none⟩), .pointer (some ⟨w.heap.size + 1, 0, none⟩), .pointer (some ⟨w.heap.size + 2, 0, none⟩)]) ∧ w' = ((w.alloc (.cells #[.int .i64 x] 3)).alloc (.cells #[.int .i64 t] 3)).alloc (.cells #[.func (.func 53) #[.pointer (some ⟨sb, 0, none⟩)] #[]] 73) := by
  go_enter Tryz.func87, Tryz.ntmps87
  go_wp2
  go_ret
  exact ⟨rfl, rfl⟩

theorem RmR.new {sb : Nat} (x : Int) (t : Nat) {Z : List Int} {t0 k0 e0 h0 f0 : Int} {w : World} (hs : Sb w sb Z t0 k0 e0 h0 f0) (hT : TabS w) :
    RmR w.heap.size (w.heap.size + 1) (w.heap.size + 2) sb x t Z t0 k0 e0 h0 f0 (((w.alloc (.cells #[.int .i64 x] 3)).alloc (.cells #[.int .i64 t] 3)).alloc (.cells #[.func (.func 53) #[.pointer (some ⟨sb, 0, none⟩)] #[]] 73)) := by
  have B := (((Below.refl w.heap.size w).alloc (Nat.le_refl _) (.cells #[.int .i64 x] 3)).alloc (by simp) (.cells #[.int .i64 t] 3)).alloc (by simp; omega) (.cells #[.func (.func 53) #[.pointer (some ⟨sb, 0, none⟩)] #[]] 73)
  refine ⟨old_cell _ (old_cell _ (new_cell w _ 3)), old_cell _ ?_, ?_, hs.mono B, hT.mono B⟩
  · have := new_cell (w.alloc (.cells #[.int .i64 x] 3)) (.int .i64 t) 3
    rw [World.size_alloc] at this
    exact this
  · have := new_cell ((w.alloc (.cells #[.int .i64 x] 3)).alloc (.cells #[.int .i64 t] 3)) (.func (.func 53) #[.pointer (some ⟨sb, 0, none⟩)] #[]) 73
    rw [World.size_alloc, World.size_alloc] at this
    exact this

attribute [local irreducible] dS rX rY rP R rl vis rcU far sB sE sX sY mz ins
attribute [local go_sem] Oper.semAt_some wide_fn wide_fn0 wide_depth

set_option maxRecDepth 100000 in
set_option maxHeartbeats 8000000 in
theorem reachM_seq (xb fb eb sb : Nat) (x : Int) (t : Nat) (Z : List Int) (t0 k0 e0 h0 f0 : Int) (hx : KX x) (ht : t < 64) :
    SeqO Tryz.prog 111 #[.pointer (some ⟨xb, 0, none⟩), .pointer (some ⟨fb, 0, none⟩), .pointer (some ⟨eb, 0, none⟩)] RcG (rch Z x t) (RmR xb fb eb sb x t Z t0 k0 e0 h0 f0) (RmT xb fb eb sb) := by
  intro l J Jx N0 W O0 hR hN hC hY hj0
  have HT0 : Hid (∀ k, RmT xb fb eb sb k → ¬ O0 k) := hide (fun k hk h => ((hC.lt _ _ _ hj0) k h).2 hk)
  have HRK : Hid (∀ W', Keeps O0 W W' → RmR xb fb eb sb x t Z t0 k0 e0 h0 f0 W') := hide (fun W' hk => hR.keeps hk HT0.out)
  have HJK : Hid (∀ s A B, (∃ O, J O s A ∧ ∀ k, k < W.heap.size → O k → O0 k) → Below A.heap.size A B → ∃ O, J O s B ∧ ∀ k, k < W.heap.size → O k → O0 k) := hide (fun s A B ⟨O, h1, h2⟩ hb => ⟨O, hC.keep _ _ _ _ h1 (Keeps.of_all hb), h2⟩)
  have HY := hide hY
  have HN := hide hN
  have HJ0 : Hid (∃ O, J O (rcU Z x t 0) W ∧ ∀ k, k < W.heap.size → O k → O0 k) := hide ⟨O0, by rw [rcU_zero]; exact hj0, fun _ _ h => h⟩
  have HST := hide (stretch_any x hx)
  have hxb : -6 ≤ x ∧ x ≤ 6 := by unfold KX at hx; omega
  have HGF := hide (goesFar_any x hxb.1 hxb.2)
  have HEM := hide (fun q hq w hs => empty_any sb Z t0 k0 e0 h0 f0 q hq w hs)
  have HIN := hide inside_any
  have HII := hide (fun i j (hi : i < 16) (hj : j < 8) => ins_iff (t := t) ht hi hj)
  have HRL := hide (fun i (hi : i < 16) => rl_le (t := t) ht hi)
  have HRP := hide (fun i j (hi : i < 16) (hj : j < rl t i) => rP_at (t := t) ht hi hj)
  have HXB := hide (fun i j (hi : i < 16) (hj : j ≤ rl t i) => rXY_bd (t := t) ht hi hj)
  have HMZ := hide (fun i j (hi : i < 16) (hj : j < 9) => mz_at (t := t) ht hi hj)
  have HE16 : Hid (sB x ≤ sE x ∧ sE x ≤ 16) := hide (sBE hx)
  have HAL : Hid (rcU Z x t (sE x - sB x) = rch Z x t) := hide (rcU_all Z x t)
  obtain ⟨XS, hXS⟩ : ∃ XS, rch Z x t = XS := ⟨_, rfl⟩
  rw [hXS] at HY HAL ⊢
  clear hXS
  have HPX : Hid (∀ m, m ≤ sE x - sB x → rcU Z x t m <+: XS) := hide (fun m hm => by rw [← HAL.out]; exact rcU_pre Z x t hm)
  have cx := hR.x
  clear hR hN hC hY hj0 hx
  have hb16 := HE16.out
  refine callsIn_of_wp Tryz.func111 rfl trivial ?_ rfl
  simp only [Tryz.ntmps111, List.size_toArray, List.length_cons, List.length_nil, Nat.reduceAdd, Nat.reduceSub, Array.replicate_succ, Array.replicate_zero, List.push_toArray, List.append_toArray, List.nil_append, List.cons_append]
  refine wpIn_wide.2 ?_
  obtain ⟨BB, hBB⟩ : ∃ BB, sB x = BB := ⟨_, rfl⟩
  obtain ⟨EE, hEE⟩ : ∃ EE, sE x = EE := ⟨_, rfl⟩
  rw [hBB, hEE] at HST hb16 HAL HPX
  have HUS : Hid (∀ m, rcU Z x t (m + 1) = rcU Z x t m ++ vis Z (far x) (R t (BB + m))) := hide (fun m => by rw [← hBB]; exact rcU_succ Z x t m)
  clear hBB hEE HE16
  go_wp2_with (refine (HST.out _).mono ?_; rintro e w1 ⟨rfl, hw⟩; subst w1)
  clear HST cx
  go_loopw [7] (fun v wr => ∃ m : Nat, v = .int .i64 ((BB + m : Nat) : Int) ∧ BB + m ≤ EE ∧ Hid (∃ O, J O (rcU Z x t m) wr ∧ ∀ k, k < W.heap.size → O k → O0 k) ∧ Hid (Keeps O0 W wr)) (fun v _ => EE - (intOf v).toNat)
  case atStart => exact ⟨0, rfl, by omega, HJ0, hide (Keeps.refl _ _)⟩
  case round =>
    obtain ⟨m, rfl, hm, hJr, hK⟩ := hrel
    clear HJ0
    obtain ⟨i, hi⟩ : ∃ i, BB + m = i := ⟨_, rfl⟩
    rw [hi] at hm ⊢
    by_cases hlt : i < EE
    · have hlt' : (i : Int) < EE := by omega
      have hi16 : i < 16 := by omega
      have HUM : Hid (rcU Z x t (m + 1) = rcU Z x t m ++ vis Z (far x) (R t i)) := hide (by rw [← hi]; exact HUS.out m)
      have HPM : Hid (rcU Z x t (m + 1) <+: XS) := hide (HPX.out (m + 1) (by omega))
      have HI := hide hi
      clear hi
      have RR := HRK.out _ hK.out
      obtain ⟨c1, c2⟩ := RR.s.at hi16
      have cf := RR.f
      have HRZ : Hid (rX t i 0 = ((t % 8 : Nat) : Int) + sX i ∧ rY t i 0 = ((t / 8 : Nat) : Int) + sY i) := hide ⟨(rX_zero t i).symm, (rY_zero t i).symm⟩
      have hsb := sXY_bd hi16
      have HSX : Hid (∀ j, rX t i j + sX i = rX t i (j + 1)) := hide (rX_succ t i)
      have HSY : Hid (∀ j, rY t i j + sY i = rY t i (j + 1)) := hide (rY_succ t i)
      obtain ⟨ex, hex⟩ : ∃ ex, sX i = ex := ⟨_, rfl⟩
      obtain ⟨ey, hey⟩ : ∃ ey, sY i = ey := ⟨_, rfl⟩
      rw [hex] at hsb c1 HRZ HSX
      rw [hey] at hsb c2 HRZ HSY
      clear hex hey RR
      go_upto_region 4 with fail
      go_quiet (fail)
      go_upto_region 5 with fail
      have B1 : Below wr.heap.size wr (wr.drewN nq) := drewN_below _ _ _
      have K1 : Keeps O0 W (wr.drewN nq) := hK.out.trans (Keeps.of_all B1)
      have HJ1 := hide (HJK.out _ _ _ hJr.out B1)
      have cf := (HRK.out _ K1).f
      have HK1 := hide K1
      clear B1 K1 hJr hK c1 c2
      generalize wr.drewN nq = w1 at *
      go_quiet (fail)
      have B2 : Below w1.heap.size w1 (w1.drewN nq) := drewN_below _ _ _
      have HJ2 := hide (HJK.out _ _ _ HJ1.out B2)
      have HK2 : Hid (Keeps O0 W (w1.drewN nq)) := hide (HK1.out.trans (Keeps.of_all B2))
      clear B2 HJ1 HK1 cf
      generalize w1.drewN nq = w2 at *
      have z1 : (t : Int) % 8 + ex = rX t i 0 := by rw [HRZ.out.1]; omega
      have z2 : (t : Int) / 8 + ey = rY t i 0 := by rw [HRZ.out.2]; omega
      rw [z1, z2]
      clear z1 z2 HRZ
      have HJ3 : Hid (∃ O, J O (rcU Z x t m ++ (R t i).take 0) w2 ∧ ∀ k, k < W.heap.size → O k → O0 k) := hide (by rw [List.take_zero, List.append_nil]; exact HJ2.out)
      clear HJ2
      have HF0 : Hid (Fre Z x t i 0) := hide (by intro a ha; simp at ha)
      have HRLI := HRL.out i hi16
      go_wp2_with fail
      go_loopw [10, 11] (fun v u ws => ∃ j : Nat, v = .int .i64 (rX t i j) ∧ u = .int .i64 (rY t i j) ∧ j ≤ rl t i ∧ Hid (Fre Z x t i j) ∧ Hid (∃ O, J O (rcU Z x t m ++ (R t i).take j) ws ∧ ∀ k, k < W.heap.size → O k → O0 k) ∧ Hid (Keeps O0 W ws)) (fun v u _ => 9 - mz t i (intOf v) (intOf u))
      case atStart => exact ⟨0, rfl, rfl, by omega, HF0, HJ3, HK2⟩
      case round =>
        obtain ⟨j, rfl, rfl, hj, hF, hJs, hKs⟩ := hrel
        clear HJ3 HK2 HF0
        have hb := HXB.out i j hi16 hj
        have HIJ := hide (HII.out i j hi16 (by omega))
        have HMJ := hide (HMZ.out i j hi16 (by omega))
        by_cases hjl : j < rl t i
        · have HINT : Hid (∀ w, Calls Tryz.prog 113 #[.int .i64 (rX t i j), .int .i64 (rY t i j)] w fun e w' => e = .returned (.bool true) ∧ w' = w) := hide (fun w => by
            have h := HIN.out (rX t i j) (rY t i j) w
            rwa [HIJ.out, decide_eq_true hjl] at h)
          obtain ⟨hq64, hq⟩ := HRP.out i j hi16 hjl
          have hsx := HSX.out j
          have hsy := HSY.out j
          have hb1 := HXB.out i (j + 1) hi16 (by omega)
          have HMJ1 := hide (HMZ.out i (j + 1) hi16 (by omega))
          have HPF : Hid ((rcU Z x t m ++ (R t i).take j) ++ [rP t i j] <+: XS) := hide (by
            refine List.IsPrefix.trans ?_ HPM.out
            rw [HUM.out, List.append_assoc, List.prefix_append_right_inj]
            exact vis_on hF.out hjl)
          have HNXT : Hid (far x = true ∧ zg Z (rP t i j) = 0 → Fre Z x t i (j + 1)) := hide (fun h => Fre_succ hF.out hjl h)
          have HTK : Hid ((rcU Z x t m ++ (R t i).take j) ++ [rP t i j] = rcU Z x t m ++ (R t i).take (j + 1)) := hide (by rw [R_take_succ hjl, List.append_assoc])
          have HSTP : Hid (¬ (far x = true ∧ zg Z (rP t i j) = 0) → (rcU Z x t m ++ (R t i).take j) ++ [rP t i j] = rcU Z x t (m + 1)) := hide (fun h => by rw [HUM.out, vis_stop hF.out hjl h, List.append_assoc])
          clear HIJ hF
          obtain ⟨X, hX⟩ : ∃ X, rX t i j = X := ⟨_, rfl⟩
          obtain ⟨Y, hY⟩ : ∃ Y, rY t i j = Y := ⟨_, rfl⟩
          obtain ⟨X1, hX1⟩ : ∃ X1, rX t i (j + 1) = X1 := ⟨_, rfl⟩
          obtain ⟨Y1, hY1⟩ : ∃ Y1, rY t i (j + 1) = Y1 := ⟨_, rfl⟩
          obtain ⟨q, hqq⟩ : ∃ q, rP t i j = q := ⟨_, rfl⟩
          rw [hX, hY] at HINT hq hb HMJ ⊢
          rw [hX, hX1] at hsx
          rw [hY, hY1] at hsy
          rw [hX1, hY1] at hb1 HMJ1
          rw [hqq] at hq64 hq HPF HNXT HTK HSTP
          have HX1 := hide hX1
          have HY1 := hide hY1
          clear hX hY hX1 hY1 hqq
          obtain ⟨O, hJO, hOm⟩ := hJs.out
          have HOM := hide hOm
          obtain ⟨fn, tmps, assign, body, hy, hRR⟩ := YieldAt.anyD (m' := 0) (HY.out O _ q #[.int .i64 (q : Nat)] wr hJO HPF.out rfl (Nat.le_trans HN.out hKs.out.size))
          clear hOm hJO hJs HPF
          have hq' : Y * 8 + X = (q : Int) := hq.symm
          clear hq
          go_upto_region 9 with (refine (HINT.out _).mono ?_; rintro e ws1 ⟨rfl, hw⟩; subst ws1)
          refine (wpIn_wide (n := 1)).1 ?_
          gi_wp2
          refine hRR.mono ?_
          rintro e W3 ⟨hk3, O', hO', h3⟩
          have HK3 : Hid (Keeps O0 W W3) := hide ⟨hk3.os.trans hKs.out.os, hk3.tape.trans hKs.out.tape, hk3.output.trans hKs.out.output, Nat.le_trans hKs.out.size hk3.size, fun i hi hx => (hk3.block i (Nat.lt_of_lt_of_le hi hKs.out.size) (fun h => hx (HOM.out i hi h))).trans (hKs.out.block i hi hx)⟩
          have HO3 : Hid (∀ k, k < W.heap.size → O' k → O0 k) := hide (fun k hk h => HOM.out k hk (hO' k (Nat.lt_of_lt_of_le hk hKs.out.size) h))
          clear hy hRR hKs hk3 hO' HOM
          rcases h3 with ⟨rfl, hJ3⟩ | ⟨rfl, hJ3⟩
          · have HJ3 : Hid (∃ O, J O ((rcU Z x t m ++ (R t i).take j) ++ [q]) W3 ∧ ∀ k, k < W.heap.size → O k → O0 k) := hide ⟨O', hJ3, HO3.out⟩
            clear hJ3 HO3
            have RR := HRK.out _ HK3.out
            have cx := RR.x
            have ce := RR.e
            have HEQ := hide (HEM.out q hq64 W3 RR.st)
            clear RR
            have HGX := hide (HGF.out W3)
            gi_wp2
            cases hfar : far x with
            | false =>
              have HE : Hid (∃ O, J O (rcU Z x t (m + 1)) W3 ∧ ∀ k, k < W.heap.size → O k → O0 k) := hide (by rw [← HSTP.out (fun h => by rw [hfar] at h; exact absurd h.1 (by simp))]; exact HJ3.out)
              rw [hfar] at HGX
              clear HSTP HNXT HTK HJ3 hfar HEQ
              go_wp2_with (refine HGX.out.mono ?_; rintro e w5 ⟨rfl, hw⟩; subst w5)
              exact ⟨⟨m + 1, by have := HI.out; congr 1; omega, by have := HI.out; omega, HE, HK3⟩, by simp only [intOf]; omega⟩
            | true =>
              rw [hfar] at HGX
              by_cases hz : zg Z q = 0
              · have HF1 := hide (HNXT.out ⟨hfar, hz⟩)
                have HE : Hid (∃ O, J O (rcU Z x t m ++ (R t i).take (j + 1)) W3 ∧ ∀ k, k < W.heap.size → O k → O0 k) := hide (by rw [← HTK.out]; exact HJ3.out)
                rw [hz] at HEQ
                clear HSTP HNXT HTK HJ3 hfar hz
                go_wp2_with (first | (refine HGX.out.mono ?_; rintro e w5 ⟨rfl, hw⟩; subst w5) | (refine HEQ.out.mono ?_; rintro e w5 ⟨rfl, hw⟩; subst w5))
                refine ⟨⟨j + 1, by rw [HX1.out], by rw [HY1.out], by omega, HF1, HE, HK3⟩, ?_⟩
                simp only [intOf]
                rw [HMJ.out, HMJ1.out]
                omega
              · have hzb : (zg Z q == 0) = false := by simp [hz]
                have HE : Hid (∃ O, J O (rcU Z x t (m + 1)) W3 ∧ ∀ k, k < W.heap.size → O k → O0 k) := hide (by rw [← HSTP.out (fun h => hz h.2)]; exact HJ3.out)
                rw [hzb] at HEQ
                clear HSTP HNXT HTK HJ3 hfar hz hzb
                go_wp2_with (first | (refine HGX.out.mono ?_; rintro e w5 ⟨rfl, hw⟩; subst w5) | (refine HEQ.out.mono ?_; rintro e w5 ⟨rfl, hw⟩; subst w5))
                exact ⟨⟨m + 1, by have := HI.out; congr 1; omega, by have := HI.out; omega, HE, HK3⟩, by simp only [intOf]; omega⟩
          · have HJ3 := hide hJ3
            clear hJ3
            gi_wp2
            go_wp2_with fail
            refine bodyPost_ret (results_none rfl _ _ _) rfl ?_
            exact ⟨⟨_, rfl⟩, HK3.out, O', HO3.out, .inr HJ3.out⟩
        · have HINF : Hid (∀ w, Calls Tryz.prog 113 #[.int .i64 (rX t i j), .int .i64 (rY t i j)] w fun e w' => e = .returned (.bool false) ∧ w' = w) := hide (fun w => by
            have h := HIN.out (rX t i j) (rY t i j) w
            rwa [HIJ.out, decide_eq_false hjl] at h)
          obtain rfl : j = rl t i := by omega
          have HE : Hid (∃ O, J O (rcU Z x t (m + 1)) wr ∧ ∀ k, k < W.heap.size → O k → O0 k) := hide (by rw [HUM.out, vis_end hF.out]; exact hJs.out)
          clear hJs hF HIJ HMJ
          go_wp2_with (refine (HINF.out _).mono ?_; rintro e w5 ⟨rfl, hw⟩; subst w5)
          exact ⟨⟨m + 1, by have := HI.out; congr 1; omega, by have := HI.out; omega, HE, hKs⟩, by simp only [intOf]; omega⟩
    · have hme : m = EE - BB := by omega
      have hie : i = EE := by omega
      subst hie
      have HE : Hid (∃ O, J O XS wr ∧ ∀ k, k < W.heap.size → O k → O0 k) := hide (by rw [← HAL.out, ← hme]; exact hJr.out)
      clear hJr hme
      go_wp2_with fail
      refine bodyPost_end (results_none rfl _ _ _) rfl ?_
      obtain ⟨O, h1, h2⟩ := HE.out
      exact ⟨⟨_, rfl⟩, hK.out, O, h2, .inl h1⟩

end Go.Proofs.YtdmlamnonbmboaaGreatDoor
