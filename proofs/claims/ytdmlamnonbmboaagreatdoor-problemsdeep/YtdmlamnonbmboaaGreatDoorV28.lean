/-
  Chess: sets of places without some: what is free to leave its place. No conditions beyond those that each theorem bears.
  Chess: the pieces that can leave their places, walked. No conditions beyond those that each theorem bears.
-/
import Derived.Test.YtdmlamnonbmboaaGreatDoorV27
namespace Go.Proofs.YtdmlamnonbmboaaGreatDoor
open Go.RowKit Go.Shelf

theorem msk_not (p : Nat → Bool) {y : Nat} (hy : y < 64) : msk p 64 &&& (18446744073709551615 - 2 ^ y) = msk (fun j => p j && j != y) 64 := by
  have h1 : 18446744073709551615 - 2 ^ y = 2 ^ 64 - (2 ^ y + 1) := by rw [p64]; omega
  have h2 : 2 ^ y < 2 ^ 64 := Nat.pow_lt_pow_right (by omega) hy
  refine msk_ext (Nat.lt_of_le_of_lt Nat.and_le_left (msk_lt p 64 (by omega))) (fun j hj => ?_)
  rw [h1, Nat.testBit_and, msk_bit, Nat.testBit_two_pow_sub_succ h2, Nat.testBit_two_pow, decide_eq_true hj]
  by_cases e : y = j
  · subst e; simp
  · simp [e, Ne.symm e]
theorem andNot_msk (p : Nat → Bool) {y : Nat} (hy : y < 64) : bits BinOp.andNot .u64 ((msk p 64 : Nat) : Int) ((2 ^ y : Nat) : Int) = ((msk (fun j => p j && j != y) 64 : Nat) : Int) := by
  rw [u64_andNot_nat _ _ (msk_lt' p 64 (by omega)) (pow_lt64 hy), msk_not p hy]

/-- One's own pieces but those that are named. -/
def frS (Z : List Int) (t K : Nat) (s : List Nat) (q : Nat) : Bool := ownB Z t q && q != K && !(decide (q ∈ s))
theorem frS_nil (Z : List Int) (t K : Nat) : msk (frS Z t K []) 64 = msk (fun j => ownB Z t j && j != K) 64 := msk_congr (fun j _ => by unfold frS; simp)
theorem frS_snoc (Z : List Int) (t K : Nat) (s : List Nat) (y : Nat) : msk (frS Z t K (s ++ [y])) 64 = msk (fun j => frS Z t K s j && j != y) 64 := msk_congr (fun j _ => by
  unfold frS
  by_cases e : j = y
  · subst e; simp
  · have : (j != y) = true := by simp [e]
    simp [e, this])
theorem frS_one {Z : List Int} {t K : Nat} {e : Int} (h0 : atk Z K (1 - t) = []) (he : e = -1) : msk (frS Z t K (rch Z 5 K)) 64 = msk (fun q => ownB Z t q && frB Z t e K q) 64 := msk_congr (fun j _ => by
  unfold frS frB
  rw [decide_eq_true h0, decide_eq_true he]
  cases ownB Z t j <;> simp)
theorem frS_two {Z : List Int} {t K : Nat} {e : Int} (h0 : atk Z K (1 - t) = []) (he : e ≠ -1) : msk (frS Z t K (rch Z 5 K ++ rch Z (pc (1 - t) 1) e.toNat)) 64 = msk (fun q => ownB Z t q && frB Z t e K q) 64 := msk_congr (fun j _ => by
  unfold frS frB
  rw [decide_eq_true h0, decide_eq_false he]
  cases ownB Z t j <;> simp [Bool.and_assoc])
theorem frS_no {Z : List Int} {t K : Nat} {e : Int} (h0 : atk Z K (1 - t) ≠ []) : msk (fun q => ownB Z t q && frB Z t e K q) 64 = 0 := (msk_ext (by decide) (fun j _ => by
  unfold frB
  rw [decide_eq_false h0]
  simp)).symm

end Go.Proofs.YtdmlamnonbmboaaGreatDoor

namespace Go.Proofs.YtdmlamnonbmboaaGreatDoor
open Go.RowKit Go.Shelf

/-- Behind those that the queen reaches. -/
def frX (Z : List Int) (t K : Nat) (XS s : List Nat) (q : Nat) : Bool := frS Z t K (XS ++ s) q
theorem frX_nil (Z : List Int) (t K : Nat) (XS : List Nat) : frX Z t K XS [] = frS Z t K XS := by unfold frX; rw [List.append_nil]
theorem frX_snoc (Z : List Int) (t K : Nat) (XS s : List Nat) (y : Nat) : msk (frX Z t K XS (s ++ [y])) 64 = msk (fun j => frX Z t K XS s j && j != y) 64 := by
  unfold frX
  rw [← List.append_assoc]
  exact frS_snoc Z t K (XS ++ s) y

attribute [local irreducible] msk rch frS frX atk
attribute [local go_sem] Oper.semAt_some wide_fn wide_fn0 wide_depth

set_option maxRecDepth 100000 in
set_option maxHeartbeats 8000000 in
theorem free_any (b : Nat) (Z : List Int) (t : Nat) (k e h f : Int) (ht : t ≤ 1) (hz : Pz Z) (K : Nat) (hK : Fst Z (pc t 6) K) (he : e = -1 ∨ (0 ≤ e ∧ e < 64)) (w : World) (hs : Sb w b Z (t : Nat) k e h f) (hT : TabS w) :
    Calls Tryz.prog 61 #[.pointer (some ⟨b, 0, none⟩)] w fun r w' => r = .returned (.int .u64 (msk (fun q => ownB Z t q && frB Z t e K q) 64 : Nat)) ∧ Below w.heap.size w w' := by
  have HSB : Hid (∀ W, Below w.heap.size w W → Sb W b Z (t : Nat) k e h f ∧ TabS W) := hide (fun W hb => ⟨hs.mono hb, hT.mono hb⟩)
  have HKI := hide (kingS_any b Z t k e h f K hK w hs)
  have HAT : Hid (∀ W, Below w.heap.size w W → Calls Tryz.prog 83 #[.pointer (some ⟨b, 0, none⟩), .int .i64 (K : Nat)] W fun r w' => r = .returned (.bool (decide (atk Z K (1 - t) ≠ []))) ∧ Below W.heap.size W w') := hide (fun W hb => attackedS_any b Z t k e h f ht K hK.1 W (hs.mono hb) (hT.mono hb))
  have HOW : Hid (∀ W, Below w.heap.size w W → Calls Tryz.prog 62 #[.pointer (some ⟨b, 0, none⟩)] W fun r w' => r = .returned (.int .u64 (msk (ownB Z t) 64 : Nat)) ∧ w' = W) := hide (fun W hb => own_any b Z t k e h f hz W (hs.mono hb))
  have HJA := hide just_any
  have hK64 := hK.1
  have HLT1 := hide (rch_lt (Z := Z) (x := 5) (by unfold KX; omega) hK64)
  have HSQ1 := hide (fun xb fb eb => reachM_seq xb fb eb b 5 K Z (t : Nat) k e h f (by unfold KX; omega) hK64)
  obtain ⟨MM, hMM⟩ : ∃ MM, msk (fun q => ownB Z t q && frB Z t e K q) 64 = MM := ⟨_, rfl⟩
  rw [hMM]
  have HMM := hide hMM
  have HT1 := hide hT.lt
  have HBL := hide hs.lt
  clear hs hT hMM hK hz
  refine (callsIn_wide (n := 3)).1 ?_
  refine callsIn_of_wp_marks Tryz.func61 rfl trivial ?_ rfl
  simp only [Tryz.ntmps61, List.size_toArray, List.length_cons, List.length_nil, Nat.reduceAdd, Nat.reduceSub, Array.replicate_succ, Array.replicate_zero, List.push_toArray, List.append_toArray, List.nil_append, List.cons_append]
  refine wpIn_wide.2 ?_
  go_wp2_with fail
  refine HKI.out.mono ?_
  rintro r w1 ⟨rfl, hb1⟩
  have HB1 := hide hb1
  clear hb1
  go_wp2_with fail
  refine (HAT.out _ HB1.out).mono ?_
  rintro r wa ⟨rfl, hb2⟩
  have HB2 : Hid (Below w.heap.size w wa) := hide (HB1.out.trans (hb2.mono HB1.out.size))
  clear hb2 HB1
  by_cases h0 : atk Z K (1 - t) = []
  · have d0 : decide (atk Z K (1 - t) ≠ []) = false := decide_eq_false (fun hh => hh h0)
    rw [d0]
    clear d0
    have hor := andNot_msk (ownB Z t) hK64
    have hfn := frS_nil Z t K
    rw [← hfn] at hor
    clear hfn
    have HJK := hide (HJA.out K hK64)
    have hp := pow_lt64 hK64
    generalize hKp : 2 ^ K = pK at *
    obtain ⟨Mo, hMo⟩ : ∃ Mo, msk (ownB Z t) 64 = Mo := ⟨_, rfl⟩
    rw [hMo] at hor HOW
    obtain ⟨M0, hM0⟩ : ∃ M0, msk (frS Z t K []) 64 = M0 := ⟨_, rfl⟩
    rw [hM0] at hor
    go_upto_region 5 with (first | (go_at_call 62; refine (HOW.out _ HB2.out).mono ?_; rintro e w5 ⟨rfl, hw⟩; subst w5) | (go_at_call 65; refine (HJK.out _).mono ?_; rintro e w5 ⟨rfl, hw⟩; subst w5))
    obtain ⟨w2, hw2⟩ : ∃ w2, wa.alloc (.cells #[.int .u64 (M0 : Nat)] 87) = w2 := ⟨_, rfl⟩
    rw [hw2]
    obtain ⟨g, hg⟩ : ∃ g, wa.heap.size = g := ⟨_, rfl⟩
    have Ba2 : Below wa.heap.size wa w2 := by rw [← hw2]; exact (Below.refl _ _).alloc (Nat.le_refl _) _
    have s2 : w2.heap.size = g + 1 := by rw [← hw2, ← hg]; simp
    have V2 : Vb w2 g 87 [.int .u64 (msk (frS Z t K []) 64 : Nat)] := by rw [hM0, ← hw2, ← hg]; exact Vb.new wa 87 _
    have B2 : Below w.heap.size w w2 := HB2.out.trans (Ba2.mono HB2.out.size)
    have hgw : w.heap.size ≤ g := by rw [← hg]; exact HB2.out.size
    have S2 := HSB.out w2 B2
    have h1w := HT1.out
    have hbl := HBL.out
    have HS2 : Hid (∀ W, Below g w2 W → Sb W b Z (t : Nat) k e h f ∧ TabS W) := hide (fun W hb => ⟨S2.1.below hb (by omega), fun i hi => (hb.cell (p := ⟨1, i, none⟩) (by show 1 < _; omega)).trans (S2.2 i hi)⟩)
    have HB2w := hide B2
    have HV2 := hide V2
    rw [hg]
    clear hw2 Ba2 V2 B2 hor HJK hp hKp hMo hM0 S2 HOW HKI HAT
    go_wp2_with fail
    refine (reachM_any 5 K b _).mono ?_
    rintro r w3 ⟨rfl, hw3⟩
    have B23 : Below w2.heap.size w2 w3 := by rw [hw3]; exact (((Below.refl _ _).alloc (Nat.le_refl _) _).alloc (by simp) _).alloc (by simp; omega) _
    have s3 : w3.heap.size = g + 4 := by rw [hw3]; simp [s2]
    have R3 := RmR.new 5 K (HS2.out w2 (Below.refl _ _)).1 (HS2.out w2 (Below.refl _ _)).2
    rw [← hw3, s2] at R3
    have HR3 := hide R3
    have HI3 : Hid (TgI g w2 (frS Z t K) (fun j => j = g) [] w3) := hide ⟨fun j => Iff.rfl, HV2.out.mono B23, B23.mono (by omega)⟩
    have HWW : Hid (w2.heap.size = g + 1 ∧ w3.heap.size = g + 4 ∧ b < g ∧ 1 < g ∧ w.heap.size ≤ g) := hide ⟨s2, s3, by omega, by omega, hgw⟩
    rw [s2]
    clear hw3 B23 s3 R3 s2 h1w hbl hgw
    go_wp2_with fail
    obtain ⟨XS, hXS⟩ : ∃ XS, rch Z 5 K = XS := ⟨_, rfl⟩
    have HXS := hide hXS
    rw [hXS] at HSQ1 HLT1
    clear hXS
    refine (wpIn_wide (n := 1)).1 (wp_range_o (gf := 111) (lb := #[.pointer (some ⟨g + 1, 0, none⟩), .pointer (some ⟨g + 1 + 1, 0, none⟩), .pointer (some ⟨g + 1 + 2, 0, none⟩)]) (G := RcG) (xs := XS) (R := RmR (g + 1) (g + 1 + 1) (g + 1 + 2) b 5 K Z (t : Nat) k e h f) (T := RmT (g + 1) (g + 1 + 1) (g + 1 + 2) b) (by simp [Act.eval]) (enters_of Tryz.func111 (by kernel_rfl) rfl)
      (HSQ1.out _ _ _) (fun j hj => HR3.out.lt j hj) (fun A hA => HR3.out.keeps (X := fun _ => False) (Keeps.of_all hA) (fun _ _ h => h)) (fun x args W' hG => by rw [hG]; rfl)
      (fun O s W' => TgI g w2 (frS Z t K) O s W') (fun _ _ _ => False) (fun j => j = g) ?hC HI3.out ?round ?done (fun _ _ _ _ _ h => h.elim))
    case hC =>
      intro d
      have z1 := HWW.out
      refine ⟨?_, (fun _ _ h => h.elim), ?_, (fun _ _ _ h => h.elim)⟩
      · rintro O s A h j hj
        obtain rfl := (h.o j).1 hj
        exact ⟨h.a.lt, fun e => by unfold RmT at e; omega⟩
      · rintro O s A B h hk
        exact ⟨h.o, h.a.keeps hk (fun e => by omega), h.bl.trans (hk.below (Nat.le_of_lt h.a.lt) (fun j hj e => by omega))⟩
    case round =>
      rintro l2 O sx y args W6 hl2 ⟨rec, hrec⟩ hI6 hOl _ _ hpre hGx hsz6
      obtain rfl : args = #[.int .i64 (y : Nat)] := hGx
      have hy64 := HLT1.out y (hpre.subset (show y ∈ sx ++ [y] by simp))
      have HI6 := hide hI6
      have HSZ6 := hide hsz6
      have HL2 := hide hl2
      clear hI6 hpre hrec hOl hsz6 hl2
      gi_wp2
      refine ⟨Below.refl _ _, ?_⟩
      intro W7 hk7
      have z1 := HWW.out
      have z3 := HSZ6.out
      have z4 := HL2.out
      have I7 : TgI g w2 (frS Z t K) O sx W7 := ⟨HI6.out.o, HI6.out.a.keeps hk7 (fun e => by omega), HI6.out.bl.trans (hk7.below (Nat.le_of_lt HI6.out.a.lt) (fun j hj e => by omega))⟩
      have HI7 := hide I7
      have HJY := hide (HJA.out y hy64)
      have hor := andNot_msk ((frS Z t K) sx) hy64
      have hY := frS_snoc Z t K sx y
      obtain ⟨mp, hmp⟩ : ∃ mp, msk (fun j => (frS Z t K) sx j && j != y) 64 = mp := ⟨_, rfl⟩
      rw [hmp] at hor hY
      have V7d : Vb W7.drew g 87 [.int .u64 (msk ((frS Z t K) sx) 64 : Nat)] := HI7.out.a.mono (drewN_below _ _ 1)
      have ca := V7d.cell (i := 0) rfl
      have fa := V7d.frozen 0
      have kd : Keeps O W7 W7.drew := Keeps.of_all (drewN_below _ _ 1)
      have kk : Keeps (fun j => j = g) W7.drew (W7.drew.setCell ⟨g, 0, none⟩ (.int .u64 (mp : Nat))) := Keeps.set1 _ _ _ _
      have HV9 : Hid (Vb (W7.drew.setCell ⟨g, 0, none⟩ (.int .u64 (mp : Nat))) g 87 [.int .u64 (msk ((frS Z t K) (sx ++ [y])) 64 : Nat)]) := hide (by rw [hY]; exact V7d.set 0 _)
      have HK9 : Hid (Keeps O W7 (W7.drew.setCell ⟨g, 0, none⟩ (.int .u64 (mp : Nat)))) := hide (kd.trans (kk.mono (fun j _ e => (HI7.out.o j).2 e)))
      have HB9 : Hid (Below g w2 (W7.drew.setCell ⟨g, 0, none⟩ (.int .u64 (mp : Nat)))) := hide ((HI7.out.bl.trans ((drewN_below _ _ 1).mono (Nat.le_of_lt HI7.out.a.lt))).trans (kk.below (Nat.le_of_lt V7d.lt) (fun j hj e => by omega)))
      clear hY hmp V7d kd kk hk7 HI6 z1 z3 z4 I7
      generalize msk ((frS Z t K) sx) 64 = M at *
      generalize 2 ^ y = py at *
      gi_wp2
      refine wp_region_round (S := fun _ => True) (by kernel_rfl) (by kernel_rfl) (by rintro ⟨_, _, h⟩; exact h) ?_
      have SW : True := trivial
      refine wpAnyH_take (i := 1) (v := .int .i64 (y : Nat)) rfl (by kernel_rfl) (by kernel_rfl) (by kernel_rfl) (fun _ _ _ h => h) (Or.inl ⟨by rfl, ?_⟩) SW ?_
      · intro W5 hW5
        go_simp <;> first | done | rfl | (rw [IntKind.wrap_i64]; omega) | omega
      go_simp
      refine wpAnyH_ready (rs := [0, 2]) (by kernel_rfl) (by simp) ?_
      refine AllReadyH.cons rfl (fun K1 hK1 => ?_) (AllReadyH.cons rfl (fun K1 hK1 => ?_) AllReadyH.nil)
      · go_simp
        refine hK1.out _ _ SW (fun SW => ?_)
        clear hK1 K1
        go_simp
        refine wpAnyH_ready (rs := [2]) (by kernel_rfl) (by simp) ?_
        refine AllReadyH.cons rfl (fun K1 hK1 => ?_) AllReadyH.nil
        go_simp
        refine (HJY.out _).mono ?_
        rintro r w5 ⟨rfl, hw⟩
        subst w5
        refine hK1.out _ _ SW (fun SW => ?_)
        clear hK1 K1
        go_simp
        refine wpAnyH_take (i := 3) (v := .int .u64 (mp : Nat)) rfl (by kernel_rfl) (by kernel_rfl) (by kernel_rfl) (fun _ _ _ h => h) (Or.inl ⟨by rfl, ?_⟩) SW ?_
        · intro W5 hW5
          go_simp <;> first | done | rfl | (rw [IntKind.wrap_i64]; omega) | omega
        go_simp
        refine wpAnyH_ready (rs := [4]) (by kernel_rfl) (by simp) ?_
        refine AllReadyH.cons rfl (fun K1 hK1 => ?_) AllReadyH.nil
        go_simp
        refine hK1.out _ _ trivial (fun SW => ?_)
        clear hK1 K1
        go_simp
        refine wpAnyH_done (by kernel_rfl) ?_ _
        clear SW
        gi_wp2
        exact ⟨HK9.out, O, fun _ _ h => h, HI7.out.o, HV9.out, HB9.out⟩
      · go_simp
        refine (HJY.out _).mono ?_
        rintro r w5 ⟨rfl, hw⟩
        subst w5
        refine hK1.out _ _ SW (fun SW => ?_)
        clear hK1 K1
        go_simp
        refine wpAnyH_ready (rs := [0]) (by kernel_rfl) (by simp) ?_
        refine AllReadyH.cons rfl (fun K1 hK1 => ?_) AllReadyH.nil
        go_simp
        refine hK1.out _ _ SW (fun SW => ?_)
        clear hK1 K1
        go_simp
        refine wpAnyH_take (i := 3) (v := .int .u64 (mp : Nat)) rfl (by kernel_rfl) (by kernel_rfl) (by kernel_rfl) (fun _ _ _ h => h) (Or.inl ⟨by rfl, ?_⟩) SW ?_
        · intro W5 hW5
          go_simp <;> first | done | rfl | (rw [IntKind.wrap_i64]; omega) | omega
        go_simp
        refine wpAnyH_ready (rs := [4]) (by kernel_rfl) (by simp) ?_
        refine AllReadyH.cons rfl (fun K1 hK1 => ?_) AllReadyH.nil
        go_simp
        refine hK1.out _ _ trivial (fun SW => ?_)
        clear hK1 K1
        go_simp
        refine wpAnyH_done (by kernel_rfl) ?_ _
        clear SW
        gi_wp2
        exact ⟨HK9.out, O, fun _ _ h => h, HI7.out.o, HV9.out, HB9.out⟩
    case done =>
      rintro D O W6 hD hI6 hk6 hm6 hKD
      have z1 := HWW.out
      have V6 := hI6.a
      have B6 := hI6.bl
      have HDD : Hid (D = g + 4) := hide (by rw [hD]; exact z1.2.1)
      have x66 := (HS2.out W6 B6).1.ends.2.2.1
      rcases he with he | he
      · have HMV : Hid (MM = msk (frS Z t K XS) 64) := hide (by rw [← HMM.out, ← frS_one h0 he, HXS.out])
        have c6 := V6.cell (i := 0) rfl
        have HBF : Hid (Below w.heap.size w W6) := hide (HB2w.out.trans (B6.mono (by omega)))
        have HMK : Hid (Mks (fun _ => False) g W6 [{ target := .collected D, args := #[] }]) := hide ⟨[D], rfl, by simp, fun E hE => by rw [List.mem_singleton.1 hE]; exact ⟨hKD, by have := HDD.out; omega, fun h => h⟩⟩
        subst he
        clear V6 B6 hI6 hk6 hm6 hKD hD z1 HMM
        generalize msk (frS Z t K XS) 64 = M at *
        go_wp2_with fail
        refine leaves_mks HMK.out (fun w9 hk9 => ?_)
        exact ⟨_, results_tmp rfl _ _ _, by rw [HMV.out]; rfl, HBF.out.trans (hk9.below HBF.out.size (fun j hj e => by have := e.1; have := HWW.out; omega))⟩
      · obtain ⟨en, rfl⟩ := Int.eq_ofNat_of_zero_le he.1
        have hen : en < 64 := by omega
        have hene : (en : Int) ≠ -1 := by omega
        have bne1 : (((en : Nat) : Int) != -1) = true := by rw [bne_iff_ne]; exact hene
        have HFT := hide (frS_two (Z := Z) (t := t) (K := K) h0 hene)
        rw [Int.toNat_natCast, HXS.out, HMM.out] at HFT
        have HOT := hide (other_any t ht)
        have HPW := hide (pieceOf_any (1 - t) 1 (by omega))
        have hkx : KX (pc (1 - t) 1) := pc_kx (b := 1 - t) (k := 0) (by omega)
        have HLT2 := hide (rch_lt (Z := Z) hkx hen)
        have HSQ2 := hide (fun xb fb eb => reachM_seq xb fb eb b (pc (1 - t) 1) en Z (t : Nat) k (en : Nat) h f hkx hen)
        obtain ⟨YS, hYS⟩ : ∃ YS, rch Z (pc (1 - t) 1) en = YS := ⟨_, rfl⟩
        rw [hYS] at HLT2 HSQ2 HFT
        obtain ⟨Pq, hPq⟩ : ∃ Pq, pc (1 - t) 1 = Pq := ⟨_, rfl⟩
        rw [hPq] at HPW HSQ2
        obtain ⟨os, hos⟩ : ∃ os, 1 - t = os := ⟨_, rfl⟩
        rw [hos] at HOT HPW
        obtain ⟨sz, hsz⟩ : ∃ sz, W6.heap.size = sz := ⟨_, rfl⟩
        have hDlt := (Array.getElem?_eq_some_iff.1 hKD).1
        rw [hsz] at hDlt
        have hglt := V6.lt
        rw [hsz] at hglt
        have V6d : Vb W6.drew g 87 [.int .u64 (msk (frS Z t K XS) 64 : Nat)] := V6.mono (drewN_below _ _ 1)
        have B6d : Below g w2 W6.drew := B6.trans ((drewN_below _ _ 1).mono (Nat.le_of_lt V6.lt))
        have HD6 : Hid (W6.drew.heap[D]? = some (.deferred (some []))) := hide hKD
        have HV6 := hide V6d
        have szd : W6.drew.heap.size = sz := hsz
        clear V6 V6d B6 hI6 hk6 hm6 hKD hD z1 hkx hYS hPq hos HMM he ht
        go_upto_region 9 with fail
        refine wp_calm2 ?_
        refine wp_region_held (S := fun W5 => Below g w2 W5) (by kernel_rfl) ?_
        change wpAnyH _ _ _ _ _ _ _ _ (World.drew _)
        have SW : Below g w2 W6.drew := B6d
        clear x66
        generalize W6.drew = wd at *
        refine wpAnyH_take (i := 0) (v := .pointer (some ⟨b, 0, none⟩)) rfl (by kernel_rfl) (by kernel_rfl) (by kernel_rfl) (fun _ _ _ h => h) (Or.inl ⟨by rfl, ?_⟩) SW ?_
        · intro W5 hW5
          go_simp <;> first | done | rfl | (rw [IntKind.wrap_i64]; omega) | omega
        go_simp
        refine wpAnyH_take (i := 1) (v := .pointer (some ⟨b, 0, none⟩)) rfl (by kernel_rfl) (by kernel_rfl) (by kernel_rfl) (fun _ _ _ h => h) (Or.inl ⟨by rfl, ?_⟩) SW ?_
        · intro W5 hW5
          go_simp <;> first | done | rfl | (rw [IntKind.wrap_i64]; omega) | omega
        go_simp
        refine wpAnyH_take (i := 2) (v := .pointer (some ⟨b, 64, none⟩)) rfl (by kernel_rfl) (by kernel_rfl) (by kernel_rfl) (fun _ _ _ h => h) (Or.inl ⟨by rfl, ?_⟩) SW ?_
        · intro W5 hW5
          go_simp <;> first | done | rfl | (rw [IntKind.wrap_i64]; omega) | omega
        go_simp
        refine wpAnyH_take (i := 3) (v := .int .i64 (t : Nat)) rfl (by kernel_rfl) (by kernel_rfl) (by kernel_rfl) (fun _ _ _ h => h) (Or.inl ⟨by rfl, ?_⟩) SW ?_
        · intro W5 hW5
          have q6 := (HS2.out W5 hW5).1.ends.1
          go_simp <;> first | done | rfl | (rw [IntKind.wrap_i64]; omega) | omega
        go_simp
        refine wpAnyH_take (i := 6) (v := .pointer (some ⟨b, 0, none⟩)) rfl (by kernel_rfl) (by kernel_rfl) (by kernel_rfl) (fun _ _ _ h => h) (Or.inl ⟨by rfl, ?_⟩) SW ?_
        · intro W5 hW5
          go_simp <;> first | done | rfl | (rw [IntKind.wrap_i64]; omega) | omega
        go_simp
        refine wpAnyH_take (i := 7) (v := .pointer (some ⟨b, 0, none⟩)) rfl (by kernel_rfl) (by kernel_rfl) (by kernel_rfl) (fun _ _ _ h => h) (Or.inl ⟨by rfl, ?_⟩) SW ?_
        · intro W5 hW5
          go_simp <;> first | done | rfl | (rw [IntKind.wrap_i64]; omega) | omega
        go_simp
        refine wpAnyH_take (i := 8) (v := .pointer (some ⟨b, 66, none⟩)) rfl (by kernel_rfl) (by kernel_rfl) (by kernel_rfl) (fun _ _ _ h => h) (Or.inl ⟨by rfl, ?_⟩) SW ?_
        · intro W5 hW5
          go_simp <;> first | done | rfl | (rw [IntKind.wrap_i64]; omega) | omega
        go_simp
        refine wpAnyH_take (i := 9) (v := .int .i64 (en : Nat)) rfl (by kernel_rfl) (by kernel_rfl) (by kernel_rfl) (fun _ _ _ h => h) (Or.inl ⟨by rfl, ?_⟩) SW ?_
        · intro W5 hW5
          have q6 := (HS2.out W5 hW5).1.ends.2.2.1
          go_simp <;> first | done | rfl | (rw [IntKind.wrap_i64]; omega) | omega
        go_simp
        refine wpAnyH_take (i := 10) (v := .pointer (some ⟨b, 0, none⟩)) rfl (by kernel_rfl) (by kernel_rfl) (by kernel_rfl) (fun _ _ _ h => h) (Or.inl ⟨by rfl, ?_⟩) SW ?_
        · intro W5 hW5
          go_simp <;> first | done | rfl | (rw [IntKind.wrap_i64]; omega) | omega
        go_simp
        refine wpAnyH_take (i := 11) (v := .func (.func 53) #[.pointer (some ⟨b, 0, none⟩)] #[]) rfl (by kernel_rfl) (by kernel_rfl) (by kernel_rfl) (fun _ _ _ h => h) (Or.inl ⟨by rfl, ?_⟩) SW ?_
        · intro W5 hW5
          go_simp <;> first | done | rfl | (rw [IntKind.wrap_i64]; omega) | omega
        go_simp
        refine wpAnyH_ready (rs := [4]) (by kernel_rfl) (by simp) ?_
        refine AllReadyH.cons rfl (fun K1 hK1 => ?_) AllReadyH.nil
        go_simp
        refine (HOT.out _).mono ?_
        rintro r w5 ⟨rfl, hw⟩
        subst w5
        refine hK1.out _ _ SW (fun SW => ?_)
        clear hK1 K1
        go_simp
        refine wpAnyH_ready (rs := [5]) (by kernel_rfl) (by simp) ?_
        refine AllReadyH.cons rfl (fun K1 hK1 => ?_) AllReadyH.nil
        go_simp
        refine (HPW.out _).mono ?_
        rintro r w5 ⟨rfl, hw⟩
        subst w5
        refine hK1.out _ _ SW (fun SW => ?_)
        clear hK1 K1
        go_simp
        refine wpAnyH_ready (rs := [12]) (by kernel_rfl) (by simp) ?_
        refine AllReadyH.cons rfl (fun K1 hK1 => ?_) AllReadyH.nil
        go_simp
        refine (reachM_any Pq en b _).mono ?_
        rintro r w7 ⟨rfl, hw7⟩
        have B7 : Below wd.heap.size wd w7 := by rw [hw7]; exact (((Below.refl _ _).alloc (Nat.le_refl _) _).alloc (by simp) _).alloc (by simp; omega) _
        have s7 : w7.heap.size = sz + 3 := by rw [hw7]; simp [szd]
        have R7 := RmR.new Pq en (HS2.out wd B6d).1 (HS2.out wd B6d).2
        rw [← hw7, szd] at R7
        have HR7 := hide R7
        have HI7x : Hid (TgI g w2 (frX Z t K XS) (fun j => j = g) [] w7) := hide ⟨fun j => Iff.rfl, by rw [frX_nil]; exact HV6.out.mono B7, B6d.trans (B7.mono (by omega))⟩
        have HD7 : Hid (w7.heap[D]? = some (.deferred (some []))) := hide ((B7.block D (by omega)).trans HD6.out)
        have HZZ : Hid (w7.heap.size = sz + 3 ∧ D < sz ∧ g < sz) := hide ⟨s7, hDlt, hglt⟩
        refine hK1.out _ _ (B6d.trans (B7.mono (by omega))) (fun SW => ?_)
        rw [szd]
        clear hK1 K1 hw7 B7 s7 R7 SW szd hsz hDlt hglt
        go_simp
        refine wpAnyH_done (by kernel_rfl) ?_ _
        go_wp2_with fail
        refine (wpIn_wide (n := 1)).1 (wp_range_o (gf := 111) (lb := #[.pointer (some ⟨sz, 0, none⟩), .pointer (some ⟨sz + 1, 0, none⟩), .pointer (some ⟨sz + 2, 0, none⟩)]) (G := RcG) (xs := YS) (R := RmR sz (sz + 1) (sz + 2) b Pq en Z (t : Nat) k (en : Nat) h f) (T := RmT sz (sz + 1) (sz + 2) b) (by simp [Act.eval]) (enters_of Tryz.func111 (by kernel_rfl) rfl)
          (HSQ2.out _ _ _) (fun j hj => HR7.out.lt j hj) (fun A hA => HR7.out.keeps (X := fun _ => False) (Keeps.of_all hA) (fun _ _ h => h)) (fun x args W' hG => by rw [hG]; rfl)
          (fun O s W' => TgI g w2 (frX Z t K XS) O s W' ∧ W'.heap[D]? = some (.deferred (some []))) (fun _ _ _ => False) (fun j => j = g) ?hC ⟨HI7x.out, HD7.out⟩ ?round ?done (fun _ _ _ _ _ h => h.elim))
        case hC =>
          intro d
          have z1 := HWW.out
          have z2 := HZZ.out
          have z3 := HDD.out
          refine ⟨?_, (fun _ _ h => h.elim), ?_, (fun _ _ _ h => h.elim)⟩
          · rintro O s A ⟨h, _⟩ j hj
            obtain rfl := (h.o j).1 hj
            exact ⟨h.a.lt, fun e => by unfold RmT at e; omega⟩
          · rintro O s A B ⟨h, hd8⟩ hk
            exact ⟨⟨h.o, h.a.keeps hk (fun e => by omega), h.bl.trans (hk.below (Nat.le_of_lt h.a.lt) (fun j hj e => by omega))⟩, (hk.block D (Array.getElem?_eq_some_iff.1 hd8).1 (fun e => by omega)).trans hd8⟩
        case round =>
          rintro l2 O sx y args W8 hl2 ⟨rec, hrec⟩ ⟨hI6, hd8⟩ hOl _ _ hpre hGx hsz6
          obtain rfl : args = #[.int .i64 (y : Nat)] := hGx
          have hy64 := HLT2.out y (hpre.subset (show y ∈ sx ++ [y] by simp))
          have HI6 := hide hI6
          have HSZ6 := hide hsz6
          have HL2 := hide hl2
          clear hI6 hpre hrec hOl hsz6 hl2
          gi_wp2
          refine ⟨Below.refl _ _, ?_⟩
          intro W7 hk7
          have z1 := HWW.out
          have z2 := HZZ.out
          have z3 := HSZ6.out
          have z4 := HL2.out
          have I7 : TgI g w2 (frX Z t K XS) O sx W7 := ⟨HI6.out.o, HI6.out.a.keeps hk7 (fun e => by omega), HI6.out.bl.trans (hk7.below (Nat.le_of_lt HI6.out.a.lt) (fun j hj e => by omega))⟩
          have HI7 := hide I7
          have HJY := hide (HJA.out y hy64)
          have hor := andNot_msk ((frX Z t K XS) sx) hy64
          have hY := frX_snoc Z t K XS sx y
          obtain ⟨mp, hmp⟩ : ∃ mp, msk (fun j => (frX Z t K XS) sx j && j != y) 64 = mp := ⟨_, rfl⟩
          rw [hmp] at hor hY
          have V7d : Vb W7.drew g 87 [.int .u64 (msk ((frX Z t K XS) sx) 64 : Nat)] := HI7.out.a.mono (drewN_below _ _ 1)
          have ca := V7d.cell (i := 0) rfl
          have fa := V7d.frozen 0
          have kd : Keeps O W7 W7.drew := Keeps.of_all (drewN_below _ _ 1)
          have kk : Keeps (fun j => j = g) W7.drew (W7.drew.setCell ⟨g, 0, none⟩ (.int .u64 (mp : Nat))) := Keeps.set1 _ _ _ _
          have HV9 : Hid (Vb (W7.drew.setCell ⟨g, 0, none⟩ (.int .u64 (mp : Nat))) g 87 [.int .u64 (msk ((frX Z t K XS) (sx ++ [y])) 64 : Nat)]) := hide (by rw [hY]; exact V7d.set 0 _)
          have HK9 : Hid (Keeps O W7 (W7.drew.setCell ⟨g, 0, none⟩ (.int .u64 (mp : Nat)))) := hide (kd.trans (kk.mono (fun j _ e => (HI7.out.o j).2 e)))
          have HB9 : Hid (Below g w2 (W7.drew.setCell ⟨g, 0, none⟩ (.int .u64 (mp : Nat)))) := hide ((HI7.out.bl.trans ((drewN_below _ _ 1).mono (Nat.le_of_lt HI7.out.a.lt))).trans (kk.below (Nat.le_of_lt V7d.lt) (fun j hj e => by omega)))
          have hd7 := (hk7.block D (by omega) (fun e => by omega)).trans hd8
          have HD9 : Hid ((W7.drew.setCell ⟨g, 0, none⟩ (.int .u64 (mp : Nat))).heap[D]? = some (.deferred (some []))) := hide ((kk.block D (Array.getElem?_eq_some_iff.1 hd7).1 (fun e => by have := HDD.out; omega)).trans hd7)
          clear hY hmp V7d kd kk hk7 HI6 z1 z2 z3 z4 I7 hd8 hd7
          generalize msk ((frX Z t K XS) sx) 64 = M at *
          generalize 2 ^ y = py at *
          gi_wp2
          refine wp_region_round (S := fun _ => True) (by kernel_rfl) (by kernel_rfl) (by rintro ⟨_, _, h⟩; exact h) ?_
          have SW : True := trivial
          refine wpAnyH_take (i := 1) (v := .int .i64 (y : Nat)) rfl (by kernel_rfl) (by kernel_rfl) (by kernel_rfl) (fun _ _ _ h => h) (Or.inl ⟨by rfl, ?_⟩) SW ?_
          · intro W5 hW5
            go_simp <;> first | done | rfl | (rw [IntKind.wrap_i64]; omega) | omega
          go_simp
          refine wpAnyH_ready (rs := [0, 2]) (by kernel_rfl) (by simp) ?_
          refine AllReadyH.cons rfl (fun K1 hK1 => ?_) (AllReadyH.cons rfl (fun K1 hK1 => ?_) AllReadyH.nil)
          · go_simp
            refine hK1.out _ _ SW (fun SW => ?_)
            clear hK1 K1
            go_simp
            refine wpAnyH_ready (rs := [2]) (by kernel_rfl) (by simp) ?_
            refine AllReadyH.cons rfl (fun K1 hK1 => ?_) AllReadyH.nil
            go_simp
            refine (HJY.out _).mono ?_
            rintro r w5 ⟨rfl, hw⟩
            subst w5
            refine hK1.out _ _ SW (fun SW => ?_)
            clear hK1 K1
            go_simp
            refine wpAnyH_take (i := 3) (v := .int .u64 (mp : Nat)) rfl (by kernel_rfl) (by kernel_rfl) (by kernel_rfl) (fun _ _ _ h => h) (Or.inl ⟨by rfl, ?_⟩) SW ?_
            · intro W5 hW5
              go_simp <;> first | done | rfl | (rw [IntKind.wrap_i64]; omega) | omega
            go_simp
            refine wpAnyH_ready (rs := [4]) (by kernel_rfl) (by simp) ?_
            refine AllReadyH.cons rfl (fun K1 hK1 => ?_) AllReadyH.nil
            go_simp
            refine hK1.out _ _ trivial (fun SW => ?_)
            clear hK1 K1
            go_simp
            refine wpAnyH_done (by kernel_rfl) ?_ _
            clear SW
            gi_wp2
            exact ⟨HK9.out, O, fun _ _ h => h, ⟨HI7.out.o, HV9.out, HB9.out⟩, HD9.out⟩
          · go_simp
            refine (HJY.out _).mono ?_
            rintro r w5 ⟨rfl, hw⟩
            subst w5
            refine hK1.out _ _ SW (fun SW => ?_)
            clear hK1 K1
            go_simp
            refine wpAnyH_ready (rs := [0]) (by kernel_rfl) (by simp) ?_
            refine AllReadyH.cons rfl (fun K1 hK1 => ?_) AllReadyH.nil
            go_simp
            refine hK1.out _ _ SW (fun SW => ?_)
            clear hK1 K1
            go_simp
            refine wpAnyH_take (i := 3) (v := .int .u64 (mp : Nat)) rfl (by kernel_rfl) (by kernel_rfl) (by kernel_rfl) (fun _ _ _ h => h) (Or.inl ⟨by rfl, ?_⟩) SW ?_
            · intro W5 hW5
              go_simp <;> first | done | rfl | (rw [IntKind.wrap_i64]; omega) | omega
            go_simp
            refine wpAnyH_ready (rs := [4]) (by kernel_rfl) (by simp) ?_
            refine AllReadyH.cons rfl (fun K1 hK1 => ?_) AllReadyH.nil
            go_simp
            refine hK1.out _ _ trivial (fun SW => ?_)
            clear hK1 K1
            go_simp
            refine wpAnyH_done (by kernel_rfl) ?_ _
            clear SW
            gi_wp2
            exact ⟨HK9.out, O, fun _ _ h => h, ⟨HI7.out.o, HV9.out, HB9.out⟩, HD9.out⟩
        case done =>
          rintro D2 O W9 hD2 ⟨hI9, hd9⟩ hk9 hm9 hKD2
          have z1 := HWW.out
          have z2 := HZZ.out
          have V9 := hI9.a
          have c9 := V9.cell (i := 0) rfl
          have HBF : Hid (Below w.heap.size w W9) := hide (HB2w.out.trans (hI9.bl.mono (by omega)))
          have HMK : Hid (Mks (fun _ => False) g W9 [{ target := .collected D2, args := #[] }, { target := .collected D, args := #[] }]) := hide ⟨[D2, D], rfl, by simp; omega, fun E hE => by
            rcases List.mem_cons.1 hE with rfl | hE
            · exact ⟨hKD2, by omega, fun h => h⟩
            · rw [List.mem_singleton.1 hE]; exact ⟨hd9, by have := HDD.out; omega, fun h => h⟩⟩
          have HFM : Hid (MM = msk (frX Z t K XS YS) 64) := hide (by unfold frX; exact HFT.out.symm)
          clear V9 hI9 hd9 hk9 hm9 hKD2 hD2 z1 z2 HFT
          generalize msk (frX Z t K XS YS) 64 = M at *
          go_wp2_with fail
          refine leaves_mks HMK.out (fun w9 hk9 => ?_)
          exact ⟨_, results_tmp rfl _ _ _, by rw [HFM.out]; rfl, HBF.out.trans (hk9.below HBF.out.size (fun j hj e => by have := e.1; have := HWW.out; omega))⟩
  · have d0 : decide (atk Z K (1 - t) ≠ []) = true := decide_eq_true h0
    rw [d0]
    have hM : MM = 0 := by rw [← HMM.out]; exact frS_no h0
    subst hM
    clear d0
    go_wp2_with fail
    refine leaves_mks (Mks.nil (fun _ => False) w.heap.size _) (fun w9 hk9 => ?_)
    exact ⟨_, results_tmp rfl _ _ _, rfl, HB2.out.trans (hk9.below HB2.out.size (fun j hj e => by have := e.1; omega))⟩

end Go.Proofs.YtdmlamnonbmboaaGreatDoor
