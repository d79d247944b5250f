/-
  Chess problems: the best value and its first move, as the program finds them one move deeper, walked. No conditions beyond those that each theorem bears.
-/
import Derived.Test.YtdmlamnonbmboaaGreatDoorV42
namespace Go.Proofs.YtdmlamnonbmboaaGreatDoor
open Go.RowKit Go.Shelf

theorem keeps_new {X : Nat → Prop} {w w1 w2 : World} {d : Nat} (h : Keeps X w w1) (hk : Keeps (fun j => j = d) w1 w2) (hd : w.heap.size ≤ d) : Keeps X w w2 :=
  ⟨hk.os.trans h.os, hk.tape.trans h.tape, hk.output.trans h.output, Nat.le_trans h.size hk.size, fun i hi hx => (hk.block i (Nat.lt_of_lt_of_le hi h.size) (fun e => by omega)).trans (h.block i hi hx)⟩

attribute [local irreducible] mvs nxP mtP skP ckP mS pci bG bStep
attribute [local go_sem] Oper.semAt_some wide_fn wide_fn0 wide_depth

set_option maxRecDepth 100000 in
set_option maxHeartbeats 16000000 in
theorem best_on (l : Nat) (hl : l ≤ 9) (ih : ∀ p, MayP p → ∀ made : Int, 0 ≤ made → made + (l : Int) ≤ 900 → ∀ w, TabS w → TzT w → TabW w → Calls Tryz.prog 19 #[.agg (ivs (stP p)).toArray, .int .i64 made, .int .i64 (l : Nat)] w fun r w' => r = .returned (.tuple #[.int .i64 (bG (-1001) l made p).1, .agg (mvC (bG (-1001) l made p).2).toArray]) ∧ Below w.heap.size w w')
    (p : Ps) (hM : MayP p) (made : Int) (hm0 : 0 ≤ made) (hm1 : made + ((l + 1 : Nat) : Int) ≤ 900) (w : World) (hT : TabS w) (hZ : TzT w) (hW : TabW w) (hm : mtP p = false) (hs : skP p = false) :
    Calls Tryz.prog 19 #[.agg (ivs (stP p)).toArray, .int .i64 made, .int .i64 ((l + 1 : Nat) : Int)] w fun r w' => r = .returned (.tuple #[.int .i64 (bG (-1001) (l + 1) made p).1, .agg (mvC (bG (-1001) (l + 1) made p).2).toArray]) ∧ Below w.heap.size w w' := by
  obtain ⟨nv, hnv⟩ : ∃ nv : Int, ((l + 1 : Nat) : Int) = nv := ⟨_, rfl⟩
  obtain ⟨g, hg⟩ : ∃ g, w.heap.size = g := ⟨_, rfl⟩
  obtain ⟨w1, hw1⟩ : ∃ w1, (((w.alloc (.cells (ivs (stP p)).toArray 48)).alloc (.cells #[.int .i64 made] 3)).alloc (.cells #[.int .i64 nv] 3)).alloc (.cells #[.int .i64 0, .int .i64 0, .int .i64 0] 32) = w1 := ⟨_, rfl⟩
  have B1 : Below w.heap.size w w1 := by rw [← hw1]; exact ((((Below.refl _ _).alloc (Nat.le_refl _) _).alloc (by simp) _).alloc (by simp; omega) _).alloc (by simp; omega) _
  have s1 : w1.heap.size = g + 4 := by rw [← hw1, ← hg]; simp
  have S1 : Sp w1 g p := by
    rw [← hw1, ← hg]
    exact (((Sp.box p hM w).mono ((Below.refl _ _).alloc (Nat.le_refl _) _)).mono ((Below.refl _ _).alloc (Nat.le_refl _) _)).mono ((Below.refl _ _).alloc (Nat.le_refl _) _)
  have N1 : Vb w1 (g + 1) 3 [.int .i64 made] := by
    rw [← hw1, ← hg]
    have h := Vb.new (w.alloc (.cells (ivs (stP p)).toArray 48)) 3 [.int .i64 made]
    rw [World.size_alloc] at h
    exact Vb.mono (Vb.mono (show Vb _ (w.heap.size + 1) 3 [.int .i64 made] from h) ((Below.refl _ _).alloc (Nat.le_refl _) _)) ((Below.refl _ _).alloc (Nat.le_refl _) _)
  have L1 : Vb w1 (g + 2) 3 [.int .i64 nv] := by
    rw [← hw1, ← hg]
    have h := Vb.new ((w.alloc (.cells (ivs (stP p)).toArray 48)).alloc (.cells #[.int .i64 made] 3)) 3 [.int .i64 nv]
    rw [World.size_alloc, World.size_alloc] at h
    exact Vb.mono (show Vb _ (w.heap.size + 2) 3 [.int .i64 nv] from h) ((Below.refl _ _).alloc (Nat.le_refl _) _)
  have M1 : Vb w1 (g + 3) 32 (mvC (0, 0, 0)) := by
    rw [← hw1, ← hg]
    have h := Vb.new (((w.alloc (.cells (ivs (stP p)).toArray 48)).alloc (.cells #[.int .i64 made] 3)).alloc (.cells #[.int .i64 nv] 3)) 32 [.int .i64 0, .int .i64 0, .int .i64 0]
    rw [World.size_alloc, World.size_alloc, World.size_alloc] at h
    exact h
  have HB1 := hide B1
  have HS1 := hide S1
  have HN1 := hide N1
  have HL1 := hide L1
  have HM1 := hide M1
  have HT1 := hide (hT.mono B1)
  have HZ1 := hide (hZ.mono B1)
  have HG := hide hg
  have HSZ := hide s1
  have HW1 := hide (hW.mono B1)
  have HGW : Hid (0 < g ∧ 1 < g ∧ 2 < g) := hide (by rw [← hg]; exact ⟨hW.lt, hT.lt, hZ.lt⟩)
  have HMT := hide (fun b W (h1 : Sp W b p) h2 h3 => mated_any b p hM W h1 h2 h3)
  have HSK := hide (fun b W (h1 : Sp W b p) h2 h3 => stuck_any b p hM W h1 h2 h3)
  rw [hm] at HMT
  rw [hs] at HSK
  have HRS : Hid ((mvs p).foldl (bStep fun m => (bG (-1001) l (made + 1) (nxP p m)).1) (-1001, (0, 0, 0)) = bG (-1001) (l + 1) made p) := hide (bG_on hm hs).symm
  have HSQ := hide (fun sb b => movesP_seq sb b p hM)
  have HAF := hide (fun b m (hm : m ∈ mvs p) W (h : Sp W b p) => after_any b p hM m (mvs_ok hM hm).1 W h)
  have HIH := hide (fun m (hm : m ∈ mvs p) W (h1 : TabS W) (h2 : TzT W) (h3 : TabW W) => ih (nxP p m) (may_nx hM hm) (made + 1) (by omega) (by omega) W h1 h2 h3)
  have HBD := hide (fun m (hm : m ∈ mvs p) => bG_bd (lo := -1001) (by omega) l (made + 1) (nxP p m) (may_nx hM hm) (by omega) (by omega))
  have e0 : (nv == 0) = false := by rw [← hnv, beq_eq_false_iff_ne]; omega
  have HEM : Hid (IntKind.i64.wrap (nv - 1) = ((l : Nat) : Int)) := hide (by rw [← hnv, IntKind.wrap_i64]; omega)
  have HEP : Hid (IntKind.i64.wrap (made + 1) = made + 1) := hide (by rw [IntKind.wrap_i64]; omega)
  obtain ⟨st, hst⟩ : ∃ st, (ivs (stP p)).toArray = st := ⟨_, rfl⟩
  rw [hst] at hw1
  obtain ⟨XS, hXS⟩ : ∃ XS, mvs p = XS := ⟨_, rfl⟩
  rw [hXS] at HSQ HRS HAF HIH HBD
  obtain ⟨RF, hRF⟩ : ∃ RF : Nat × Nat × Nat → Int × (Nat × Nat × Nat), (fun m => bG (-1001) l (made + 1) (nxP p m)) = RF := ⟨_, rfl⟩
  have HRF : Hid (∀ m, bG (-1001) l (made + 1) (nxP p m) = RF m) := hide (fun m => by rw [← hRF])
  have hRS2 : (fun m => (bG (-1001) l (made + 1) (nxP p m)).1) = fun m => (RF m).1 := by rw [← hRF]
  rw [hRS2] at HRS
  obtain ⟨rs, hrs⟩ : ∃ rs, bG (-1001) (l + 1) made p = rs := ⟨_, rfl⟩
  rw [hrs] at HRS ⊢
  rw [hst, hnv]
  clear B1 s1 S1 N1 L1 M1 hT hZ hM hm hs hW hst hXS hrs hRF hRS2 ih hnv
  refine (callsIn_wide (n := 3)).1 ?_
  refine callsIn_of_wp_marks Tryz.func19 rfl trivial ?_ rfl
  simp only [Tryz.ntmps19, List.size_toArray, List.length_cons, List.length_nil, Nat.reduceAdd, Nat.reduceSub, Array.replicate_succ, Array.replicate_zero, List.push_toArray, List.append_toArray, List.nil_append, List.cons_append]
  refine wpIn_wide.2 ?_
  go_upto_region 1 with fail
  try rw [hg]
  clear hw1 hg
  go_wp2_with fail
  refine (HMT.out g w1 HS1.out HT1.out HZ1.out).mono ?_
  rintro r w2 ⟨rfl, hb2⟩
  have HB2 := hide hb2
  clear hb2
  go_wp2_with fail
  refine (HSK.out g w2 (HS1.out.mono HB2.out) (HT1.out.mono HB2.out) (HZ1.out.mono HB2.out)).mono ?_
  rintro r w3 ⟨rfl, hb3⟩
  have HB3 : Hid (Below w1.heap.size w1 w3) := hide (HB2.out.trans (hb3.mono HB2.out.size))
  clear hb3
  have l3 := (HL1.out.mono HB3.out).cell (i := 0) rfl
  go_upto_region 7 with fail
  clear l3
  go_wp2_with fail
  obtain ⟨d, hd⟩ : ∃ d, w3.heap.size = d := ⟨_, rfl⟩
  obtain ⟨w4, hw4⟩ : ∃ w4, (w3.alloc (.cells #[.int .i64 (-1001)] 3)).alloc (.cells #[.int .i64 0, .int .i64 0, .int .i64 0] 32) = w4 := ⟨_, rfl⟩
  rw [hw4]
  have b34 : Below w3.heap.size w3 w4 := by rw [← hw4]; exact ((Below.refl _ _).alloc (Nat.le_refl _) _).alloc (by simp) _
  have s4 : w4.heap.size = d + 2 := by rw [← hw4, ← hd]; simp
  have A4 : Vb w4 d 3 [.int .i64 (-1001)] := by rw [← hw4, ← hd]; exact (Vb.new w3 3 _).mono ((Below.refl _ _).alloc (Nat.le_refl _) _)
  have C4 : Vb w4 (d + 1) 32 (mvC (0, 0, 0)) := by
    rw [← hw4, ← hd]
    have h := Vb.new (w3.alloc (.cells #[.int .i64 (-1001)] 3)) 32 [.int .i64 0, .int .i64 0, .int .i64 0]
    rw [World.size_alloc] at h
    exact h
  have HB4 : Hid (Below w1.heap.size w1 w4) := hide (HB3.out.trans (b34.mono HB3.out.size))
  have HDG : Hid (g + 4 ≤ d) := hide (by rw [← hd]; have := HB3.out.size; have := HSZ.out; omega)
  refine (moves_any g _).mono ?_
  rintro r w5 ⟨rfl, hw5⟩
  have R5 := MlR.new (HS1.out.mono HB4.out) (HT1.out.mono HB4.out) (HZ1.out.mono HB4.out)
  rw [← hw5] at R5
  have hb5 : Below w4.heap.size w4 w5 := by rw [hw5]; exact (Below.refl _ _).alloc (Nat.le_refl _) _
  have s5 : w5.heap.size = w4.heap.size + 1 := by rw [hw5]; simp
  have HB5 : Hid (Below w1.heap.size w1 w5) := hide (HB4.out.trans (hb5.mono HB4.out.size))
  have HA5 := hide (A4.mono hb5)
  have HC5 := hide (C4.mono hb5)
  try rw [hd]
  rw [s4] at R5 s5 ⊢
  have HZ5 : Hid (w5.heap.size = d + 3) := hide s5
  have HR5 := hide R5
  have HK5 : Hid (∀ W, Keeps (fun j => j = d ∨ j = d + 1) w5 W → Sp W g p ∧ TabS W ∧ TzT W ∧ TabW W ∧ Vb W (g + 1) 3 [.int .i64 made] ∧ Vb W (g + 2) 3 [.int .i64 nv] ∧ Vb W (g + 3) 32 (mvC (0, 0, 0))) := hide (fun W hk => by
    have z := HDG.out
    have zg := HGW.out
    exact ⟨(HS1.out.mono HB5.out).keeps hk (fun e => by omega), (HT1.out.mono HB5.out).keeps hk (fun e => by omega), (HZ1.out.mono HB5.out).keeps hk (fun e => by omega), fun i hi => hk.cell ((HW1.out.mono HB5.out) i hi) (fun e => by dsimp only at e; omega), (HN1.out.mono HB5.out).keeps hk (fun e => by omega), (HL1.out.mono HB5.out).keeps hk (fun e => by omega), (HM1.out.mono HB5.out).keeps hk (fun e => by omega)⟩)
  clear hw4 b34 s4 A4 C4 hw5 R5 hb5 s5 hd HB4
  go_wp2_with fail
  refine (wpIn_wide (n := 1)).1 (wp_range_o (gf := 60) (lb := #[.pointer (some ⟨d + 2, 0, none⟩)]) (G := MvG) (xs := XS) (R := MlR (d + 2) g p.Z (p.t : Nat) (p.k : Nat) p.e (p.h : Nat) (p.f : Nat)) (T := MlT (d + 2) g) (by simp [Act.eval]) (enters_of Tryz.func60 (by kernel_rfl) rfl)
    (HSQ.out (d + 2) g) (fun j hj => HR5.out.lt j hj) (fun A hA => HR5.out.keeps (X := fun _ => False) (Keeps.of_all hA) (fun _ _ e => e)) (fun x args W' hG => by rw [hG]; rfl)
    (fun O t W' => (∀ j, O j → j = d ∨ j = d + 1) ∧ O d ∧ O (d + 1) ∧ Vb W' d 3 [.int .i64 (t.foldl (bStep fun m => (RF m).1) (-1001, (0, 0, 0))).1] ∧ Vb W' (d + 1) 32 (mvC (t.foldl (bStep fun m => (RF m).1) (-1001, (0, 0, 0))).2)) (fun _ _ _ => False) (fun j => j = d ∨ j = d + 1) ?hC ⟨fun _ h => h, .inl rfl, .inr rfl, HA5.out, HC5.out⟩ ?round ?done (fun _ _ _ _ _ h => h.elim))
  case hC =>
    have z := HDG.out
    have zg := HGW.out
    have z5 := HZ5.out
    have nT : ∀ j, (j = d ∨ j = d + 1) → ¬ MlT (d + 2) g j := by
      rintro j hj (h | h | h | h) <;> omega
    intro x
    refine ⟨?_, (fun _ _ h => h.elim), ?_, (fun _ _ _ h => h.elim)⟩
    · rintro O t A ⟨h1, _, _, h3, h4⟩ j hj
      refine ⟨?_, nT j (h1 j hj)⟩
      rcases h1 j hj with rfl | rfl
      · exact h3.lt
      · exact h4.lt
    · rintro O t A B ⟨h1, h2, h3, h4, h5⟩ hkk
      exact ⟨h1, h2, h3, h4.keeps hkk (fun e => e.2 h2), h5.keeps hkk (fun e => e.2 h3)⟩
  case round =>
    rintro l2 O t m args W6 hl2 _ ⟨hO, hOd, hOe, hA6, hC6⟩ hOl hK6 hOm hpre hG hsz6
    obtain rfl : args = #[mvV m] := hG
    have hmm : m ∈ XS := hpre.subset (by simp)
    have HA := hide (fun W h => HAF.out g m hmm W h)
    have HI := hide (fun W h1 h2 h3 => HIH.out m hmm W h1 h2 h3)
    have hbd := HBD.out m hmm
    rw [HRF.out m] at HI hbd
    have HSM : Hid ((t ++ [m]).foldl (bStep fun m => (RF m).1) (-1001, (0, 0, 0)) = bStep (fun m => (RF m).1) (t.foldl (bStep fun m => (RF m).1) (-1001, (0, 0, 0))) m) := hide (by rw [List.foldl_append]; rfl)
    obtain ⟨ac, hac⟩ : ∃ ac, t.foldl (bStep fun m => (RF m).1) (-1001, (0, 0, 0)) = ac := ⟨_, rfl⟩
    rw [hac] at HSM hA6 hC6
    have HST : Hid (bStep (fun m => (RF m).1) ac m = if ac.1 < -(RF m).1 then (-(RF m).1, m) else ac) := hide (by unfold bStep; rfl)
    obtain ⟨ov, hov⟩ : ∃ ov, (RF m).1 = ov := ⟨_, rfl⟩
    obtain ⟨om, hom⟩ : ∃ om, (RF m).2 = om := ⟨_, rfl⟩
    obtain ⟨bv, hbv⟩ : ∃ bv, ac.1 = bv := ⟨_, rfl⟩
    obtain ⟨bm, hbm⟩ : ∃ bm, ac.2 = bm := ⟨_, rfl⟩
    rw [hov] at hbd HST HI
    rw [hom] at HI
    rw [hbv] at HST hA6
    rw [hbm] at hC6
    have HBV : Hid (ac.1 = bv ∧ ac.2 = bm) := hide ⟨hbv, hbm⟩
    obtain ⟨ob1, ob2⟩ := hbd
    have HO := hide hO
    have HOd := hide hOd
    have HOe := hide hOe
    have z := HDG.out
    have zg := HGW.out
    have z5 := HZ5.out
    have HL : Hid (d + 4 = l2 ∧ l2 < W6.heap.size) := hide (by omega)
    obtain ⟨gA, hgA⟩ : ∃ gA, W6.heap.size = gA := ⟨_, rfl⟩
    obtain ⟨WB, hWB⟩ : ∃ WB, W6.alloc (.cells #[.int .i64 0, .int .i64 0, .int .i64 0] 32) = WB := ⟨_, rfl⟩
    have VB : Vb WB gA 32 [.int .i64 0, .int .i64 0, .int .i64 0] := by rw [← hWB, ← hgA]; exact Vb.new W6 32 _
    have BB : Below W6.heap.size W6 WB := by rw [← hWB]; exact (Below.refl _ _).alloc (Nat.le_refl _) _
    have D6 := HK5.out W6 hK6
    have HA6 := hide (hA6.mono BB)
    have HC6 := hide (hC6.mono BB)
    have HD6 := hide D6
    have HBB := hide BB
    have HGA := hide hgA
    clear hO hOd hOe hA6 hC6 D6 hOl hK6 hOm hpre hsz6 hl2 BB z z5 zg hmm hac hov hom hbv hbm
    gi_wp2_with (refine wpListIn_store_vb rfl 32 (.tmp 10) (.tmp 33) rfl gA (mvC m) _ (by simp [Act.eval]) rfl VB rfl row26 (mvC_one m) ?_; intro WC VC KC)
    clear hWB VB
    have BC : Below W6.heap.size W6 WC := HBB.out.trans (KC.below HBB.out.size (fun j hj e => by have := HGA.out; omega))
    refine ⟨BC, ?_⟩
    intro W7 hk7
    have zl := HL.out
    have zA := HGA.out
    have zs := HZ5.out
    have z := HDG.out
    have zg := HGW.out
    have K67 : Keeps (fun j => j = l2) W6 W7 := (Keeps.of_all BC).trans hk7
    have K7 : Keeps (fun j => j = gA ∨ j = l2) WB W7 := (KC.mono (fun _ _ e => Or.inl e)).trans (hk7.mono (fun _ _ e => Or.inr e))
    have HA7 := hide (HA6.out.keeps K7 (fun e => by omega))
    have HC7 := hide (HC6.out.keeps K7 (fun e => by omega))
    have HM7 := hide (VC.keeps hk7 (fun e => by omega))
    obtain ⟨d1, d2, d3, d4, d5, d6, d7⟩ := HD6.out
    have D7 : Sp W7 g p ∧ TabS W7 ∧ TzT W7 ∧ TabW W7 ∧ Vb W7 (g + 1) 3 [.int .i64 made] ∧ Vb W7 (g + 2) 3 [.int .i64 nv] := ⟨d1.keeps K67 (fun e => by omega), d2.keeps K67 (fun e => by omega), d3.keeps K67 (fun e => by omega), fun i hi => K67.cell (d4 i hi) (fun e => by dsimp only at e; omega), d5.keeps K67 (fun e => by omega), d6.keeps K67 (fun e => by omega)⟩
    have HD7 := hide D7
    have HDJ : Hid (gA ≠ d ∧ gA ≠ d + 1) := hide (by omega)
    clear hk7 K7 K67 BC KC VC zl zA zs z zg hgA HA6 HC6 HD6 d1 d2 d3 d4 d5 d6 d7 D7
    gi_wp2
    refine wp_region_round (S := fun W5 => Keeps (fun _ => False) W7 W5) (by kernel_rfl) (by kernel_rfl) (by rintro ⟨_, _, h⟩; exact h) ?_
    have SW : Keeps (fun _ => False) W7 W7.drew := (Keeps.refl _ W7).drew
    have DS : Hid (∀ W, Keeps (fun _ => False) W7 W → Sp W g p ∧ TabS W ∧ TzT W ∧ TabW W ∧ Vb W (g + 1) 3 [.int .i64 made] ∧ Vb W (g + 2) 3 [.int .i64 nv] ∧ Vb W gA 32 (mvC m) ∧ Vb W d 3 [.int .i64 bv] ∧ Vb W (d + 1) 32 (mvC bm)) := hide (fun W hk => by
      obtain ⟨d1, d2, d3, d4, d5, d6⟩ := HD7.out
      exact ⟨d1.keeps hk id, d2.keeps hk id, d3.keeps hk id, fun i hi => hk.cell (d4 i hi) id, d5.keeps hk id, d6.keeps hk id, HM7.out.keeps hk id, HA7.out.keeps hk id, HC7.out.keeps hk id⟩)
    have HS7 : Hid (W7.heap.size = W7.heap.size) := hide rfl
    clear HA7 HC7 HD7 HM7 HS7
    generalize hwd : W7.drew = wd at SW ⊢
    clear hwd
    refine wpAnyH_take (i := 0) (v := .agg (mvC m).toArray) rfl (by kernel_rfl) (by kernel_rfl) (by kernel_rfl) (fun _ _ _ h => h) (Or.inl ⟨by rfl, ?_⟩) SW ?_
    · intro W5 hW5
      have y0 := (DS.out W5 hW5).2.2.2.2.2.2.1.cell (i := 0) rfl
      have y1 := (DS.out W5 hW5).2.2.2.2.2.2.1.cell (i := 1) rfl
      have y2 := (DS.out W5 hW5).2.2.2.2.2.2.1.cell (i := 2) rfl
      go_simp <;> first | done | rfl | (rw [IntKind.wrap_i64]; omega) | omega
    go_simp
    refine wpAnyH_take (i := 2) (v := .int .i64 made) rfl (by kernel_rfl) (by kernel_rfl) (by kernel_rfl) (fun _ _ _ h => h) (Or.inl ⟨by rfl, ?_⟩) SW ?_
    · intro W5 hW5
      have y0 := (DS.out W5 hW5).2.2.2.2.1.cell (i := 0) rfl
      go_simp <;> first | done | rfl | (rw [IntKind.wrap_i64]; omega) | omega
    go_simp
    refine wpAnyH_take (i := 3) (v := .int .i64 (made + 1)) rfl (by kernel_rfl) (by kernel_rfl) (by kernel_rfl) (fun _ _ _ h => h) (Or.inl ⟨by rfl, ?_⟩) SW ?_
    · intro W5 hW5
      have y0 := HEP.out
      go_simp <;> first | done | rfl | (rw [IntKind.wrap_i64]; omega) | omega
    go_simp
    refine wpAnyH_take (i := 4) (v := .int .i64 nv) rfl (by kernel_rfl) (by kernel_rfl) (by kernel_rfl) (fun _ _ _ h => h) (Or.inl ⟨by rfl, ?_⟩) SW ?_
    · intro W5 hW5
      have y0 := (DS.out W5 hW5).2.2.2.2.2.1.cell (i := 0) rfl
      go_simp <;> first | done | rfl | (rw [IntKind.wrap_i64]; omega) | omega
    go_simp
    refine wpAnyH_take (i := 5) (v := .int .i64 (l : Nat)) rfl (by kernel_rfl) (by kernel_rfl) (by kernel_rfl) (fun _ _ _ h => h) (Or.inl ⟨by rfl, ?_⟩) SW ?_
    · intro W5 hW5
      have y0 := HEM.out
      go_simp <;> first | done | rfl | (rw [IntKind.wrap_i64]; omega) | omega
    go_simp
    refine wpAnyH_ready (rs := [1, 10]) (by kernel_rfl) (by simp) ?_
    refine AllReadyH.cons rfl (fun K1 hK1 => ?_) (AllReadyH.cons rfl (fun K1 hK1 => ?_) AllReadyH.nil)
    · go_simp
      refine (HA.out _ (DS.out _ SW).1).mono ?_
      rintro r v3 ⟨rfl, hb⟩
      have SWb := SW.trans (Keeps.of_all hb)
      refine hK1.out _ _ SWb (fun SW => ?_)
      clear hK1 K1 hb SWb
      rename World => wd
      go_simp
      refine wpAnyH_ready (rs := [6, 10]) (by kernel_rfl) (by simp) ?_
      refine AllReadyH.cons rfl (fun K1 hK1 => ?_) (AllReadyH.cons rfl (fun K1 hK1 => ?_) AllReadyH.nil)
      · go_simp
        refine (HI.out _ (DS.out _ SW).2.1 (DS.out _ SW).2.2.1 (DS.out _ SW).2.2.2.1).mono ?_
        rintro r v4 ⟨rfl, hb⟩
        have SWb := SW.trans (Keeps.of_all hb)
        refine hK1.out _ _ SWb (fun SW => ?_)
        clear hK1 K1 hb SWb
        rename World => wd
        go_simp
        refine wpAnyH_take (i := 7) (v := .tuple #[.int .i64 ov, .agg (mvC om).toArray]) rfl (by kernel_rfl) (by kernel_rfl) (by kernel_rfl) (fun _ _ _ h => h) (Or.inl ⟨by rfl, ?_⟩) SW ?_
        · intro W5 hW5
          go_simp <;> first | done | rfl | (rw [IntKind.wrap_i64]; omega) | omega
        go_simp
        refine wpAnyH_take (i := 8) (v := .int .i64 ov) rfl (by kernel_rfl) (by kernel_rfl) (by kernel_rfl) (fun _ _ _ h => h) (Or.inl ⟨by rfl, ?_⟩) SW ?_
        · intro W5 hW5
          go_simp <;> first | done | rfl | (rw [IntKind.wrap_i64]; omega) | omega
        go_simp
        refine wpAnyH_take (i := 9) (v := .agg (mvC om).toArray) rfl (by kernel_rfl) (by kernel_rfl) (by kernel_rfl) (fun _ _ _ h => h) (Or.inl ⟨by rfl, ?_⟩) SW ?_
        · intro W5 hW5
          go_simp <;> first | done | rfl | (rw [IntKind.wrap_i64]; omega) | omega
        go_simp
        refine wpAnyH_ready (rs := [10]) (by kernel_rfl) (by simp) ?_
        refine AllReadyH.cons rfl (fun K1 hK1 => ?_) AllReadyH.nil
        go_simp
        obtain ⟨dd, hdd⟩ : ∃ dd, wd.heap.size = dd := ⟨_, rfl⟩
        have KZ : Vb (wd.alloc (.cells #[.int .i64 0, .int .i64 0, .int .i64 0] 32)) dd 32 (mvC (0, 0, 0)) := by rw [← hdd]; exact Vb.new wd 32 _
        have HDD : Hid (W7.heap.size ≤ dd) := hide (by rw [← hdd]; exact SW.size)
        have SWb : Keeps (fun _ => False) W7 (wd.alloc (.cells #[.int .i64 0, .int .i64 0, .int .i64 0] 32)) := SW.trans (Keeps.of_all ((Below.refl _ _).alloc (Nat.le_refl _) _))
        refine hK1.out _ _ SWb (fun SW => ?_)
        clear hK1 K1 SWb
        try rw [hdd]
        clear hdd
        generalize hwz : wd.alloc (.cells #[.int .i64 0, .int .i64 0, .int .i64 0] 32) = wz at SW KZ ⊢
        clear hwz
        have HVD := hide KZ
        clear KZ
        rename World => wd
        go_simp
        refine wpAnyH_take (i := 11) (v := .int .i64 ov) rfl (by kernel_rfl) (by kernel_rfl) (by kernel_rfl) (fun _ _ _ h => h) (Or.inl ⟨by rfl, ?_⟩) SW ?_
        · intro W5 hW5
          go_simp <;> first | done | rfl | (rw [IntKind.wrap_i64]; omega) | omega
        go_simp
        refine wpAnyH_ready (rs := [12]) (by kernel_rfl) (by simp) ?_
        refine AllReadyH.cons rfl (fun K1 hK1 => ?_) AllReadyH.nil
        refine wp_store_mv (m' := (0, 0, 0)) (.tmp 12) (.tmp 43) rfl dd rfl rfl HVD.out ?_
        intro wc VC kk
        have SWb := keeps_new SW kk HDD.out
        refine hK1.out _ _ SWb (fun SW => ?_)
        clear hK1 K1 SWb kk VC HVD
        go_simp
        refine wpAnyH_done (by kernel_rfl) ?_ _
        have HKE : Hid (Keeps (fun _ => False) W7 wc) := hide SW
        obtain ⟨-, -, -, -, -, -, em, ea, ec⟩ := DS.out wc SW
        have c8 := ea.cell (i := 0) rfl
        clear SW HDD
        by_cases hgt : bv < -ov
        · have HSX : Hid (bStep (fun m => (RF m).1) ac m = (-ov, m)) := hide (by rw [HST.out, if_pos hgt])
          have HM8 := hide em
          have HA8 := hide ea
          have HC8 := hide ec
          clear em ea ec
          gi_wp2
          clear c8
          refine wp_region_round (S := fun W5 => Keeps (fun j => j = d ∨ j = d + 1) wc W5) (by kernel_rfl) (by kernel_rfl) (by rintro ⟨_, _, h⟩; exact h) ?_
          have SW : Keeps (fun j => j = d ∨ j = d + 1) wc wc.drew := (Keeps.refl _ wc).drew
          have DT : Hid (∀ W, Keeps (fun j => j = d ∨ j = d + 1) wc W → Vb W gA 32 (mvC m)) := hide (fun W hk => HM8.out.keeps hk (fun e => by have := HDJ.out; omega))
          have HAd : Hid (Vb wc.drew d 3 [.int .i64 bv]) := hide (HA8.out.mono (drewN_below _ _ 1))
          have HCd : Hid (Vb wc.drew (d + 1) 32 (mvC bm)) := hide (HC8.out.mono (drewN_below _ _ 1))
          generalize hwe : wc.drew = we at SW HAd HCd ⊢
          clear hwe
          refine wpAnyH_take (i := 0) (v := .int .i64 ov) rfl (by kernel_rfl) (by kernel_rfl) (by kernel_rfl) (fun _ _ _ h => h) (Or.inl ⟨by rfl, ?_⟩) SW ?_
          · intro W5 hW5
            go_simp <;> first | done | rfl | (rw [IntKind.wrap_i64]; omega) | omega
          go_simp
          refine wpAnyH_take (i := 1) (v := .int .i64 (-ov)) rfl (by kernel_rfl) (by kernel_rfl) (by kernel_rfl) (fun _ _ _ h => h) (Or.inl ⟨by rfl, ?_⟩) SW ?_
          · intro W5 hW5
            go_simp <;> first | done | rfl | (rw [IntKind.wrap_i64]; omega) | omega
          go_simp
          refine wpAnyH_take (i := 2) (v := .agg (mvC m).toArray) rfl (by kernel_rfl) (by kernel_rfl) (by kernel_rfl) (fun _ _ _ h => h) (Or.inl ⟨by rfl, ?_⟩) SW ?_
          · intro W5 hW5
            have y0 := (DT.out W5 hW5).cell (i := 0) rfl
            have y1 := (DT.out W5 hW5).cell (i := 1) rfl
            have y2 := (DT.out W5 hW5).cell (i := 2) rfl
            go_simp <;> first | done | rfl | (rw [IntKind.wrap_i64]; omega) | omega
          go_simp
          have ca := HAd.out.cell (i := 0) rfl
          have fa := HAd.out.frozen 0
          have HA9 := hide (HAd.out.set 0 (.int .i64 (-ov)))
          have k9 : Keeps (fun j => j = d) we (we.setCell ⟨d, 0, none⟩ (.int .i64 (-ov))) := Keeps.set1 _ _ _ _
          have HC9 := hide (HCd.out.keeps k9 (fun e => by omega))
          have HK9 := hide k9
          clear k9 HAd HCd
          refine wpAnyH_ready (rs := [3]) (by kernel_rfl) (by simp) ?_
          refine AllReadyH.cons rfl (fun K1 hK1 => ?_) AllReadyH.nil
          go_simp
          have SWb := SW.trans (HK9.out.mono (fun _ _ e => Or.inl e))
          refine hK1.out _ _ SWb (fun SW => ?_)
          clear hK1 K1 SWb ca fa HK9
          generalize hwf : we.setCell ⟨d, 0, none⟩ (.int .i64 (-ov)) = wf at SW HA9 HC9 ⊢
          clear hwf
          go_simp
          refine wpAnyH_ready (rs := [4]) (by kernel_rfl) (by simp) ?_
          refine AllReadyH.cons rfl (fun K1 hK1 => ?_) AllReadyH.nil
          refine wp_store_mv (.tmp 9) (.tmp 50) rfl (d + 1) rfl rfl HC9.out ?_
          intro wh VH kk
          have SWb := SW.trans (kk.mono (fun _ _ e => Or.inr e))
          refine hK1.out _ _ SWb (fun SW => ?_)
          clear hK1 K1 SWb
          have HAh := hide (HA9.out.keeps kk (fun e => by omega))
          clear kk
          go_simp
          refine wpAnyH_done (by kernel_rfl) ?_ _
          have HKF : Hid (Keeps (fun j => j = d ∨ j = d + 1) wc wh) := hide SW
          clear SW
          gi_wp2
          refine ⟨(HKE.out.mono (fun _ _ e => e.elim)).trans (HKF.out.mono (fun j _ e => by rcases e with rfl | rfl; exact HOd.out; exact HOe.out)), O, fun _ _ h => h, HO.out, HOd.out, HOe.out, ?_, ?_⟩
          · rw [HSM.out, HSX.out]; exact HAh.out
          · rw [HSM.out, HSX.out]; exact VH
        · have HSX : Hid (bStep (fun m => (RF m).1) ac m = ac) := hide (by rw [HST.out, if_neg hgt])
          gi_wp2
          refine ⟨HKE.out.mono (fun _ _ e => e.elim), O, fun _ _ h => h, HO.out, HOd.out, HOe.out, ?_, ?_⟩
          · rw [HSM.out, HSX.out, HBV.out.1]; exact ea
          · rw [HSM.out, HSX.out, HBV.out.2]; exact ec
      · go_simp
        obtain ⟨dd, hdd⟩ : ∃ dd, wd.heap.size = dd := ⟨_, rfl⟩
        have KZ : Vb (wd.alloc (.cells #[.int .i64 0, .int .i64 0, .int .i64 0] 32)) dd 32 (mvC (0, 0, 0)) := by rw [← hdd]; exact Vb.new wd 32 _
        have HDD : Hid (W7.heap.size ≤ dd) := hide (by rw [← hdd]; exact SW.size)
        have SWb : Keeps (fun _ => False) W7 (wd.alloc (.cells #[.int .i64 0, .int .i64 0, .int .i64 0] 32)) := SW.trans (Keeps.of_all ((Below.refl _ _).alloc (Nat.le_refl _) _))
        refine hK1.out _ _ SWb (fun SW => ?_)
        clear hK1 K1 SWb
        try rw [hdd]
        clear hdd
        generalize hwz : wd.alloc (.cells #[.int .i64 0, .int .i64 0, .int .i64 0] 32) = wz at SW KZ ⊢
        clear hwz
        have HVD := hide KZ
        clear KZ
        rename World => wd
        go_simp
        refine wpAnyH_ready (rs := [6]) (by kernel_rfl) (by simp) ?_
        refine AllReadyH.cons rfl (fun K1 hK1 => ?_) AllReadyH.nil
        go_simp
        refine (HI.out _ (DS.out _ SW).2.1 (DS.out _ SW).2.2.1 (DS.out _ SW).2.2.2.1).mono ?_
        rintro r v4 ⟨rfl, hb⟩
        have SWb := SW.trans (Keeps.of_all hb)
        have HVD := hide (HVD.out.mono hb)
        refine hK1.out _ _ SWb (fun SW => ?_)
        clear hK1 K1 hb SWb
        rename World => wd
        go_simp
        refine wpAnyH_take (i := 7) (v := .tuple #[.int .i64 ov, .agg (mvC om).toArray]) rfl (by kernel_rfl) (by kernel_rfl) (by kernel_rfl) (fun _ _ _ h => h) (Or.inl ⟨by rfl, ?_⟩) SW ?_
        · intro W5 hW5
          go_simp <;> first | done | rfl | (rw [IntKind.wrap_i64]; omega) | omega
        go_simp
        refine wpAnyH_take (i := 8) (v := .int .i64 ov) rfl (by kernel_rfl) (by kernel_rfl) (by kernel_rfl) (fun _ _ _ h => h) (Or.inl ⟨by rfl, ?_⟩) SW ?_
        · intro W5 hW5
          go_simp <;> first | done | rfl | (rw [IntKind.wrap_i64]; omega) | omega
        go_simp
        refine wpAnyH_take (i := 9) (v := .agg (mvC om).toArray) rfl (by kernel_rfl) (by kernel_rfl) (by kernel_rfl) (fun _ _ _ h => h) (Or.inl ⟨by rfl, ?_⟩) SW ?_
        · intro W5 hW5
          go_simp <;> first | done | rfl | (rw [IntKind.wrap_i64]; omega) | omega
        go_simp
        refine wpAnyH_take (i := 11) (v := .int .i64 ov) rfl (by kernel_rfl) (by kernel_rfl) (by kernel_rfl) (fun _ _ _ h => h) (Or.inl ⟨by rfl, ?_⟩) SW ?_
        · intro W5 hW5
          go_simp <;> first | done | rfl | (rw [IntKind.wrap_i64]; omega) | omega
        go_simp
        refine wpAnyH_ready (rs := [12]) (by kernel_rfl) (by simp) ?_
        refine AllReadyH.cons rfl (fun K1 hK1 => ?_) AllReadyH.nil
        refine wp_store_mv (m' := (0, 0, 0)) (.tmp 12) (.tmp 43) rfl dd rfl rfl HVD.out ?_
        intro wc VC kk
        have SWb := keeps_new SW kk HDD.out
        refine hK1.out _ _ SWb (fun SW => ?_)
        clear hK1 K1 SWb kk VC HVD
        go_simp
        refine wpAnyH_done (by kernel_rfl) ?_ _
        have HKE : Hid (Keeps (fun _ => False) W7 wc) := hide SW
        obtain ⟨-, -, -, -, -, -, em, ea, ec⟩ := DS.out wc SW
        have c8 := ea.cell (i := 0) rfl
        clear SW HDD
        by_cases hgt : bv < -ov
        · have HSX : Hid (bStep (fun m => (RF m).1) ac m = (-ov, m)) := hide (by rw [HST.out, if_pos hgt])
          have HM8 := hide em
          have HA8 := hide ea
          have HC8 := hide ec
          clear em ea ec
          gi_wp2
          clear c8
          refine wp_region_round (S := fun W5 => Keeps (fun j => j = d ∨ j = d + 1) wc W5) (by kernel_rfl) (by kernel_rfl) (by rintro ⟨_, _, h⟩; exact h) ?_
          have SW : Keeps (fun j => j = d ∨ j = d + 1) wc wc.drew := (Keeps.refl _ wc).drew
          have DT : Hid (∀ W, Keeps (fun j => j = d ∨ j = d + 1) wc W → Vb W gA 32 (mvC m)) := hide (fun W hk => HM8.out.keeps hk (fun e => by have := HDJ.out; omega))
          have HAd : Hid (Vb wc.drew d 3 [.int .i64 bv]) := hide (HA8.out.mono (drewN_below _ _ 1))
          have HCd : Hid (Vb wc.drew (d + 1) 32 (mvC bm)) := hide (HC8.out.mono (drewN_below _ _ 1))
          generalize hwe : wc.drew = we at SW HAd HCd ⊢
          clear hwe
          refine wpAnyH_take (i := 0) (v := .int .i64 ov) rfl (by kernel_rfl) (by kernel_rfl) (by kernel_rfl) (fun _ _ _ h => h) (Or.inl ⟨by rfl, ?_⟩) SW ?_
          · intro W5 hW5
            go_simp <;> first | done | rfl | (rw [IntKind.wrap_i64]; omega) | omega
          go_simp
          refine wpAnyH_take (i := 1) (v := .int .i64 (-ov)) rfl (by kernel_rfl) (by kernel_rfl) (by kernel_rfl) (fun _ _ _ h => h) (Or.inl ⟨by rfl, ?_⟩) SW ?_
          · intro W5 hW5
            go_simp <;> first | done | rfl | (rw [IntKind.wrap_i64]; omega) | omega
          go_simp
          refine wpAnyH_take (i := 2) (v := .agg (mvC m).toArray) rfl (by kernel_rfl) (by kernel_rfl) (by kernel_rfl) (fun _ _ _ h => h) (Or.inl ⟨by rfl, ?_⟩) SW ?_
          · intro W5 hW5
            have y0 := (DT.out W5 hW5).cell (i := 0) rfl
            have y1 := (DT.out W5 hW5).cell (i := 1) rfl
            have y2 := (DT.out W5 hW5).cell (i := 2) rfl
            go_simp <;> first | done | rfl | (rw [IntKind.wrap_i64]; omega) | omega
          go_simp
          have ca := HAd.out.cell (i := 0) rfl
          have fa := HAd.out.frozen 0
          have HA9 := hide (HAd.out.set 0 (.int .i64 (-ov)))
          have k9 : Keeps (fun j => j = d) we (we.setCell ⟨d, 0, none⟩ (.int .i64 (-ov))) := Keeps.set1 _ _ _ _
          have HC9 := hide (HCd.out.keeps k9 (fun e => by omega))
          have HK9 := hide k9
          clear k9 HAd HCd
          refine wpAnyH_ready (rs := [3]) (by kernel_rfl) (by simp) ?_
          refine AllReadyH.cons rfl (fun K1 hK1 => ?_) AllReadyH.nil
          go_simp
          have SWb := SW.trans (HK9.out.mono (fun _ _ e => Or.inl e))
          refine hK1.out _ _ SWb (fun SW => ?_)
          clear hK1 K1 SWb ca fa HK9
          generalize hwf : we.setCell ⟨d, 0, none⟩ (.int .i64 (-ov)) = wf at SW HA9 HC9 ⊢
          clear hwf
          go_simp
          refine wpAnyH_ready (rs := [4]) (by kernel_rfl) (by simp) ?_
          refine AllReadyH.cons rfl (fun K1 hK1 => ?_) AllReadyH.nil
          refine wp_store_mv (.tmp 9) (.tmp 50) rfl (d + 1) rfl rfl HC9.out ?_
          intro wh VH kk
          have SWb := SW.trans (kk.mono (fun _ _ e => Or.inr e))
          refine hK1.out _ _ SWb (fun SW => ?_)
          clear hK1 K1 SWb
          have HAh := hide (HA9.out.keeps kk (fun e => by omega))
          clear kk
          go_simp
          refine wpAnyH_done (by kernel_rfl) ?_ _
          have HKF : Hid (Keeps (fun j => j = d ∨ j = d + 1) wc wh) := hide SW
          clear SW
          gi_wp2
          refine ⟨(HKE.out.mono (fun _ _ e => e.elim)).trans (HKF.out.mono (fun j _ e => by rcases e with rfl | rfl; exact HOd.out; exact HOe.out)), O, fun _ _ h => h, HO.out, HOd.out, HOe.out, ?_, ?_⟩
          · rw [HSM.out, HSX.out]; exact HAh.out
          · rw [HSM.out, HSX.out]; exact VH
        · have HSX : Hid (bStep (fun m => (RF m).1) ac m = ac) := hide (by rw [HST.out, if_neg hgt])
          gi_wp2
          refine ⟨HKE.out.mono (fun _ _ e => e.elim), O, fun _ _ h => h, HO.out, HOd.out, HOe.out, ?_, ?_⟩
          · rw [HSM.out, HSX.out, HBV.out.1]; exact ea
          · rw [HSM.out, HSX.out, HBV.out.2]; exact ec
    · go_simp
      obtain ⟨dd, hdd⟩ : ∃ dd, wd.heap.size = dd := ⟨_, rfl⟩
      have KZ : Vb (wd.alloc (.cells #[.int .i64 0, .int .i64 0, .int .i64 0] 32)) dd 32 (mvC (0, 0, 0)) := by rw [← hdd]; exact Vb.new wd 32 _
      have HDD : Hid (W7.heap.size ≤ dd) := hide (by rw [← hdd]; exact SW.size)
      have SWb : Keeps (fun _ => False) W7 (wd.alloc (.cells #[.int .i64 0, .int .i64 0, .int .i64 0] 32)) := SW.trans (Keeps.of_all ((Below.refl _ _).alloc (Nat.le_refl _) _))
      refine hK1.out _ _ SWb (fun SW => ?_)
      clear hK1 K1 SWb
      try rw [hdd]
      clear hdd
      generalize hwz : wd.alloc (.cells #[.int .i64 0, .int .i64 0, .int .i64 0] 32) = wz at SW KZ ⊢
      clear hwz
      have HVD := hide KZ
      clear KZ
      rename World => wd
      go_simp
      refine wpAnyH_ready (rs := [1]) (by kernel_rfl) (by simp) ?_
      refine AllReadyH.cons rfl (fun K1 hK1 => ?_) AllReadyH.nil
      go_simp
      refine (HA.out _ (DS.out _ SW).1).mono ?_
      rintro r v3 ⟨rfl, hb⟩
      have SWb := SW.trans (Keeps.of_all hb)
      have HVD := hide (HVD.out.mono hb)
      refine hK1.out _ _ SWb (fun SW => ?_)
      clear hK1 K1 hb SWb
      rename World => wd
      go_simp
      refine wpAnyH_ready (rs := [6]) (by kernel_rfl) (by simp) ?_
      refine AllReadyH.cons rfl (fun K1 hK1 => ?_) AllReadyH.nil
      go_simp
      refine (HI.out _ (DS.out _ SW).2.1 (DS.out _ SW).2.2.1 (DS.out _ SW).2.2.2.1).mono ?_
      rintro r v4 ⟨rfl, hb⟩
      have SWb := SW.trans (Keeps.of_all hb)
      have HVD := hide (HVD.out.mono hb)
      refine hK1.out _ _ SWb (fun SW => ?_)
      clear hK1 K1 hb SWb
      rename World => wd
      go_simp
      refine wpAnyH_take (i := 7) (v := .tuple #[.int .i64 ov, .agg (mvC om).toArray]) rfl (by kernel_rfl) (by kernel_rfl) (by kernel_rfl) (fun _ _ _ h => h) (Or.inl ⟨by rfl, ?_⟩) SW ?_
      · intro W5 hW5
        go_simp <;> first | done | rfl | (rw [IntKind.wrap_i64]; omega) | omega
      go_simp
      refine wpAnyH_take (i := 8) (v := .int .i64 ov) rfl (by kernel_rfl) (by kernel_rfl) (by kernel_rfl) (fun _ _ _ h => h) (Or.inl ⟨by rfl, ?_⟩) SW ?_
      · intro W5 hW5
        go_simp <;> first | done | rfl | (rw [IntKind.wrap_i64]; omega) | omega
      go_simp
      refine wpAnyH_take (i := 9) (v := .agg (mvC om).toArray) rfl (by kernel_rfl) (by kernel_rfl) (by kernel_rfl) (fun _ _ _ h => h) (Or.inl ⟨by rfl, ?_⟩) SW ?_
      · intro W5 hW5
        go_simp <;> first | done | rfl | (rw [IntKind.wrap_i64]; omega) | omega
      go_simp
      refine wpAnyH_take (i := 11) (v := .int .i64 ov) rfl (by kernel_rfl) (by kernel_rfl) (by kernel_rfl) (fun _ _ _ h => h) (Or.inl ⟨by rfl, ?_⟩) SW ?_
      · intro W5 hW5
        go_simp <;> first | done | rfl | (rw [IntKind.wrap_i64]; omega) | omega
      go_simp
      refine wpAnyH_ready (rs := [12]) (by kernel_rfl) (by simp) ?_
      refine AllReadyH.cons rfl (fun K1 hK1 => ?_) AllReadyH.nil
      refine wp_store_mv (m' := (0, 0, 0)) (.tmp 12) (.tmp 43) rfl dd rfl rfl HVD.out ?_
      intro wc VC kk
      have SWb := keeps_new SW kk HDD.out
      refine hK1.out _ _ SWb (fun SW => ?_)
      clear hK1 K1 SWb kk VC HVD
      go_simp
      refine wpAnyH_done (by kernel_rfl) ?_ _
      have HKE : Hid (Keeps (fun _ => False) W7 wc) := hide SW
      obtain ⟨-, -, -, -, -, -, em, ea, ec⟩ := DS.out wc SW
      have c8 := ea.cell (i := 0) rfl
      clear SW HDD
      by_cases hgt : bv < -ov
      · have HSX : Hid (bStep (fun m => (RF m).1) ac m = (-ov, m)) := hide (by rw [HST.out, if_pos hgt])
        have HM8 := hide em
        have HA8 := hide ea
        have HC8 := hide ec
        clear em ea ec
        gi_wp2
        clear c8
        refine wp_region_round (S := fun W5 => Keeps (fun j => j = d ∨ j = d + 1) wc W5) (by kernel_rfl) (by kernel_rfl) (by rintro ⟨_, _, h⟩; exact h) ?_
        have SW : Keeps (fun j => j = d ∨ j = d + 1) wc wc.drew := (Keeps.refl _ wc).drew
        have DT : Hid (∀ W, Keeps (fun j => j = d ∨ j = d + 1) wc W → Vb W gA 32 (mvC m)) := hide (fun W hk => HM8.out.keeps hk (fun e => by have := HDJ.out; omega))
        have HAd : Hid (Vb wc.drew d 3 [.int .i64 bv]) := hide (HA8.out.mono (drewN_below _ _ 1))
        have HCd : Hid (Vb wc.drew (d + 1) 32 (mvC bm)) := hide (HC8.out.mono (drewN_below _ _ 1))
        generalize hwe : wc.drew = we at SW HAd HCd ⊢
        clear hwe
        refine wpAnyH_take (i := 0) (v := .int .i64 ov) rfl (by kernel_rfl) (by kernel_rfl) (by kernel_rfl) (fun _ _ _ h => h) (Or.inl ⟨by rfl, ?_⟩) SW ?_
        · intro W5 hW5
          go_simp <;> first | done | rfl | (rw [IntKind.wrap_i64]; omega) | omega
        go_simp
        refine wpAnyH_take (i := 1) (v := .int .i64 (-ov)) rfl (by kernel_rfl) (by kernel_rfl) (by kernel_rfl) (fun _ _ _ h => h) (Or.inl ⟨by rfl, ?_⟩) SW ?_
        · intro W5 hW5
          go_simp <;> first | done | rfl | (rw [IntKind.wrap_i64]; omega) | omega
        go_simp
        refine wpAnyH_take (i := 2) (v := .agg (mvC m).toArray) rfl (by kernel_rfl) (by kernel_rfl) (by kernel_rfl) (fun _ _ _ h => h) (Or.inl ⟨by rfl, ?_⟩) SW ?_
        · intro W5 hW5
          have y0 := (DT.out W5 hW5).cell (i := 0) rfl
          have y1 := (DT.out W5 hW5).cell (i := 1) rfl
          have y2 := (DT.out W5 hW5).cell (i := 2) rfl
          go_simp <;> first | done | rfl | (rw [IntKind.wrap_i64]; omega) | omega
        go_simp
        have ca := HAd.out.cell (i := 0) rfl
        have fa := HAd.out.frozen 0
        have HA9 := hide (HAd.out.set 0 (.int .i64 (-ov)))
        have k9 : Keeps (fun j => j = d) we (we.setCell ⟨d, 0, none⟩ (.int .i64 (-ov))) := Keeps.set1 _ _ _ _
        have HC9 := hide (HCd.out.keeps k9 (fun e => by omega))
        have HK9 := hide k9
        clear k9 HAd HCd
        refine wpAnyH_ready (rs := [3]) (by kernel_rfl) (by simp) ?_
        refine AllReadyH.cons rfl (fun K1 hK1 => ?_) AllReadyH.nil
        go_simp
        have SWb := SW.trans (HK9.out.mono (fun _ _ e => Or.inl e))
        refine hK1.out _ _ SWb (fun SW => ?_)
        clear hK1 K1 SWb ca fa HK9
        generalize hwf : we.setCell ⟨d, 0, none⟩ (.int .i64 (-ov)) = wf at SW HA9 HC9 ⊢
        clear hwf
        go_simp
        refine wpAnyH_ready (rs := [4]) (by kernel_rfl) (by simp) ?_
        refine AllReadyH.cons rfl (fun K1 hK1 => ?_) AllReadyH.nil
        refine wp_store_mv (.tmp 9) (.tmp 50) rfl (d + 1) rfl rfl HC9.out ?_
        intro wh VH kk
        have SWb := SW.trans (kk.mono (fun _ _ e => Or.inr e))
        refine hK1.out _ _ SWb (fun SW => ?_)
        clear hK1 K1 SWb
        have HAh := hide (HA9.out.keeps kk (fun e => by omega))
        clear kk
        go_simp
        refine wpAnyH_done (by kernel_rfl) ?_ _
        have HKF : Hid (Keeps (fun j => j = d ∨ j = d + 1) wc wh) := hide SW
        clear SW
        gi_wp2
        refine ⟨(HKE.out.mono (fun _ _ e => e.elim)).trans (HKF.out.mono (fun j _ e => by rcases e with rfl | rfl; exact HOd.out; exact HOe.out)), O, fun _ _ h => h, HO.out, HOd.out, HOe.out, ?_, ?_⟩
        · rw [HSM.out, HSX.out]; exact HAh.out
        · rw [HSM.out, HSX.out]; exact VH
      · have HSX : Hid (bStep (fun m => (RF m).1) ac m = ac) := hide (by rw [HST.out, if_neg hgt])
        gi_wp2
        refine ⟨HKE.out.mono (fun _ _ e => e.elim), O, fun _ _ h => h, HO.out, HOd.out, HOe.out, ?_, ?_⟩
        · rw [HSM.out, HSX.out, HBV.out.1]; exact ea
        · rw [HSM.out, HSX.out, HBV.out.2]; exact ec
  case done =>
    rintro D O W6 hD ⟨hO, hOd, hOe, hA6, hC6⟩ hk6 hm6 hKd
    rw [HRS.out] at hA6 hC6
    have z := HDG.out
    have z5 := HZ5.out
    have zg := HG.out
    have HD6 : Hid (W6.heap[D]? = some (.deferred (some [])) ∧ D = d + 3) := hide ⟨hKd, by omega⟩
    have HDK := hide (HK5.out W6 hk6)
    have HBw : Hid (Below w.heap.size w W6) := hide ((HB1.out.trans (HB5.out.mono HB1.out.size)).trans (hk6.below (HB1.out.trans (HB5.out.mono HB1.out.size)).size (fun j hj e => by omega)))
    have HA6 := hide hA6
    have HC6 := hide hC6
    clear hO hOd hOe hA6 hC6 hk6 hm6 hKd z z5 zg hD
    go_upto_region 13 with fail
    refine wp_calm2 ?_
    refine wp_region_held (S := fun W5 => Keeps (fun j => j = g + 3) W6 W5) (by kernel_rfl) ?_
    change wpAnyH _ _ _ _ _ _ _ _ (World.drew _)
    have SW : Keeps (fun j => j = g + 3) W6 W6.drew := (Keeps.refl _ W6).drew
    have DS : Hid (∀ W, Keeps (fun j => j = g + 3) W6 W → Vb W d 3 [.int .i64 rs.1] ∧ Vb W (d + 1) 32 (mvC rs.2)) := hide (fun W hk => ⟨HA6.out.keeps hk (fun e => by have := HDG.out; omega), HC6.out.keeps hk (fun e => by have := HDG.out; omega)⟩)
    have HMd : Hid (Vb W6.drew (g + 3) 32 (mvC (0, 0, 0))) := hide ((HDK.out.2.2.2.2.2.2).mono (drewN_below _ _ 1))
    obtain ⟨r1, hr1⟩ : ∃ r1, rs.1 = r1 := ⟨_, rfl⟩
    obtain ⟨r2, hr2⟩ : ∃ r2, rs.2 = r2 := ⟨_, rfl⟩
    rw [hr1, hr2] at DS
    have HRR : Hid (rs.1 = r1 ∧ rs.2 = r2) := hide ⟨hr1, hr2⟩
    clear hr1 hr2
    generalize hwd : W6.drew = wd at SW HMd ⊢
    clear hwd
    refine wpAnyH_take (i := 0) (v := .int .i64 r1) rfl (by kernel_rfl) (by kernel_rfl) (by kernel_rfl) (fun _ _ _ h => h) (Or.inl ⟨by rfl, ?_⟩) SW ?_
    · intro W5 hW5
      have y0 := (DS.out W5 hW5).1.cell (i := 0) rfl
      go_simp <;> first | done | rfl | (rw [IntKind.wrap_i64]; omega) | omega
    go_simp
    refine wpAnyH_take (i := 1) (v := .agg (mvC r2).toArray) rfl (by kernel_rfl) (by kernel_rfl) (by kernel_rfl) (fun _ _ _ h => h) (Or.inl ⟨by rfl, ?_⟩) SW ?_
    · intro W5 hW5
      have y0 := (DS.out W5 hW5).2.cell (i := 0) rfl
      have y1 := (DS.out W5 hW5).2.cell (i := 1) rfl
      have y2 := (DS.out W5 hW5).2.cell (i := 2) rfl
      go_simp <;> first | done | rfl | (rw [IntKind.wrap_i64]; omega) | omega
    go_simp
    refine wpAnyH_take (i := 2) (v := .int .i64 r1) rfl (by kernel_rfl) (by kernel_rfl) (by kernel_rfl) (fun _ _ _ h => h) (Or.inl ⟨by rfl, ?_⟩) SW ?_
    · intro W5 hW5
      go_simp <;> first | done | rfl | (rw [IntKind.wrap_i64]; omega) | omega
    go_simp
    refine wpAnyH_ready (rs := [3]) (by kernel_rfl) (by simp) ?_
    refine AllReadyH.cons rfl (fun K1 hK1 => ?_) AllReadyH.nil
    refine wp_store_mv (.tmp 7) (.tmp 52) rfl (g + 3) rfl rfl HMd.out ?_
    intro wc VC kk
    have SWb := SW.trans kk
    refine hK1.out _ _ SWb (fun SW => ?_)
    clear hK1 K1 SWb kk
    go_simp
    refine wpAnyH_done (by kernel_rfl) ?_ _
    have zg := HG.out
    have z := HDG.out
    have z5 := HZ5.out
    have HBW := hide (HBw.out.trans (SW.below HBw.out.size (fun j hj e => by omega)))
    have HMK : Hid (Mks (fun _ => False) (g + 4) wc [{ target := .collected D, args := #[] }]) := hide ⟨[D], rfl, by simp, fun E hE => by rw [List.mem_singleton.1 hE]; exact ⟨(SW.block D (Array.getElem?_eq_some_iff.1 HD6.out.1).1 (fun e => by have := HD6.out.2; omega)).trans HD6.out.1, by have := HD6.out.2; omega, fun h => h⟩⟩
    clear SW z z5
    go_wp2_with fail
    refine leaves_mks HMK.out (fun w9 hk9 => ?_)
    have V9 := VC.keeps hk9 (fun e => by have := e.1; omega)
    refine ⟨_, results_tr rfl _ _ (g + 3) rfl rfl (load_mv V9), ?_, HBW.out.trans (hk9.below HBW.out.size (fun j hj e => by have := e.1; omega))⟩
    rw [← HRR.out.1, ← HRR.out.2]
    rfl

theorem best_any (l : Nat) (hl : l ≤ 9) : ∀ p, MayP p → ∀ made : Int, 0 ≤ made → made + (l : Int) ≤ 900 → ∀ w, TabS w → TzT w → TabW w → Calls Tryz.prog 19 #[.agg (ivs (stP p)).toArray, .int .i64 made, .int .i64 (l : Nat)] w fun r w' => r = .returned (.tuple #[.int .i64 (bG (-1001) l made p).1, .agg (mvC (bG (-1001) l made p).2).toArray]) ∧ Below w.heap.size w w' := by
  induction l with
  | zero =>
    intro p hM made h0 h1 w hT hZ hW
    cases h : mtP p with
    | true => rw [bG_mt h]; have hh := best_over p hM made h0 (by omega) ((0 : Nat) : Int) w hT hZ (.inl h); rw [h] at hh; exact hh
    | false =>
      cases h2 : skP p with
      | true => rw [bG_sk h h2]; have hh := best_over p hM made h0 (by omega) ((0 : Nat) : Int) w hT hZ (.inr h2); rw [h] at hh; exact hh
      | false => rw [bG_end h h2]; exact best_end p hM made w hT hZ hW h h2
  | succ l ih =>
    intro p hM made h0 h1 w hT hZ hW
    cases h : mtP p with
    | true => rw [bG_mt h]; have hh := best_over p hM made h0 (by omega) ((l + 1 : Nat) : Int) w hT hZ (.inl h); rw [h] at hh; exact hh
    | false =>
      cases h2 : skP p with
      | true => rw [bG_sk h h2]; have hh := best_over p hM made h0 (by omega) ((l + 1 : Nat) : Int) w hT hZ (.inr h2); rw [h] at hh; exact hh
      | false => exact best_on l (by omega) (ih (by omega)) p hM made h0 h1 w hT hZ hW h h2

end Go.Proofs.YtdmlamnonbmboaaGreatDoor
