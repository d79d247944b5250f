/-
  Chess problems: the places that a side covers, as the program finds them, walked. No conditions beyond those that each theorem bears.
-/
import Derived.Test.YtdmlamnonbmboaaDoorQ47
import Derived.Test.YtdmlamnonbmboaaDoorQ48
import Derived.Test.YtdmlamnonbmboaaDoorQ31
import Derived.Test.YtdmlamnonbmboaaDoorQ11
namespace Go.Proofs.YtdmlamnonbmboaaDoor
open Go.RowKit Go.Shelf

/-- A row of 64 answers. -/
def bsB (f : Nat → Bool) : List Value := (List.range 64).map fun j => .bool (f j)
theorem bsB_len (f : Nat → Bool) : (bsB f).length = 64 := by simp [bsB]
theorem bsB_at (f : Nat → Bool) {j : Nat} (hj : j < 64) : (bsB f)[j]? = some (.bool (f j)) := by simp [bsB, List.getElem?_range hj]
theorem bsB_congr {f g : Nat → Bool} (h : ∀ j, j < 64 → f j = g j) : bsB f = bsB g := by
  unfold bsB
  exact List.map_congr_left fun j hj => by rw [h j (List.mem_range.1 hj)]
theorem bsB_set (f : Nat → Bool) (y : Nat) : (bsB f).set y (.bool true) = bsB (fun j => f j || j == y) := by
  apply List.ext_getElem?
  intro j
  by_cases hj : j < 64
  · rw [bsB_at _ hj, List.getElem?_set]
    by_cases e : y = j
    · subst e
      rw [if_pos rfl, if_pos (by rw [bsB_len]; exact hj)]
      simp
    · rw [if_neg e, bsB_at _ hj]
      have : (j == y) = false := by rw [beq_eq_false_iff_ne]; exact fun h => e h.symm
      rw [this, Bool.or_false]
  · rw [List.getElem?_eq_none (by rw [List.length_set, bsB_len]; omega), List.getElem?_eq_none (by rw [bsB_len]; omega)]
theorem row80 : RowT 80 64 := ⟨⟨_, Tryd.underlying80, rfl⟩, by kernel_rfl⟩
theorem bsB_zero : (#[.bool false, .bool false, .bool false, .bool false, .bool false, .bool false, .bool false, .bool false, .bool false, .bool false, .bool false, .bool false, .bool false, .bool false, .bool false, .bool false, .bool false, .bool false, .bool false, .bool false, .bool false, .bool false, .bool false, .bool false, .bool false, .bool false, .bool false, .bool false, .bool false, .bool false, .bool false, .bool false, .bool false, .bool false, .bool false, .bool false, .bool false, .bool false, .bool false, .bool false, .bool false, .bool false, .bool false, .bool false, .bool false, .bool false, .bool false, .bool false, .bool false, .bool false, .bool false, .bool false, .bool false, .bool false, .bool false, .bool false, .bool false, .bool false, .bool false, .bool false, .bool false, .bool false, .bool false, .bool false] : Array Value) = (bsB fun _ => false).toArray := by rfl
theorem run_idxB (f : Nat → Bool) (k : Nat) (hk : k < 64) (w : World) : (Instr.index 80 (.agg (bsB f).toArray) (.int .i64 (k : Nat))).run Tryd.prog w = .ok (.bool (f k)) w := by
  have h3 : (bsB f)[k]? = some (.bool (f k)) := bsB_at f hk
  simp [Instr.index, run_underlying Tryd.underlying80, asIntOf, part, go_sem, hk, h3]

/-- What is held while a piece's places are marked. -/
structure CvI (rb : Nat) (w : World) (f : List Nat → Nat → Bool) (O : Nat → Prop) (s : List Nat) (W : World) : Prop where
  o : ∀ j, O j ↔ j = rb
  a : Vb W rb 80 (bsB (f s))
  bl : Below rb w W

theorem cv_snoc (Z : List Int) (b j y : Nat) (s : List Nat) : bsB (fun t => (cvS Z b j t || decide (t ∈ s)) || t == y) = bsB (fun t => cvS Z b j t || decide (t ∈ s ++ [y])) := bsB_congr fun t _ => by
  rw [Bool.or_assoc]
  congr 1
  rw [Bool.eq_iff_iff]
  simp
theorem cv_nil (Z : List Int) (b j : Nat) : bsB (cvS Z b j) = bsB (fun t => cvS Z b j t || decide (t ∈ ([] : List Nat))) := bsB_congr fun t _ => by simp
theorem cv_own {Z : List Int} {b j : Nat} (h : ownB Z b j = true) : bsB (cvS Z b (j + 1)) = bsB (fun t => cvS Z b j t || decide (t ∈ rch Z (zg Z j) j)) := bsB_congr fun t _ => by rw [cvS_succ, h, Bool.true_and]
theorem cv_none {Z : List Int} {b j : Nat} (h : ownB Z b j = false) : bsB (cvS Z b (j + 1)) = bsB (cvS Z b j) := bsB_congr fun t _ => by rw [cvS_succ, h, Bool.false_and, Bool.or_false]

attribute [local irreducible] rch cvS cvB cvL pci bsB
attribute [local go_sem] Oper.semAt_some wide_fn wide_fn0 wide_depth

set_option maxRecDepth 100000 in
set_option maxHeartbeats 16000000 in
theorem covered_any (a : Option Addr) (c : Nat) (Z : List Int) (b : Nat) (hb1 : b ≤ 1) (hz : Pz Z) (w : World) (hR : Rd w a 64 c Z) (hT : TabS w) :
    Calls Tryd.prog 23 #[.slice a 64 c, .int .i64 (b : Nat)] w fun e w' => ∃ a' c', e = .returned (.slice a' (cvL Z b 64).length c') ∧ Rd w' a' (cvL Z b 64).length c' (toI (cvL Z b 64)) ∧ Below w.heap.size w w' := by
  obtain ⟨zb, zo, rfl, -⟩ := hR.cells (by omega)
  have hcm := hR.max
  unfold maxLen at hcm
  have hcc := hR.cap
  obtain ⟨g, hg⟩ : ∃ g, w.heap.size = g := ⟨_, rfl⟩
  obtain ⟨w1, hw1⟩ : ∃ w1, w.alloc (.cells #[.slice (some ⟨zb, zo, none⟩) 64 c] 22) = w1 := ⟨_, rfl⟩
  obtain ⟨w2, hw2⟩ : ∃ w2, w1.alloc (.cells #[.bool false, .bool false, .bool false, .bool false, .bool false, .bool false, .bool false, .bool false, .bool false, .bool false, .bool false, .bool false, .bool false, .bool false, .bool false, .bool false, .bool false, .bool false, .bool false, .bool false, .bool false, .bool false, .bool false, .bool false, .bool false, .bool false, .bool false, .bool false, .bool false, .bool false, .bool false, .bool false, .bool false, .bool false, .bool false, .bool false, .bool false, .bool false, .bool false, .bool false, .bool false, .bool false, .bool false, .bool false, .bool false, .bool false, .bool false, .bool false, .bool false, .bool false, .bool false, .bool false, .bool false, .bool false, .bool false, .bool false, .bool false, .bool false, .bool false, .bool false, .bool false, .bool false, .bool false, .bool false] 80) = w2 := ⟨_, rfl⟩
  have B1 : Below w.heap.size w w1 := by rw [← hw1]; exact (Below.refl _ w).alloc (Nat.le_refl _) _
  have s1 : w1.heap.size = g + 1 := by rw [← hw1, ← hg]; simp
  have B12 : Below w1.heap.size w1 w2 := by rw [← hw2]; exact (Below.refl _ w1).alloc (Nat.le_refl _) _
  have s2 : w2.heap.size = g + 2 := by rw [← hw2]; simp [s1]
  have c1 : w1.cell? ⟨g, 0, none⟩ = some (.slice (some ⟨zb, zo, none⟩) 64 c) := by rw [← hw1, ← hg]; exact new_cell w _ 22
  have B2 : Below w.heap.size w w2 := B1.trans (B12.mono B1.size)
  have c2 : w2.cell? ⟨g, 0, none⟩ = some (.slice (some ⟨zb, zo, none⟩) 64 c) := (B12.cell (p := ⟨g, 0, none⟩) (by show g < _; omega)).trans c1
  have V2 : Vb w2 (g + 1) 80 (bsB (cvS Z b 0)) := by
    have h := Vb.new w1 80 (bsB (cvS Z b 0))
    rw [s1] at h
    rw [← hw2, bsB_zero]
    have he : (bsB fun _ => false) = bsB (cvS Z b 0) := bsB_congr fun j _ => (cvS_zero Z b j).symm
    rw [he]
    exact h
  have R2 := hR.mono B2
  have T2 := hT.mono B2
  have hzb := hR.blt (by omega)
  have h0g := hT.lt
  have HC : Hid (∀ W, Below (g + 1) w2 W → W.cell? ⟨g, 0, none⟩ = some (.slice (some ⟨zb, zo, none⟩) 64 c)) := hide (fun W hW => (hW.cell (p := ⟨g, 0, none⟩) (by show g < _; omega)).trans c2)
  have HZ : Hid (∀ W, Below (g + 1) w2 W → Rd W (some ⟨zb, zo, none⟩) 64 c Z) := hide (fun W hW => R2.keepsN (X := fun k => g + 1 ≤ k) ⟨hW.os, hW.tape, hW.output, hW.size, fun i hi hx => hW.block i (by omega)⟩ (fun _ b' o' e => by simp only [Option.some.injEq, Addr.mk.injEq] at e; omega))
  have HTS : Hid (∀ W, Below (g + 1) w2 W → TabS W) := hide (fun W hW i hi => (hW.cell (p := ⟨0, i, none⟩) (by show 0 < _; omega)).trans (T2 i hi))
  have HG : Hid (w.heap.size = g ∧ 0 < g ∧ zb < g) := hide ⟨hg, by omega, by omega⟩
  have HB2 := hide B2
  have HS2 := hide s2
  have HS1 := hide s1
  have HV2 := hide V2
  have HOF := hide (fun j => of_any b (zg Z j) (by have := hz.2 j; omega) (by have := hz.2 j; omega))
  have HOW : Hid (∀ j, ownB Z b j = decide (0 < pci b (zg Z j))) := hide (fun j => rfl)
  have HKX := hide (fun j (h : ownB Z b j = true) => cv_kx hz h)
  have HSQ := hide (fun xb fb eb j (hj : j < 64) (hx : KX (zg Z j)) => reachV_seq xb fb eb g (zg Z j) j (some ⟨zb, zo, none⟩) c Z hx hj)
  have HLT := hide (fun j (hj : j < 64) (hx : KX (zg Z j)) => rch_lt (Z := Z) hx hj)
  have HALL : Hid (bsB (cvS Z b 64) = bsB (cvB Z b)) := hide (bsB_congr fun t ht => cv_all hz hb1 ht)
  clear hR hT B1 s1 B12 s2 c1 B2 c2 V2 R2 T2 hzb h0g hz
  refine (callsIn_wide (n := 3)).1 ?_
  refine callsIn_of_wp_marks Tryd.func23 rfl trivial ?_ rfl
  simp only [Tryd.ntmps23, List.size_toArray, List.length_cons, List.length_nil, Nat.reduceAdd, Nat.reduceSub, Array.replicate_succ, Array.replicate_zero, List.push_toArray, List.append_toArray, List.nil_append, List.cons_append]
  refine wpIn_wide.2 ?_
  go_upto_region 2 with fail
  clear hw1
  go_upto_region 3 with fail
  rw [HS1.out]
  clear hw2
  have q0 := HC.out w2 (Below.refl _ _)
  go_wp2_with fail
  clear q0
  refine wp_loop (fun a' wr => ∃ (v3 v7 v8 v9 v10 v11 v12 v13 v16 v17 v18 v19 v20 v21 v22 v23 v24 v25 v26 v27 v28 v29 v30 v31 v32 v33 v34 v35 v36 v37 v38 v39 v40 v41 v42 v43 v44 : Value) (ds : List Deferred) (j : Nat), (v16 = .int .i64 (j : Nat) ∧ j ≤ 64 ∧ Hid (Vb wr (g + 1) 80 (bsB (cvS Z b j))) ∧ Hid (Below (g + 1) w2 wr) ∧ Hid (Mks (fun k => k = g + 1) (g + 2) wr ds)) ∧ a' = { tmps := #[.slice (some ⟨zb, zo, none⟩) 64 c, .int .i64 (b : Nat), .pointer (some ⟨g, 0, none⟩), v3, .slice none 0 0, .func (.func 50) #[] #[.pointer (some ⟨g, 0, none⟩)], .pointer (some ⟨g + 1, 0, none⟩), v7, v8, v9, v10, v11, v12, v13, .slice (some ⟨zb, zo, none⟩) 64 c, .int .i64 64, v16, v17, v18, v19, v20, v21, v22, v23, v24, v25, v26, v27, v28, v29, v30, v31, v32, v33, v34, v35, v36, v37, v38, v39, v40, v41, v42, v43, v44], defers := ds }) (fun a' _ => 64 - (intOf (a'.tmps.getD 16 undef)).toNat) ?start ?round
  case start =>
    refine ⟨_, _, _, _, _, _, _, _, _, _, _, _, _, _, _, _, _, _, _, _, _, _, _, _, _, _, _, _, _, _, _, _, _, _, _, _, _, [], 0, ⟨rfl, by omega, HV2, hide (Below.refl _ _), hide (Mks.nil _ _ _)⟩, rfl⟩
  case round =>
    rintro a0 wa ⟨v3, v7, v8, v9, v10, v11, v12, v13, v16, v17, v18, v19, v20, v21, v22, v23, v24, v25, v26, v27, v28, v29, v30, v31, v32, v33, v34, v35, v36, v37, v38, v39, v40, v41, v42, v43, v44, ds, j, ⟨rfl, hj64, hV, hbl, hMk⟩, rfl⟩
    by_cases hj : j < 64
    · have hj' : (j : Int) < 64 := by omega
      have RR := HZ.out wa hbl.out
      obtain ⟨b', o', e', hc'⟩ := RR.cells (by omega)
      simp only [Option.some.injEq, Addr.mk.injEq, and_true] at e'
      obtain ⟨rfl, rfl⟩ := e'
      have cz : wa.cell? ⟨zb, zo + j, none⟩ = some (.int .i64 (zg Z j)) := hc' j hj
      have HOJ := hide (HOF.out j)
      have HWJ := hide (HOW.out j)
      have HPJ : Hid (-6 ≤ pci b (zg Z j) ∨ True) := hide (Or.inr trivial)
      cases ho : ownB Z b j with
      | false =>
        have hE : Hid (bsB (cvS Z b (j + 1)) = bsB (cvS Z b j)) := hide (cv_none ho)
        have hp : pci b (zg Z j) ≤ 0 := by
          have h := HWJ.out
          rw [ho] at h
          have := of_decide_eq_false h.symm
          omega
        generalize pci b (zg Z j) = pv at *
        generalize zg Z j = zj at *
        clear hc' RR HWJ ho HPJ
        go_wp2_with (refine (HOJ.out _).mono ?_; rintro e w5 ⟨rfl, hw⟩; subst w5)
        refine ⟨⟨_, _, _, _, _, _, _, _, _, _, _, _, _, _, _, _, _, _, _, _, _, _, _, _, _, _, _, _, _, _, _, _, _, _, _, _, _, ds, j + 1, ⟨by go_num, by omega, by rw [hE.out]; exact hV, hbl, hMk⟩, rfl⟩, ?_⟩
        simp [intOf]
        omega
      | true =>
        have hE : Hid (bsB (cvS Z b (j + 1)) = bsB (fun t => cvS Z b j t || decide (t ∈ rch Z (zg Z j) j))) := hide (cv_own ho)
        have hp : 0 < pci b (zg Z j) := by
          have h := HWJ.out
          rw [ho] at h
          exact of_decide_eq_true h.symm
        have hkx := HKX.out j ho
        have HSQJ := hide (fun xb fb eb => HSQ.out xb fb eb j hj hkx)
        have HLTJ := hide (HLT.out j hj hkx)
        have HSN := hide (fun y s => cv_snoc Z b j y s)
        have HNI := hide (cv_nil Z b j)
        have HRA := hide (fun w => reachV_any (zg Z j) j g w)
        have HRN := hide (fun w (hl : w.cell? ⟨g, 0, none⟩ = some (.slice (some ⟨zb, zo, none⟩) 64 c)) (hz : Rd w (some ⟨zb, zo, none⟩) 64 c Z) (hs : TabS w) => RvR.new (zg Z j) j hl hz hs)
        generalize pci b (zg Z j) = pv at *
        generalize zg Z j = zj at *
        clear hc' RR HWJ ho HPJ hkx
        go_upto_region 7 with (refine (HOJ.out _).mono ?_; rintro e w5 ⟨rfl, hw⟩; subst w5)
        go_wp2_with fail
        refine (HRA.out wa).mono ?_
        rintro e w3 ⟨rfl, hw3⟩
        have R3 := HRN.out wa (HC.out wa hbl.out) (HZ.out wa hbl.out) (HTS.out wa hbl.out)
        rw [← hw3] at R3
        have B3 : Below wa.heap.size wa w3 := by
          rw [hw3]; exact (((Below.refl wa.heap.size wa).alloc (Nat.le_refl _) _).alloc (by simp) _).alloc (by simp; omega) _
        have s3 : w3.heap.size = wa.heap.size + 3 := by rw [hw3]; simp
        have hge : g + 2 ≤ wa.heap.size := by have := hbl.out.size; have := HS2.out; omega
        have I3 : CvI (g + 1) w2 (fun s t => cvS Z b j t || decide (t ∈ s)) (fun k => k = g + 1) [] w3 := ⟨fun _ => Iff.rfl, by rw [← HNI.out]; exact hV.out.mono B3, hbl.out.trans (B3.mono (by omega))⟩
        have HI3 := hide I3
        have HM3 : Hid (Mks (fun k => k = g + 1) (g + 2) w3 ds) := hide (hMk.out.keeps (X := fun _ => False) (Keeps.of_all B3) (fun _ _ _ e => e) (fun _ _ h => h))
        have HMO := hide hMk.out.old
        have HR3 := hide R3
        have HS3 := hide s3
        have HGE := hide hge
        clear hw3 B3 s3 R3 hge I3 hV hMk cz hbl
        go_wp2_with fail
        obtain ⟨XS, hXS⟩ : ∃ XS, rch Z zj j = XS := ⟨_, rfl⟩
        rw [hXS] at HSQJ HLTJ hE
        clear hXS
        refine (wpIn_wide (n := 1)).1 (wp_range_o (gf := 82) (lb := #[.pointer (some ⟨wa.heap.size, 0, none⟩), .pointer (some ⟨wa.heap.size + 1, 0, none⟩), .pointer (some ⟨wa.heap.size + 2, 0, none⟩)]) (G := RcG) (xs := XS) (R := RvR wa.heap.size (wa.heap.size + 1) (wa.heap.size + 2) g zj j (some ⟨zb, zo, none⟩) c Z) (T := RvT wa.heap.size (wa.heap.size + 1) (wa.heap.size + 2) g (some ⟨zb, zo, none⟩)) (by simp [Act.eval]) (enters_of Tryd.func82 (by kernel_rfl) rfl)
          (HSQJ.out wa.heap.size (wa.heap.size + 1) (wa.heap.size + 2)) ?hT (fun A hA => HR3.out.keeps (X := fun _ => False) (Keeps.of_all hA) (fun _ _ e => e)) (fun x args W' hG => by rw [hG]; rfl)
          (fun O s W' => CvI (g + 1) w2 (fun s t => cvS Z b j t || decide (t ∈ s)) O s W') (fun _ _ _ => False) (fun k => k = g + 1) ?hC HI3.out ?round ?done (fun _ _ _ _ _ h => h.elim))
        case hT =>
          have z1 := HS3.out
          have z2 := HGE.out
          have z3 := HG.out
          rintro q (rfl | rfl | rfl | rfl | rfl | ⟨off, e⟩)
          · omega
          · omega
          · omega
          · omega
          · omega
          · simp only [Option.some.injEq, Addr.mk.injEq] at e; omega
        case hC =>
          have z1 := HS3.out
          have z2 := HGE.out
          have z3 := HG.out
          intro d
          refine ⟨?_, (fun _ _ h => h.elim), ?_, (fun _ _ _ h => h.elim)⟩
          · rintro O s A h k hk
            obtain rfl := (h.o k).1 hk
            refine ⟨h.a.lt, ?_⟩
            rintro (e | e | e | e | e | ⟨off, e⟩)
            · omega
            · omega
            · omega
            · omega
            · omega
            · simp only [Option.some.injEq, Addr.mk.injEq] at e; omega
          · rintro O s A B h hk
            exact ⟨h.o, h.a.keeps hk (fun e => by omega), h.bl.trans (hk.below (Nat.le_of_lt h.a.lt) (fun k hk e => by omega))⟩
        case round =>
          rintro l2 O sx y args W6 hl2 ⟨rec, hrec⟩ hI6 hOl _ _ hpre hGx hsz6
          obtain rfl : args = #[.int .i64 (y : Nat)] := hGx
          have hy64 := HLTJ.out y (hpre.subset (show y ∈ sx ++ [y] by simp))
          have HI6 := hide hI6
          have HSZ6 := hide hsz6
          have HL2 := hide hl2
          clear hI6 hpre hrec hOl hsz6 hl2
          gi_wp2
          refine ⟨Below.refl _ _, ?_⟩
          intro W7 hk7
          have z1 := HS3.out
          have z2 := HGE.out
          have z4 := HL2.out
          have I7 : CvI (g + 1) w2 (fun s t => cvS Z b j t || decide (t ∈ s)) O sx W7 := ⟨HI6.out.o, HI6.out.a.keeps hk7 (fun e => by omega), HI6.out.bl.trans (hk7.below (Nat.le_of_lt HI6.out.a.lt) (fun k hk e => by omega))⟩
          have HI7 := hide I7
          have hy' : (y : Int) < 64 := by omega
          have ca := I7.a.cell (bsB_at _ hy64)
          have fa := I7.a.frozen y
          have V9 := I7.a.set y (.bool true)
          rw [bsB_set, HSN.out] at V9
          have kk : Keeps (fun k => k = g + 1) W7 (W7.setCell ⟨g + 1, y, none⟩ (.bool true)) := Keeps.set1 _ _ _ _
          have HV9 := hide V9
          have HK9 : Hid (Keeps O W7 (W7.setCell ⟨g + 1, y, none⟩ (.bool true))) := hide (kk.mono (fun k _ e => (HI7.out.o k).2 e))
          have HB9 : Hid (Below (g + 1) w2 (W7.setCell ⟨g + 1, y, none⟩ (.bool true))) := hide (I7.bl.trans (kk.below (Nat.le_of_lt I7.a.lt) (fun k hk e => by omega)))
          clear HI6 hk7 z1 z2 z4 I7 V9 kk
          gi_wp2
          exact ⟨HK9.out, O, fun _ _ h => h, HI7.out.o, HV9.out, HB9.out⟩
        case done =>
          rintro D O W6 hD hI6 hk6 hm6 hKd
          have z1 := HS3.out
          have z2 := HGE.out
          have HM6 : Hid (Mks (fun k => k = g + 1) (g + 2) W6 ({ target := .collected D, args := #[] } :: ds)) := hide ((HM3.out.keeps hk6 (fun _ _ h => h) (fun _ _ h => h)).push (n := w3.heap.size) (fun Ds h E hE => by have := HMO.out Ds h E hE; omega) (by omega) (by omega) (by omega) hKd)
          have HV6 : Hid (Vb W6 (g + 1) 80 (bsB (cvS Z b (j + 1)))) := hide (by rw [hE.out]; exact hI6.a)
          have HB6 := hide hI6.bl
          clear hI6 hk6 hm6 hKd z1 z2 HM3 HI3 HR3
          go_wp2_with fail
          refine ⟨⟨_, _, _, _, _, _, _, _, _, _, _, _, _, _, _, _, _, _, _, _, _, _, _, _, _, _, _, _, _, _, _, _, _, _, _, _, _, _, j + 1, ⟨by go_num, by omega, HV6, HB6, HM6⟩, rfl⟩, ?_⟩
          simp [intOf]
          omega
    · obtain rfl : j = 64 := by omega
      rw [HALL.out] at hV
      obtain ⟨dd, hdd⟩ : ∃ dd, wa.heap.size = dd := ⟨_, rfl⟩
      have HDD := hide hdd
      have hge : g + 2 ≤ dd := by have := hbl.out.size; have := HS2.out; omega
      have HMD : Hid (Mks (fun k => dd ≤ k) (g + 2) wa ds) := hide (by
        obtain ⟨Ds, h1, h2, h3⟩ := hMk.out
        refine ⟨Ds, h1, h2, fun D hD => ?_⟩
        obtain ⟨x1, x2, x3⟩ := h3 D hD
        have := (Array.getElem?_eq_some_iff.1 x1).1
        exact ⟨x1, x2, by omega⟩)
      have HIX : Hid (∀ k, k < 64 → ∀ W, (Instr.index 80 (.agg (bsB (cvB Z b)).toArray) (.int .i64 (k : Nat))).run Tryd.prog W = .ok (.bool (cvB Z b k)) W) := hide (fun k hk W => run_idxB (cvB Z b) k hk W)
      have hl64 : RowT 80 (bsB (cvB Z b)).length := by rw [bsB_len]; exact row80
      have hV' := hV.out
      clear hMk
      go_upto_region 12 with fail
      go_upto_region 13 with (refine wpList_load_vb rfl 80 (.tmp 6) rfl (g + 1) rfl hl64 hV' ?_)
      clear hV' hl64
      obtain ⟨BL, hBL⟩ : ∃ BL, (bsB (cvB Z b)).toArray = BL := ⟨_, rfl⟩
      rw [hBL] at HIX ⊢
      clear hBL
      go_wp2_with fail
      go_loopw [10, 34] (fun u v ws => ∃ (k cp : Nat) (ad : Option Addr), v = .int .i64 (k : Nat) ∧ k ≤ 64 ∧ u = .slice ad (cvL Z b k).length cp ∧ Hid (ws.ownsRow dd 3 1 (.slice ad (cvL Z b k).length cp) (cvL Z b k).length ((toI (cvL Z b k)).map (Value.int .i64))) ∧ Hid (Below dd wa ws)) (fun _ v _ => 64 - (intOf v).toNat)
      case atStart =>
        refine ⟨0, 0, none, rfl, by omega, ?_, ?_, hide (Below.refl _ _)⟩
        · rw [cvL_zero]; rfl
        · rw [cvL_zero]; exact hide (World.ownsRow_nil _ _ _ _)
      case round =>
        obtain ⟨k, cp, ad, rfl, hk, rfl, hO, hB⟩ := hrel
        by_cases hlt : k < 64
        · have hlt' : (k : Int) < 64 := by omega
          have hml := cvL_len Z b k
          have HI := hide (fun h => cvL_in (Z := Z) (b := b) (j := k) h)
          have HU := hide (fun h => cvL_out (Z := Z) (b := b) (j := k) h)
          have hix := HIX.out k hlt
          obtain ⟨cb, hcb⟩ : ∃ cb, cvB Z b k = cb := ⟨_, rfl⟩
          rw [hcb] at HI HU hix
          clear hcb
          cases cb with
          | true =>
            have HE := hide (HI.out rfl)
            clear HI HU
            have hR1 : Rd (World.alloc wr (.cells #[.int .i64 (k : Nat)] 3)) (some ⟨wr.heap.size, 0, none⟩) 1 1 [((k : Nat) : Int)] := Rd.of_blk (Blk.new wr 3 [((k : Nat) : Int)] _ rfl) rfl (by decide)
            have hsd : dd ≤ wr.heap.size := by have := hB.out.size; have := HDD.out; omega
            have hOa := hO.out.alloc (.cells #[.int .i64 (k : Nat)] 3)
            have hBa := hB.out.alloc hsd (.cells #[.int .i64 (k : Nat)] 3)
            have hsa : dd ≤ (wr.alloc (.cells #[.int .i64 (k : Nat)] 3)).heap.size := by rw [World.size_alloc]; omega
            have HPL : Hid ((cvL Z b (k + 1)).length = (cvL Z b k).length + 1) := hide (by rw [HE.out]; simp)
            have HPI : Hid (toI (cvL Z b (k + 1)) = toI (cvL Z b k) ++ [((k : Nat) : Int)]) := hide (by rw [HE.out, toI_snoc])
            generalize hpl : (cvL Z b k).length = N at *
            clear hpl
            go_wp2_with (at_builtin; refine wpList_append_rd _ rfl _ _ rfl dd _ N (toI (cvL Z b k)) rfl hOa (some ⟨wr.heap.size, 0, none⟩) 1 1 [((k : Nat) : Int)] rfl hR1 (by omega) hsa ?_)
            intro v' w6 hO6 hg6
            obtain ⟨ad6, cp6, rfl⟩ := slice_form hO6
            have HB6 := hide (hBa.grown hg6 hsa (fun q hq => by rcases hO.out.2 with ⟨e, _⟩ | ⟨g', cap, cur, e, hbg, _⟩ <;> rw [e] at hq <;> simp [Value.ownBlock] at hq; omega))
            have HO6 := hide hO6
            clear hO6 hg6 hR1 hOa hBa hsa hsd
            go_wp2_with fail
            refine ⟨⟨k + 1, cp6, ad6, by go_num, by omega, ?_, ?_, HB6⟩, by simp [intOf]; omega⟩
            · rw [HPL.out]
            · rw [HPL.out, HPI.out, List.map_append]; exact HO6
          | false =>
            have HE := hide (HU.out rfl)
            clear HI HU
            go_wp2_with fail
            refine ⟨⟨k + 1, cp, ad, by go_num, by omega, ?_, ?_, hB⟩, by simp [intOf]; omega⟩
            · rw [HE.out]
            · rw [HE.out]; exact hO
        · obtain rfl : k = 64 := by omega
          have HM8 : Hid (Mks (fun k => dd ≤ k) (g + 2) wr ds) := hide (HMD.out.keeps (X := fun k => dd ≤ k) ⟨hB.out.os, hB.out.tape, hB.out.output, hB.out.size, fun i hi hx => hB.out.block i (by omega)⟩ (fun D h1 h2 => h2) (fun _ _ h => h))
          go_wp2_with fail
          refine leaves_mks HM8.out (fun w9 hk9 => ?_)
          have z0 := HG.out.1
          have z1 := HB2.out
          have z2 := HDD.out
          have z3 := HS2.out
          have BW : Below w.heap.size w wr := (z1.trans (hbl.out.mono (by omega))).trans (hB.out.mono (by omega))
          refine ⟨_, results_tmp rfl _ _ _, ad, cp, rfl, ?_, BW.trans ⟨hk9.os, hk9.tape, hk9.output, hk9.size, fun i hi => hk9.block i (by have := BW.size; omega) (fun e => by omega)⟩⟩
          refine (Rd.of_own hO.out).keepsN hk9 (fun hn b' o' e hx => ?_)
          have hlt := (hO.out.lt b' (by rw [e]; rfl)).1
          exact hx.2 hlt

end Go.Proofs.YtdmlamnonbmboaaDoor
