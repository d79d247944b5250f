/-
  What the document's StepOf answers where a man comes to a point. No conditions beyond those that each theorem bears.
-/
import Derived.Test.YtmboikpcbkiepaaStOg
namespace Go.Proofs.Ytmboikpcbkiepaa
open Go.RowKit

theorem getD_set_self (L : List Int) (i : Nat) (x : Int) (hi : i < L.length) : (L.set i x).getD i 0 = x := by rw [getD_set _ _ _ _ hi, if_pos rfl]
theorem getD_set_ne (L : List Int) (i j : Nat) (x : Int) (h : j ≠ i) : (L.set i x).getD j 0 = L.getD j 0 := by
  simp only [List.getD, List.getElem?_set]
  rw [if_neg (fun e => h e.symm)]

set_option maxRecDepth 100000 in
set_option maxHeartbeats 4000000 in
theorem StepOf_move0 (a : Option Addr) (c : Nat) (P : List Int) (W B : Int) (f : Nat) (p : Nat) (w : World) (h : Rd w a 26 c P) (hmay : mayP P W B 0) (hp : 1 ≤ p ∧ p ≤ 6) (hb : Hid (W = 0)) (hf : 1 ≤ f ∧ f ≤ 24) (hm : 1 ≤ ma P 0 f) (q : Nat) (hq : 1 ≤ q ∧ q ≤ 24) (hfar : aw 0 f = aw 0 q + p) :
    Calls Try.prog 13 #[.agg (gmA a 26 c W B 0), .int .i64 f, .int .i64 p] w (StO P W B 0 f p w) := by
  have HM := hide hmay
  have HRD := hide h
  have hz15 : Hid (∀ q, q ≤ 25 → -15 ≤ P.getD q 0 ∧ P.getD q 0 ≤ 15) := hide (fun q hq => ⟨hmay.low _ (getD_mem (by rw [hmay.1]; omega)), hmay.high _ (getD_mem (by rw [hmay.1]; omega))⟩)
  clear h hmay
  go_enter Try.func13, Try.ntmps13
  go_upto_region 1 with fail
  obtain ⟨w1, hw1⟩ : ∃ w1, (w.alloc (Obj.cells (gmA a 26 c W B 0) 24)).alloc (Obj.cells #[.slice none 0 0, .int .i64 0, .int .i64 0, .int .i64 0] 24) = w1 := ⟨_, rfl⟩
  rw [hw1]
  have K1 : Gm w1 w.heap.size a 26 c W B 0 := by rw [← hw1]; exact (Gm.new w _ _ _ _ _ _).old _
  have K2 : Gm w1 (w.heap.size + 1) none 0 0 0 0 0 := by
    rw [← hw1]
    have := Gm.new (w.alloc (Obj.cells (gmA a 26 c W B 0) 24)) none 0 0 0 0 0
    rw [World.size_alloc] at this
    exact this
  have hs1 : w1.heap.size = w.heap.size + 1 + 1 := by rw [← hw1]; simp
  have B1 : Below w.heap.size w w1 := by rw [← hw1]; exact ((Below.refl _ w).alloc (Nat.le_refl _) _).alloc (by simp) _
  clear hw1
  have CALL := hide (GammonOf_own a 26 c P W B 0 w1 (HRD.out.mono B1) (by omega))
  rw [hs1] at CALL
  go_wp2_with (refine wpList_load_gm rfl (.tmp 3) rfl w.heap.size rfl K1 ?_)
  refine CALL.out.mono ?_
  rintro e w2 ⟨a', c', rfl, hO, hb⟩
  obtain ⟨g, ha', hg2⟩ : ∃ g, a' = some ⟨g, 0, none⟩ ∧ w.heap.size + 1 + 1 ≤ g ∧ g < w2.heap.size := by
    rcases hO.2 with ⟨hv, h0⟩ | ⟨g, cap, cur, hv, hbg, hg, -⟩
    · omega
    · simp only [Value.slice.injEq] at hv
      exact ⟨g, hv.1, hbg, (Array.getElem?_eq_some_iff.1 hg).1⟩
  subst ha'
  obtain ⟨ob, hob⟩ : ∃ ob, w2.heap.size = ob := ⟨_, rfl⟩
  have hsz : w.heap.size + 1 + 1 ≤ ob := by have := hb.size; omega
  have hgo : g ≠ ob := by omega
  have hg1 : w.heap.size + 1 + 1 ≤ g := hg2.1
  have K8 : Gm (w2.alloc (Obj.cells #[.slice none 0 0, .int .i64 0, .int .i64 0, .int .i64 0] 24)) ob none 0 0 0 0 0 := by rw [← hob]; exact Gm.new w2 none 0 0 0 0 0
  have SC0 : Hid (∀ w3, Gm w3 ob (some ⟨g, 0, none⟩) 26 c' W B 0 → Keeps (fun k => k = ob) (w2.alloc (Obj.cells #[.slice none 0 0, .int .i64 0, .int .i64 0, .int .i64 0] 24)) w3 → SC w w3 a c W B 0 ob g c' P W B) := hide (by
    intro w3 k8 kk
    have B2 := (B1.trans (hb.mono (by omega))).alloc (by omega) (Obj.cells #[.slice none 0 0, .int .i64 0, .int .i64 0, .int .i64 0] 24)
    refine ⟨((K1.below (C := w.heap.size + 1 + 1) hb (by omega)).old _).keeps kk (by omega), ((K2.below (C := w.heap.size + 1 + 1) hb (by omega)).old _).keeps kk (by omega), k8, ?_, ?_, hgo, hg1, hsz⟩
    · exact (hO.alloc _).kept kk.grown (Or.inr (by simp [Value.ownBlock]; exact hgo))
    · exact B2.trans ((kk.mono (Y := fun k => w.heap.size ≤ k) (fun k _ e => by omega)).below (by have := B2.size; omega) (fun k hk e => by omega)))
  have HOB := hide hob
  clear K1 K2 B1 CALL hO hb hob hg2 hs1
  go_upto_region 2 with (refine wpList_store_gm rfl (.tmp 8) (.tmp 15) rfl ob (by first | rfl | (rw [← HOB.out]; rfl)) rfl K8 ?_; intro w3 k8 kk)
  have C0 := SC0.out w3 k8 kk
  clear k8 kk SC0 K8
  rw [HOB.out]
  obtain ⟨p0, p1, p2, p3⟩ := C0.k3.cells
  have HIT := hide (stR_hit P W B 0 f p q HM.out.1 HM.out.2.1 HM.out.2.2.1 (by simpa [ownB] using hb.out) hf hm hq hfar hp.1)
  have hfq : f ≠ q := by intro e; subst e; omega
  have hW15 := HM.out.W15
  have hB15 := HM.out.B15
  have hzf := hz15.out f (by omega)
  have hzq1 := hz15.out q (by omega)
  have q1 : (W == 0) = true := by simpa using hb.out
  have q2 : decide (0 < W) = false := by have := hb.out; simp; omega
  have q3 : ((f : Int) == 0) = false := by simp; omega
  have HW := hide (homeward_any f 0 (by omega) (by omega))
  go_wp2_with (refine wpList_load_gm rfl (.tmp 3) rfl w.heap.size rfl C0.k3 ?_)
  refine (menAt_any a c P W B 0 f (by omega) (by omega) w3 (HRD.out.mono C0.b) (hz15.out f (by omega))).mono ?_
  rintro e w4 ⟨rfl, hb4⟩
  have C1 := C0.below hb4
  clear hb4 p0 p1 p2 p3
  obtain ⟨p0, p1, p2, p3⟩ := C1.k3.cells
  generalize ma P 0 f = mf at *
  have q4 : decide (mf < 1) = false := by simp; omega
  go_wp2_with fail
  refine (HW.out _).mono ?_
  rintro e w9 ⟨rfl, hw⟩
  subst w9
  generalize hgfar : aw 0 f = far at *
  obtain ⟨dd, hdd⟩ : ∃ dd, aw 0 q = dd := ⟨_, rfl⟩
  rw [hdd] at hfar
  have hdq : dd ≤ q ∧ q ≤ dd := by rw [← hdd]; simp [aw]
  clear hgfar hdd
  have hfar1 : dd + p ≤ far := by omega
  have hfar2 : far ≤ dd + p := by omega
  clear hfar
  have q5 : ¬ (far : Int) ≤ (p : Int) := by omega
  have q6 : (far : Int) - (p : Int) = (q : Int) := by omega
  clear HW
  go_wp2_with (refine wpList_load_gm rfl (.tmp 3) rfl w.heap.size rfl C1.k3 ?_)
  refine (menAt_any a c P W B 0 q (by omega) (by omega) w4 (HRD.out.mono C1.b) (hz15.out q (by omega))).mono ?_
  rintro e w5 ⟨rfl, hb4⟩
  have C2 := C1.below hb4
  clear hb4 p0 p1 p2 p3
  obtain ⟨p0, p1, p2, p3⟩ := C2.k3.cells
  generalize hzq : ma P 0 q = mq at *
  by_cases hm1 : mq < -1
  · have HV : Hid (stR P W B 0 f p = none) := hide (by rw [HIT.out, if_pos hm1])
    have hm1d : decide (mq < -1) = true := by simpa using hm1
    clear HIT
    go_wp2_with (first
      | refine wpList_load_gm rfl (.tmp 8) rfl ob rfl C2.k8 ?_
      | (refine wpList_store_gm rfl (.tmp 6) (.tmp 110) rfl (w.heap.size + 1) rfl rfl C2.k6 ?_; intro w6 k6 kk6))
    exact bodyPost_ret (results_gb rfl _ _ (w.heap.size + 1) rfl k6) rfl ⟨g, c', P, W, B, false, rfl, (C2.out kk6).1, HV.out, C2.n2, (C2.out kk6).2⟩
  have hm1d : decide (mq < -1) = false := by simpa using hm1
  have HZQ := hide hzq
  clear hzq
  go_wp2_with (refine wpList_load_gm rfl (.tmp 3) rfl w.heap.size rfl C2.k3 ?_)
  refine (menAt_any a c P W B 0 q (by omega) (by omega) w5 (HRD.out.mono C2.b) (hz15.out q (by omega))).mono ?_
  rintro e w6 ⟨rfl, hb4⟩
  have C3 := C2.below hb4
  clear hb4 p0 p1 p2 p3
  obtain ⟨p0, p1, p2, p3⟩ := C3.k3.cells
  rw [HZQ.out]
  have HQL : Hid (P.length = 26) := hide HM.out.1
  by_cases hm2 : mq = -1
  · subst hm2
    have e1 := C3.cell q (by omega)
    have f1 := C3.frozen q
    obtain ⟨g0, g1, g2, g3⟩ := C3.k8.cells
    generalize hgq : P.getD q 0 = zq at *
    clear hgq
    go_upto_region 29 with fail
    have C4 := C3.setP q 0
    generalize w6.setCell ⟨g, q, none⟩ (.int .i64 0) = w7 at *
    clear e1 f1 g0 g1 g2 g3 p0 p1 p2 p3 C3
    obtain ⟨p0, p1, p2, p3⟩ := C4.k3.cells
    obtain ⟨g0, g1, g2, g3⟩ := C4.k8.cells
    have f2 := C4.k8.frozen 2
    go_upto_region 32 with fail
    have C5 := C4.setB (B + 1)
    generalize w7.setCell ⟨ob, 2, none⟩ (.int .i64 (B + 1)) = w8 at *
    clear f2 g0 g1 g2 g3 p0 p1 p2 p3 C4
    obtain ⟨p0, p1, p2, p3⟩ := C5.k3.cells
    have e1 := C5.cell q (by omega)
    have f1 := C5.frozen q
    obtain ⟨g0, g1, g2, g3⟩ := C5.k8.cells
    rw [getD_set_self _ _ _ (by rw [HQL.out]; omega)] at e1
    go_upto_region 33 with fail
    have D1 := C5.setP q (1)
    generalize w8.setCell ⟨g, q, none⟩ (.int .i64 (1)) = w10 at *
    clear e1 f1 g0 g1 g2 g3 p0 p1 p2 p3
    obtain ⟨p0, p1, p2, p3⟩ := D1.k3.cells
    obtain ⟨g0, g1, g2, g3⟩ := D1.k8.cells
    rw [List.set_set] at D1
    have e2 := D1.cell f (by omega)
    have f2 := D1.frozen f
    rw [getD_set_ne _ _ _ _ hfq] at e2
    generalize hgf : P.getD f 0 = zf at *
    have HGF := hide hgf
    clear hgf
    go_upto_region 38 with fail
    have D2 := D1.setP f (zf - 1)
    generalize w10.setCell ⟨g, f, none⟩ (.int .i64 (zf - 1)) = w11 at *
    clear e2 f2 D1
    have HV : Hid (stR P W B 0 f p = some (((P.set q (1)).set f (zf - 1)), W, (B + 1))) := hide (by
      rw [HIT.out, if_neg (by omega)]
      simp only [hitP, barO, HZQ.out, ownB, othB, sg]
      simp (config := { decide := true }) [Int.sub_eq_add_neg])
    go_wp2_with (first
      | refine wpList_load_gm rfl (.tmp 8) rfl ob rfl D2.k8 ?_
      | (refine wpList_store_gm rfl (.tmp 6) (.tmp 159) rfl (w.heap.size + 1) rfl rfl D2.k6 ?_; intro w6 k6 kk6))
    exact bodyPost_ret (results_gb rfl _ _ (w.heap.size + 1) rfl k6) rfl ⟨g, c', ((P.set q (1)).set f (zf - 1)), W, (B + 1), true, rfl, (D2.out kk6).1, HV.out, D2.n2, (D2.out kk6).2⟩
  · have hm2d : (mq == -1) = false := by simpa using hm2
    have e1 := C3.cell q (by omega)
    have f1 := C3.frozen q
    obtain ⟨g0, g1, g2, g3⟩ := C3.k8.cells
    generalize hgq : P.getD q 0 = zq at *
    have HGQ := hide hgq
    clear hgq
    go_upto_region 33 with fail
    have D1 := C3.setP q (zq + 1)
    generalize w6.setCell ⟨g, q, none⟩ (.int .i64 (zq + 1)) = w10 at *
    clear e1 f1 g0 g1 g2 g3 p0 p1 p2 p3
    obtain ⟨p0, p1, p2, p3⟩ := D1.k3.cells
    obtain ⟨g0, g1, g2, g3⟩ := D1.k8.cells
    have e2 := D1.cell f (by omega)
    have f2 := D1.frozen f
    rw [getD_set_ne _ _ _ _ hfq] at e2
    generalize hgf : P.getD f 0 = zf at *
    have HGF := hide hgf
    clear hgf
    go_upto_region 38 with fail
    have D2 := D1.setP f (zf - 1)
    generalize w10.setCell ⟨g, f, none⟩ (.int .i64 (zf - 1)) = w11 at *
    clear e2 f2 D1
    have HV : Hid (stR P W B 0 f p = some (((P.set q (zq + 1)).set f (zf - 1)), W, B)) := hide (by
      rw [HIT.out, if_neg (by omega)]
      simp only [hitP, barO, HZQ.out, ownB, othB, sg, HGQ.out, if_neg hm2]
      simp (config := { decide := true }) [Int.sub_eq_add_neg])
    go_wp2_with (first
      | refine wpList_load_gm rfl (.tmp 8) rfl ob rfl D2.k8 ?_
      | (refine wpList_store_gm rfl (.tmp 6) (.tmp 159) rfl (w.heap.size + 1) rfl rfl D2.k6 ?_; intro w6 k6 kk6))
    exact bodyPost_ret (results_gb rfl _ _ (w.heap.size + 1) rfl k6) rfl ⟨g, c', ((P.set q (zq + 1)).set f (zf - 1)), W, B, true, rfl, (D2.out kk6).1, HV.out, D2.n2, (D2.out kk6).2⟩

set_option maxRecDepth 100000 in
set_option maxHeartbeats 4000000 in
theorem StepOf_move1 (a : Option Addr) (c : Nat) (P : List Int) (W B : Int) (f : Nat) (p : Nat) (w : World) (h : Rd w a 26 c P) (hmay : mayP P W B 1) (hp : 1 ≤ p ∧ p ≤ 6) (hb : Hid (B = 0)) (hf : 1 ≤ f ∧ f ≤ 24) (hm : 1 ≤ ma P 1 f) (q : Nat) (hq : 1 ≤ q ∧ q ≤ 24) (hfar : aw 1 f = aw 1 q + p) :
    Calls Try.prog 13 #[.agg (gmA a 26 c W B 1), .int .i64 f, .int .i64 p] w (StO P W B 1 f p w) := by
  have HM := hide hmay
  have HRD := hide h
  have hz15 : Hid (∀ q, q ≤ 25 → -15 ≤ P.getD q 0 ∧ P.getD q 0 ≤ 15) := hide (fun q hq => ⟨hmay.low _ (getD_mem (by rw [hmay.1]; omega)), hmay.high _ (getD_mem (by rw [hmay.1]; omega))⟩)
  clear h hmay
  go_enter Try.func13, Try.ntmps13
  go_upto_region 1 with fail
  obtain ⟨w1, hw1⟩ : ∃ w1, (w.alloc (Obj.cells (gmA a 26 c W B 1) 24)).alloc (Obj.cells #[.slice none 0 0, .int .i64 0, .int .i64 0, .int .i64 0] 24) = w1 := ⟨_, rfl⟩
  rw [hw1]
  have K1 : Gm w1 w.heap.size a 26 c W B 1 := by rw [← hw1]; exact (Gm.new w _ _ _ _ _ _).old _
  have K2 : Gm w1 (w.heap.size + 1) none 0 0 0 0 0 := by
    rw [← hw1]
    have := Gm.new (w.alloc (Obj.cells (gmA a 26 c W B 1) 24)) none 0 0 0 0 0
    rw [World.size_alloc] at this
    exact this
  have hs1 : w1.heap.size = w.heap.size + 1 + 1 := by rw [← hw1]; simp
  have B1 : Below w.heap.size w w1 := by rw [← hw1]; exact ((Below.refl _ w).alloc (Nat.le_refl _) _).alloc (by simp) _
  clear hw1
  have CALL := hide (GammonOf_own a 26 c P W B 1 w1 (HRD.out.mono B1) (by omega))
  rw [hs1] at CALL
  go_wp2_with (refine wpList_load_gm rfl (.tmp 3) rfl w.heap.size rfl K1 ?_)
  refine CALL.out.mono ?_
  rintro e w2 ⟨a', c', rfl, hO, hb⟩
  obtain ⟨g, ha', hg2⟩ : ∃ g, a' = some ⟨g, 0, none⟩ ∧ w.heap.size + 1 + 1 ≤ g ∧ g < w2.heap.size := by
    rcases hO.2 with ⟨hv, h0⟩ | ⟨g, cap, cur, hv, hbg, hg, -⟩
    · omega
    · simp only [Value.slice.injEq] at hv
      exact ⟨g, hv.1, hbg, (Array.getElem?_eq_some_iff.1 hg).1⟩
  subst ha'
  obtain ⟨ob, hob⟩ : ∃ ob, w2.heap.size = ob := ⟨_, rfl⟩
  have hsz : w.heap.size + 1 + 1 ≤ ob := by have := hb.size; omega
  have hgo : g ≠ ob := by omega
  have hg1 : w.heap.size + 1 + 1 ≤ g := hg2.1
  have K8 : Gm (w2.alloc (Obj.cells #[.slice none 0 0, .int .i64 0, .int .i64 0, .int .i64 0] 24)) ob none 0 0 0 0 0 := by rw [← hob]; exact Gm.new w2 none 0 0 0 0 0
  have SC0 : Hid (∀ w3, Gm w3 ob (some ⟨g, 0, none⟩) 26 c' W B 1 → Keeps (fun k => k = ob) (w2.alloc (Obj.cells #[.slice none 0 0, .int .i64 0, .int .i64 0, .int .i64 0] 24)) w3 → SC w w3 a c W B 1 ob g c' P W B) := hide (by
    intro w3 k8 kk
    have B2 := (B1.trans (hb.mono (by omega))).alloc (by omega) (Obj.cells #[.slice none 0 0, .int .i64 0, .int .i64 0, .int .i64 0] 24)
    refine ⟨((K1.below (C := w.heap.size + 1 + 1) hb (by omega)).old _).keeps kk (by omega), ((K2.below (C := w.heap.size + 1 + 1) hb (by omega)).old _).keeps kk (by omega), k8, ?_, ?_, hgo, hg1, hsz⟩
    · exact (hO.alloc _).kept kk.grown (Or.inr (by simp [Value.ownBlock]; exact hgo))
    · exact B2.trans ((kk.mono (Y := fun k => w.heap.size ≤ k) (fun k _ e => by omega)).below (by have := B2.size; omega) (fun k hk e => by omega)))
  have HOB := hide hob
  clear K1 K2 B1 CALL hO hb hob hg2 hs1
  go_upto_region 2 with (refine wpList_store_gm rfl (.tmp 8) (.tmp 15) rfl ob (by first | rfl | (rw [← HOB.out]; rfl)) rfl K8 ?_; intro w3 k8 kk)
  have C0 := SC0.out w3 k8 kk
  clear k8 kk SC0 K8
  rw [HOB.out]
  obtain ⟨p0, p1, p2, p3⟩ := C0.k3.cells
  have HIT := hide (stR_hit P W B 1 f p q HM.out.1 HM.out.2.1 HM.out.2.2.1 (by simpa [ownB] using hb.out) hf hm hq hfar hp.1)
  have hfq : f ≠ q := by intro e; subst e; omega
  have hW15 := HM.out.W15
  have hB15 := HM.out.B15
  have hzf := hz15.out f (by omega)
  have hzq1 := hz15.out q (by omega)
  have q1 : (B == 0) = true := by simpa using hb.out
  have q2 : decide (0 < B) = false := by have := hb.out; simp; omega
  have q3 : ((f : Int) == 0) = false := by simp; omega
  have HW := hide (homeward_any f 1 (by omega) (by omega))
  go_wp2_with (refine wpList_load_gm rfl (.tmp 3) rfl w.heap.size rfl C0.k3 ?_)
  refine (menAt_any a c P W B 1 f (by omega) (by omega) w3 (HRD.out.mono C0.b) (hz15.out f (by omega))).mono ?_
  rintro e w4 ⟨rfl, hb4⟩
  have C1 := C0.below hb4
  clear hb4 p0 p1 p2 p3
  obtain ⟨p0, p1, p2, p3⟩ := C1.k3.cells
  generalize ma P 1 f = mf at *
  have q4 : decide (mf < 1) = false := by simp; omega
  go_wp2_with fail
  refine (HW.out _).mono ?_
  rintro e w9 ⟨rfl, hw⟩
  subst w9
  generalize hgfar : aw 1 f = far at *
  obtain ⟨dd, hdd⟩ : ∃ dd, aw 1 q = dd := ⟨_, rfl⟩
  rw [hdd] at hfar
  have hdq0 : dd + q = 25 := by rw [← hdd]; simp [aw]; omega
  clear hgfar hdd
  have hfar1 : dd + p ≤ far := by omega
  have hfar2 : far ≤ dd + p := by omega
  clear hfar
  have hdq : 25 - q ≤ dd ∧ dd ≤ 25 - q := by omega
  clear hdq0
  have q5 : ¬ (far : Int) ≤ (p : Int) := by omega
  have q6 : (far : Int) - (p : Int) = (dd : Int) := by omega
  have q7 : (25 : Int) - (dd : Int) = (q : Int) := by omega
  clear HW
  go_wp2_with (refine wpList_load_gm rfl (.tmp 3) rfl w.heap.size rfl C1.k3 ?_)
  refine (menAt_any a c P W B 1 q (by omega) (by omega) w4 (HRD.out.mono C1.b) (hz15.out q (by omega))).mono ?_
  rintro e w5 ⟨rfl, hb4⟩
  have C2 := C1.below hb4
  clear hb4 p0 p1 p2 p3
  obtain ⟨p0, p1, p2, p3⟩ := C2.k3.cells
  generalize hzq : ma P 1 q = mq at *
  by_cases hm1 : mq < -1
  · have HV : Hid (stR P W B 1 f p = none) := hide (by rw [HIT.out, if_pos hm1])
    have hm1d : decide (mq < -1) = true := by simpa using hm1
    clear HIT
    go_wp2_with (first
      | refine wpList_load_gm rfl (.tmp 8) rfl ob rfl C2.k8 ?_
      | (refine wpList_store_gm rfl (.tmp 6) (.tmp 110) rfl (w.heap.size + 1) rfl rfl C2.k6 ?_; intro w6 k6 kk6))
    exact bodyPost_ret (results_gb rfl _ _ (w.heap.size + 1) rfl k6) rfl ⟨g, c', P, W, B, false, rfl, (C2.out kk6).1, HV.out, C2.n2, (C2.out kk6).2⟩
  have hm1d : decide (mq < -1) = false := by simpa using hm1
  have HZQ := hide hzq
  clear hzq
  go_wp2_with (refine wpList_load_gm rfl (.tmp 3) rfl w.heap.size rfl C2.k3 ?_)
  refine (menAt_any a c P W B 1 q (by omega) (by omega) w5 (HRD.out.mono C2.b) (hz15.out q (by omega))).mono ?_
  rintro e w6 ⟨rfl, hb4⟩
  have C3 := C2.below hb4
  clear hb4 p0 p1 p2 p3
  obtain ⟨p0, p1, p2, p3⟩ := C3.k3.cells
  rw [HZQ.out]
  have HQL : Hid (P.length = 26) := hide HM.out.1
  by_cases hm2 : mq = -1
  · subst hm2
    have e1 := C3.cell q (by omega)
    have f1 := C3.frozen q
    obtain ⟨g0, g1, g2, g3⟩ := C3.k8.cells
    generalize hgq : P.getD q 0 = zq at *
    clear hgq
    go_upto_region 29 with fail
    have C4 := C3.setP q 0
    generalize w6.setCell ⟨g, q, none⟩ (.int .i64 0) = w7 at *
    clear e1 f1 g0 g1 g2 g3 p0 p1 p2 p3 C3
    obtain ⟨p0, p1, p2, p3⟩ := C4.k3.cells
    obtain ⟨g0, g1, g2, g3⟩ := C4.k8.cells
    have f2 := C4.k8.frozen 1
    go_upto_region 32 with fail
    have C5 := C4.setW (W + 1)
    generalize w7.setCell ⟨ob, 1, none⟩ (.int .i64 (W + 1)) = w8 at *
    clear f2 g0 g1 g2 g3 p0 p1 p2 p3 C4
    obtain ⟨p0, p1, p2, p3⟩ := C5.k3.cells
    have e1 := C5.cell q (by omega)
    have f1 := C5.frozen q
    obtain ⟨g0, g1, g2, g3⟩ := C5.k8.cells
    rw [getD_set_self _ _ _ (by rw [HQL.out]; omega)] at e1
    go_upto_region 33 with fail
    have D1 := C5.setP q (-1)
    generalize w8.setCell ⟨g, q, none⟩ (.int .i64 (-1)) = w10 at *
    clear e1 f1 g0 g1 g2 g3 p0 p1 p2 p3
    obtain ⟨p0, p1, p2, p3⟩ := D1.k3.cells
    obtain ⟨g0, g1, g2, g3⟩ := D1.k8.cells
    rw [List.set_set] at D1
    have e2 := D1.cell f (by omega)
    have f2 := D1.frozen f
    rw [getD_set_ne _ _ _ _ hfq] at e2
    generalize hgf : P.getD f 0 = zf at *
    have HGF := hide hgf
    clear hgf
    go_upto_region 38 with fail
    have D2 := D1.setP f (zf + 1)
    generalize w10.setCell ⟨g, f, none⟩ (.int .i64 (zf + 1)) = w11 at *
    clear e2 f2 D1
    have HV : Hid (stR P W B 1 f p = some (((P.set q (-1)).set f (zf + 1)), (W + 1), B)) := hide (by
      rw [HIT.out, if_neg (by omega)]
      simp only [hitP, barO, HZQ.out, ownB, othB, sg]
      simp (config := { decide := true }) [Int.sub_eq_add_neg])
    go_wp2_with (first
      | refine wpList_load_gm rfl (.tmp 8) rfl ob rfl D2.k8 ?_
      | (refine wpList_store_gm rfl (.tmp 6) (.tmp 159) rfl (w.heap.size + 1) rfl rfl D2.k6 ?_; intro w6 k6 kk6))
    exact bodyPost_ret (results_gb rfl _ _ (w.heap.size + 1) rfl k6) rfl ⟨g, c', ((P.set q (-1)).set f (zf + 1)), (W + 1), B, true, rfl, (D2.out kk6).1, HV.out, D2.n2, (D2.out kk6).2⟩
  · have hm2d : (mq == -1) = false := by simpa using hm2
    have e1 := C3.cell q (by omega)
    have f1 := C3.frozen q
    obtain ⟨g0, g1, g2, g3⟩ := C3.k8.cells
    generalize hgq : P.getD q 0 = zq at *
    have HGQ := hide hgq
    clear hgq
    go_upto_region 33 with fail
    have D1 := C3.setP q (zq + -1)
    generalize w6.setCell ⟨g, q, none⟩ (.int .i64 (zq + -1)) = w10 at *
    clear e1 f1 g0 g1 g2 g3 p0 p1 p2 p3
    obtain ⟨p0, p1, p2, p3⟩ := D1.k3.cells
    obtain ⟨g0, g1, g2, g3⟩ := D1.k8.cells
    have e2 := D1.cell f (by omega)
    have f2 := D1.frozen f
    rw [getD_set_ne _ _ _ _ hfq] at e2
    generalize hgf : P.getD f 0 = zf at *
    have HGF := hide hgf
    clear hgf
    go_upto_region 38 with fail
    have D2 := D1.setP f (zf + 1)
    generalize w10.setCell ⟨g, f, none⟩ (.int .i64 (zf + 1)) = w11 at *
    clear e2 f2 D1
    have HV : Hid (stR P W B 1 f p = some (((P.set q (zq + -1)).set f (zf + 1)), W, B)) := hide (by
      rw [HIT.out, if_neg (by omega)]
      simp only [hitP, barO, HZQ.out, ownB, othB, sg, HGQ.out, if_neg hm2]
      simp (config := { decide := true }) [Int.sub_eq_add_neg])
    go_wp2_with (first
      | refine wpList_load_gm rfl (.tmp 8) rfl ob rfl D2.k8 ?_
      | (refine wpList_store_gm rfl (.tmp 6) (.tmp 159) rfl (w.heap.size + 1) rfl rfl D2.k6 ?_; intro w6 k6 kk6))
    exact bodyPost_ret (results_gb rfl _ _ (w.heap.size + 1) rfl k6) rfl ⟨g, c', ((P.set q (zq + -1)).set f (zf + 1)), W, B, true, rfl, (D2.out kk6).1, HV.out, D2.n2, (D2.out kk6).2⟩

set_option maxRecDepth 100000 in
set_option maxHeartbeats 4000000 in
theorem StepOf_enter0 (a : Option Addr) (c : Nat) (P : List Int) (W B : Int) (p : Nat) (w : World) (h : Rd w a 26 c P) (hmay : mayP P W B 0) (hp : 1 ≤ p ∧ p ≤ 6) (hb : 0 < W) (q : Nat) (hq : 1 ≤ q ∧ q ≤ 24) (hfar : 25 = aw 0 q + p) :
    Calls Try.prog 13 #[.agg (gmA a 26 c W B 0), .int .i64 0, .int .i64 p] w (StO P W B 0 0 p w) := by
  have HM := hide hmay
  have HRD := hide h
  have hz15 : Hid (∀ q, q ≤ 25 → -15 ≤ P.getD q 0 ∧ P.getD q 0 ≤ 15) := hide (fun q hq => ⟨hmay.low _ (getD_mem (by rw [hmay.1]; omega)), hmay.high _ (getD_mem (by rw [hmay.1]; omega))⟩)
  clear h hmay
  go_enter Try.func13, Try.ntmps13
  go_upto_region 1 with fail
  obtain ⟨w1, hw1⟩ : ∃ w1, (w.alloc (Obj.cells (gmA a 26 c W B 0) 24)).alloc (Obj.cells #[.slice none 0 0, .int .i64 0, .int .i64 0, .int .i64 0] 24) = w1 := ⟨_, rfl⟩
  rw [hw1]
  have K1 : Gm w1 w.heap.size a 26 c W B 0 := by rw [← hw1]; exact (Gm.new w _ _ _ _ _ _).old _
  have K2 : Gm w1 (w.heap.size + 1) none 0 0 0 0 0 := by
    rw [← hw1]
    have := Gm.new (w.alloc (Obj.cells (gmA a 26 c W B 0) 24)) none 0 0 0 0 0
    rw [World.size_alloc] at this
    exact this
  have hs1 : w1.heap.size = w.heap.size + 1 + 1 := by rw [← hw1]; simp
  have B1 : Below w.heap.size w w1 := by rw [← hw1]; exact ((Below.refl _ w).alloc (Nat.le_refl _) _).alloc (by simp) _
  clear hw1
  have CALL := hide (GammonOf_own a 26 c P W B 0 w1 (HRD.out.mono B1) (by omega))
  rw [hs1] at CALL
  go_wp2_with (refine wpList_load_gm rfl (.tmp 3) rfl w.heap.size rfl K1 ?_)
  refine CALL.out.mono ?_
  rintro e w2 ⟨a', c', rfl, hO, hb⟩
  obtain ⟨g, ha', hg2⟩ : ∃ g, a' = some ⟨g, 0, none⟩ ∧ w.heap.size + 1 + 1 ≤ g ∧ g < w2.heap.size := by
    rcases hO.2 with ⟨hv, h0⟩ | ⟨g, cap, cur, hv, hbg, hg, -⟩
    · omega
    · simp only [Value.slice.injEq] at hv
      exact ⟨g, hv.1, hbg, (Array.getElem?_eq_some_iff.1 hg).1⟩
  subst ha'
  obtain ⟨ob, hob⟩ : ∃ ob, w2.heap.size = ob := ⟨_, rfl⟩
  have hsz : w.heap.size + 1 + 1 ≤ ob := by have := hb.size; omega
  have hgo : g ≠ ob := by omega
  have hg1 : w.heap.size + 1 + 1 ≤ g := hg2.1
  have K8 : Gm (w2.alloc (Obj.cells #[.slice none 0 0, .int .i64 0, .int .i64 0, .int .i64 0] 24)) ob none 0 0 0 0 0 := by rw [← hob]; exact Gm.new w2 none 0 0 0 0 0
  have SC0 : Hid (∀ w3, Gm w3 ob (some ⟨g, 0, none⟩) 26 c' W B 0 → Keeps (fun k => k = ob) (w2.alloc (Obj.cells #[.slice none 0 0, .int .i64 0, .int .i64 0, .int .i64 0] 24)) w3 → SC w w3 a c W B 0 ob g c' P W B) := hide (by
    intro w3 k8 kk
    have B2 := (B1.trans (hb.mono (by omega))).alloc (by omega) (Obj.cells #[.slice none 0 0, .int .i64 0, .int .i64 0, .int .i64 0] 24)
    refine ⟨((K1.below (C := w.heap.size + 1 + 1) hb (by omega)).old _).keeps kk (by omega), ((K2.below (C := w.heap.size + 1 + 1) hb (by omega)).old _).keeps kk (by omega), k8, ?_, ?_, hgo, hg1, hsz⟩
    · exact (hO.alloc _).kept kk.grown (Or.inr (by simp [Value.ownBlock]; exact hgo))
    · exact B2.trans ((kk.mono (Y := fun k => w.heap.size ≤ k) (fun k _ e => by omega)).below (by have := B2.size; omega) (fun k hk e => by omega)))
  have HOB := hide hob
  clear K1 K2 B1 CALL hO hb hob hg2 hs1
  go_upto_region 2 with (refine wpList_store_gm rfl (.tmp 8) (.tmp 15) rfl ob (by first | rfl | (rw [← HOB.out]; rfl)) rfl K8 ?_; intro w3 k8 kk)
  have C0 := SC0.out w3 k8 kk
  clear k8 kk SC0 K8
  rw [HOB.out]
  obtain ⟨p0, p1, p2, p3⟩ := C0.k3.cells
  have HIT := hide (stR_in P W B 0 p q HM.out.1 HM.out.2.1 HM.out.2.2.1 (by simpa [ownB] using hb) hq hfar hp.1)
  have hW15 := HM.out.W15
  have hB15 := HM.out.B15
  have hzq1 := hz15.out q (by omega)
  obtain ⟨dd, hdd⟩ : ∃ dd, aw 0 q = dd := ⟨_, rfl⟩
  rw [hdd] at hfar
  have hdq : dd ≤ q ∧ q ≤ dd := by rw [← hdd]; simp [aw]
  have hfar1 : dd + p ≤ 25 := by omega
  have hfar2 : 25 ≤ dd + p := by omega
  clear hfar hdd
  have q3 : ¬ (25 : Int) ≤ (p : Int) := by omega
  have q6 : (25 : Int) - (p : Int) = (q : Int) := by omega
  go_wp2_with (refine wpList_load_gm rfl (.tmp 3) rfl w.heap.size rfl C0.k3 ?_)
  refine (menAt_any a c P W B 0 q (by omega) (by omega) w3 (HRD.out.mono C0.b) (hz15.out q (by omega))).mono ?_
  rintro e w5 ⟨rfl, hb4⟩
  have C2 := C0.below hb4
  clear hb4 p0 p1 p2 p3
  obtain ⟨p0, p1, p2, p3⟩ := C2.k3.cells
  generalize hzq : ma P 0 q = mq at *
  by_cases hm1 : mq < -1
  · have HV : Hid (stR P W B 0 0 p = none) := hide (by rw [HIT.out, if_pos hm1])
    have hm1d : decide (mq < -1) = true := by simpa using hm1
    clear HIT
    go_wp2_with (first
      | refine wpList_load_gm rfl (.tmp 8) rfl ob rfl C2.k8 ?_
      | (refine wpList_store_gm rfl (.tmp 6) (.tmp 110) rfl (w.heap.size + 1) rfl rfl C2.k6 ?_; intro w6 k6 kk6))
    exact bodyPost_ret (results_gb rfl _ _ (w.heap.size + 1) rfl k6) rfl ⟨g, c', P, W, B, false, rfl, (C2.out kk6).1, HV.out, C2.n2, (C2.out kk6).2⟩
  have hm1d : decide (mq < -1) = false := by simpa using hm1
  have HZQ := hide hzq
  clear hzq
  go_wp2_with (refine wpList_load_gm rfl (.tmp 3) rfl w.heap.size rfl C2.k3 ?_)
  refine (menAt_any a c P W B 0 q (by omega) (by omega) w5 (HRD.out.mono C2.b) (hz15.out q (by omega))).mono ?_
  rintro e w6 ⟨rfl, hb4⟩
  have C3 := C2.below hb4
  clear hb4 p0 p1 p2 p3
  obtain ⟨p0, p1, p2, p3⟩ := C3.k3.cells
  rw [HZQ.out]
  have HQL : Hid (P.length = 26) := hide HM.out.1
  by_cases hm2 : mq = -1
  · subst hm2
    have e1 := C3.cell q (by omega)
    have f1 := C3.frozen q
    obtain ⟨g0, g1, g2, g3⟩ := C3.k8.cells
    generalize hgq : P.getD q 0 = zq at *
    clear hgq
    go_upto_region 29 with fail
    have C4 := C3.setP q 0
    generalize w6.setCell ⟨g, q, none⟩ (.int .i64 0) = w7 at *
    clear e1 f1 g0 g1 g2 g3 p0 p1 p2 p3 C3
    obtain ⟨p0, p1, p2, p3⟩ := C4.k3.cells
    obtain ⟨g0, g1, g2, g3⟩ := C4.k8.cells
    have f2 := C4.k8.frozen 2
    go_upto_region 32 with fail
    have C5 := C4.setB (B + 1)
    generalize w7.setCell ⟨ob, 2, none⟩ (.int .i64 (B + 1)) = w8 at *
    clear f2 g0 g1 g2 g3 p0 p1 p2 p3 C4
    obtain ⟨p0, p1, p2, p3⟩ := C5.k3.cells
    have e1 := C5.cell q (by omega)
    have f1 := C5.frozen q
    obtain ⟨g0, g1, g2, g3⟩ := C5.k8.cells
    rw [getD_set_self _ _ _ (by rw [HQL.out]; omega)] at e1
    go_upto_region 33 with fail
    have D1 := C5.setP q (1)
    generalize w8.setCell ⟨g, q, none⟩ (.int .i64 (1)) = w10 at *
    clear e1 f1 g0 g1 g2 g3 p0 p1 p2 p3
    obtain ⟨p0, p1, p2, p3⟩ := D1.k3.cells
    obtain ⟨g0, g1, g2, g3⟩ := D1.k8.cells
    rw [List.set_set] at D1
    have f2 := D1.k8.frozen 1
    go_upto_region 38 with fail
    have D2 := D1.setW (W - 1)
    generalize w10.setCell ⟨ob, 1, none⟩ (.int .i64 (W - 1)) = w11 at *
    clear f2 D1
    have HV : Hid (stR P W B 0 0 p = some ((P.set q (1)), (W - 1), (B + 1))) := hide (by
      rw [HIT.out, if_neg (by omega)]
      simp only [hitP, barO, HZQ.out, ownB, othB, sg]
      simp (config := { decide := true }) [Int.sub_eq_add_neg])
    go_wp2_with (first
      | refine wpList_load_gm rfl (.tmp 8) rfl ob rfl D2.k8 ?_
      | (refine wpList_store_gm rfl (.tmp 6) (.tmp 159) rfl (w.heap.size + 1) rfl rfl D2.k6 ?_; intro w6 k6 kk6))
    exact bodyPost_ret (results_gb rfl _ _ (w.heap.size + 1) rfl k6) rfl ⟨g, c', (P.set q (1)), (W - 1), (B + 1), true, rfl, (D2.out kk6).1, HV.out, D2.n2, (D2.out kk6).2⟩
  · have hm2d : (mq == -1) = false := by simpa using hm2
    have e1 := C3.cell q (by omega)
    have f1 := C3.frozen q
    obtain ⟨g0, g1, g2, g3⟩ := C3.k8.cells
    generalize hgq : P.getD q 0 = zq at *
    have HGQ := hide hgq
    clear hgq
    go_upto_region 33 with fail
    have D1 := C3.setP q (zq + 1)
    generalize w6.setCell ⟨g, q, none⟩ (.int .i64 (zq + 1)) = w10 at *
    clear e1 f1 g0 g1 g2 g3 p0 p1 p2 p3
    obtain ⟨p0, p1, p2, p3⟩ := D1.k3.cells
    obtain ⟨g0, g1, g2, g3⟩ := D1.k8.cells
    have f2 := D1.k8.frozen 1
    go_upto_region 38 with fail
    have D2 := D1.setW (W - 1)
    generalize w10.setCell ⟨ob, 1, none⟩ (.int .i64 (W - 1)) = w11 at *
    clear f2 D1
    have HV : Hid (stR P W B 0 0 p = some ((P.set q (zq + 1)), (W - 1), B)) := hide (by
      rw [HIT.out, if_neg (by omega)]
      simp only [hitP, barO, HZQ.out, ownB, othB, sg, HGQ.out, if_neg hm2]
      simp (config := { decide := true }) [Int.sub_eq_add_neg])
    go_wp2_with (first
      | refine wpList_load_gm rfl (.tmp 8) rfl ob rfl D2.k8 ?_
      | (refine wpList_store_gm rfl (.tmp 6) (.tmp 159) rfl (w.heap.size + 1) rfl rfl D2.k6 ?_; intro w6 k6 kk6))
    exact bodyPost_ret (results_gb rfl _ _ (w.heap.size + 1) rfl k6) rfl ⟨g, c', (P.set q (zq + 1)), (W - 1), B, true, rfl, (D2.out kk6).1, HV.out, D2.n2, (D2.out kk6).2⟩

set_option maxRecDepth 100000 in
set_option maxHeartbeats 4000000 in
theorem StepOf_enter1 (a : Option Addr) (c : Nat) (P : List Int) (W B : Int) (p : Nat) (w : World) (h : Rd w a 26 c P) (hmay : mayP P W B 1) (hp : 1 ≤ p ∧ p ≤ 6) (hb : 0 < B) (q : Nat) (hq : 1 ≤ q ∧ q ≤ 24) (hfar : 25 = aw 1 q + p) :
    Calls Try.prog 13 #[.agg (gmA a 26 c W B 1), .int .i64 0, .int .i64 p] w (StO P W B 1 0 p w) := by
  have HM := hide hmay
  have HRD := hide h
  have hz15 : Hid (∀ q, q ≤ 25 → -15 ≤ P.getD q 0 ∧ P.getD q 0 ≤ 15) := hide (fun q hq => ⟨hmay.low _ (getD_mem (by rw [hmay.1]; omega)), hmay.high _ (getD_mem (by rw [hmay.1]; omega))⟩)
  clear h hmay
  go_enter Try.func13, Try.ntmps13
  go_upto_region 1 with fail
  obtain ⟨w1, hw1⟩ : ∃ w1, (w.alloc (Obj.cells (gmA a 26 c W B 1) 24)).alloc (Obj.cells #[.slice none 0 0, .int .i64 0, .int .i64 0, .int .i64 0] 24) = w1 := ⟨_, rfl⟩
  rw [hw1]
  have K1 : Gm w1 w.heap.size a 26 c W B 1 := by rw [← hw1]; exact (Gm.new w _ _ _ _ _ _).old _
  have K2 : Gm w1 (w.heap.size + 1) none 0 0 0 0 0 := by
    rw [← hw1]
    have := Gm.new (w.alloc (Obj.cells (gmA a 26 c W B 1) 24)) none 0 0 0 0 0
    rw [World.size_alloc] at this
    exact this
  have hs1 : w1.heap.size = w.heap.size + 1 + 1 := by rw [← hw1]; simp
  have B1 : Below w.heap.size w w1 := by rw [← hw1]; exact ((Below.refl _ w).alloc (Nat.le_refl _) _).alloc (by simp) _
  clear hw1
  have CALL := hide (GammonOf_own a 26 c P W B 1 w1 (HRD.out.mono B1) (by omega))
  rw [hs1] at CALL
  go_wp2_with (refine wpList_load_gm rfl (.tmp 3) rfl w.heap.size rfl K1 ?_)
  refine CALL.out.mono ?_
  rintro e w2 ⟨a', c', rfl, hO, hb⟩
  obtain ⟨g, ha', hg2⟩ : ∃ g, a' = some ⟨g, 0, none⟩ ∧ w.heap.size + 1 + 1 ≤ g ∧ g < w2.heap.size := by
    rcases hO.2 with ⟨hv, h0⟩ | ⟨g, cap, cur, hv, hbg, hg, -⟩
    · omega
    · simp only [Value.slice.injEq] at hv
      exact ⟨g, hv.1, hbg, (Array.getElem?_eq_some_iff.1 hg).1⟩
  subst ha'
  obtain ⟨ob, hob⟩ : ∃ ob, w2.heap.size = ob := ⟨_, rfl⟩
  have hsz : w.heap.size + 1 + 1 ≤ ob := by have := hb.size; omega
  have hgo : g ≠ ob := by omega
  have hg1 : w.heap.size + 1 + 1 ≤ g := hg2.1
  have K8 : Gm (w2.alloc (Obj.cells #[.slice none 0 0, .int .i64 0, .int .i64 0, .int .i64 0] 24)) ob none 0 0 0 0 0 := by rw [← hob]; exact Gm.new w2 none 0 0 0 0 0
  have SC0 : Hid (∀ w3, Gm w3 ob (some ⟨g, 0, none⟩) 26 c' W B 1 → Keeps (fun k => k = ob) (w2.alloc (Obj.cells #[.slice none 0 0, .int .i64 0, .int .i64 0, .int .i64 0] 24)) w3 → SC w w3 a c W B 1 ob g c' P W B) := hide (by
    intro w3 k8 kk
    have B2 := (B1.trans (hb.mono (by omega))).alloc (by omega) (Obj.cells #[.slice none 0 0, .int .i64 0, .int .i64 0, .int .i64 0] 24)
    refine ⟨((K1.below (C := w.heap.size + 1 + 1) hb (by omega)).old _).keeps kk (by omega), ((K2.below (C := w.heap.size + 1 + 1) hb (by omega)).old _).keeps kk (by omega), k8, ?_, ?_, hgo, hg1, hsz⟩
    · exact (hO.alloc _).kept kk.grown (Or.inr (by simp [Value.ownBlock]; exact hgo))
    · exact B2.trans ((kk.mono (Y := fun k => w.heap.size ≤ k) (fun k _ e => by omega)).below (by have := B2.size; omega) (fun k hk e => by omega)))
  have HOB := hide hob
  clear K1 K2 B1 CALL hO hb hob hg2 hs1
  go_upto_region 2 with (refine wpList_store_gm rfl (.tmp 8) (.tmp 15) rfl ob (by first | rfl | (rw [← HOB.out]; rfl)) rfl K8 ?_; intro w3 k8 kk)
  have C0 := SC0.out w3 k8 kk
  clear k8 kk SC0 K8
  rw [HOB.out]
  obtain ⟨p0, p1, p2, p3⟩ := C0.k3.cells
  have HIT := hide (stR_in P W B 1 p q HM.out.1 HM.out.2.1 HM.out.2.2.1 (by simpa [ownB] using hb) hq hfar hp.1)
  have hW15 := HM.out.W15
  have hB15 := HM.out.B15
  have hzq1 := hz15.out q (by omega)
  obtain ⟨dd, hdd⟩ : ∃ dd, aw 1 q = dd := ⟨_, rfl⟩
  rw [hdd] at hfar
  have hdq : dd ≤ 25 - q ∧ 25 - q ≤ dd := by rw [← hdd]; simp [aw]
  have hfar1 : dd + p ≤ 25 := by omega
  have hfar2 : 25 ≤ dd + p := by omega
  clear hfar hdd
  have q3 : ¬ (25 : Int) ≤ (p : Int) := by omega
  have q6 : (25 : Int) - (p : Int) = (dd : Int) := by omega
  have q7 : (25 : Int) - (dd : Int) = (q : Int) := by omega
  go_wp2_with (refine wpList_load_gm rfl (.tmp 3) rfl w.heap.size rfl C0.k3 ?_)
  refine (menAt_any a c P W B 1 q (by omega) (by omega) w3 (HRD.out.mono C0.b) (hz15.out q (by omega))).mono ?_
  rintro e w5 ⟨rfl, hb4⟩
  have C2 := C0.below hb4
  clear hb4 p0 p1 p2 p3
  obtain ⟨p0, p1, p2, p3⟩ := C2.k3.cells
  generalize hzq : ma P 1 q = mq at *
  by_cases hm1 : mq < -1
  · have HV : Hid (stR P W B 1 0 p = none) := hide (by rw [HIT.out, if_pos hm1])
    have hm1d : decide (mq < -1) = true := by simpa using hm1
    clear HIT
    go_wp2_with (first
      | refine wpList_load_gm rfl (.tmp 8) rfl ob rfl C2.k8 ?_
      | (refine wpList_store_gm rfl (.tmp 6) (.tmp 110) rfl (w.heap.size + 1) rfl rfl C2.k6 ?_; intro w6 k6 kk6))
    exact bodyPost_ret (results_gb rfl _ _ (w.heap.size + 1) rfl k6) rfl ⟨g, c', P, W, B, false, rfl, (C2.out kk6).1, HV.out, C2.n2, (C2.out kk6).2⟩
  have hm1d : decide (mq < -1) = false := by simpa using hm1
  have HZQ := hide hzq
  clear hzq
  go_wp2_with (refine wpList_load_gm rfl (.tmp 3) rfl w.heap.size rfl C2.k3 ?_)
  refine (menAt_any a c P W B 1 q (by omega) (by omega) w5 (HRD.out.mono C2.b) (hz15.out q (by omega))).mono ?_
  rintro e w6 ⟨rfl, hb4⟩
  have C3 := C2.below hb4
  clear hb4 p0 p1 p2 p3
  obtain ⟨p0, p1, p2, p3⟩ := C3.k3.cells
  rw [HZQ.out]
  have HQL : Hid (P.length = 26) := hide HM.out.1
  by_cases hm2 : mq = -1
  · subst hm2
    have e1 := C3.cell q (by omega)
    have f1 := C3.frozen q
    obtain ⟨g0, g1, g2, g3⟩ := C3.k8.cells
    generalize hgq : P.getD q 0 = zq at *
    clear hgq
    go_upto_region 29 with fail
    have C4 := C3.setP q 0
    generalize w6.setCell ⟨g, q, none⟩ (.int .i64 0) = w7 at *
    clear e1 f1 g0 g1 g2 g3 p0 p1 p2 p3 C3
    obtain ⟨p0, p1, p2, p3⟩ := C4.k3.cells
    obtain ⟨g0, g1, g2, g3⟩ := C4.k8.cells
    have f2 := C4.k8.frozen 1
    go_upto_region 32 with fail
    have C5 := C4.setW (W + 1)
    generalize w7.setCell ⟨ob, 1, none⟩ (.int .i64 (W + 1)) = w8 at *
    clear f2 g0 g1 g2 g3 p0 p1 p2 p3 C4
    obtain ⟨p0, p1, p2, p3⟩ := C5.k3.cells
    have e1 := C5.cell q (by omega)
    have f1 := C5.frozen q
    obtain ⟨g0, g1, g2, g3⟩ := C5.k8.cells
    rw [getD_set_self _ _ _ (by rw [HQL.out]; omega)] at e1
    go_upto_region 33 with fail
    have D1 := C5.setP q (-1)
    generalize w8.setCell ⟨g, q, none⟩ (.int .i64 (-1)) = w10 at *
    clear e1 f1 g0 g1 g2 g3 p0 p1 p2 p3
    obtain ⟨p0, p1, p2, p3⟩ := D1.k3.cells
    obtain ⟨g0, g1, g2, g3⟩ := D1.k8.cells
    rw [List.set_set] at D1
    have f2 := D1.k8.frozen 2
    go_upto_region 38 with fail
    have D2 := D1.setB (B - 1)
    generalize w10.setCell ⟨ob, 2, none⟩ (.int .i64 (B - 1)) = w11 at *
    clear f2 D1
    have HV : Hid (stR P W B 1 0 p = some ((P.set q (-1)), (W + 1), (B - 1))) := hide (by
      rw [HIT.out, if_neg (by omega)]
      simp only [hitP, barO, HZQ.out, ownB, othB, sg]
      simp (config := { decide := true }) [Int.sub_eq_add_neg])
    go_wp2_with (first
      | refine wpList_load_gm rfl (.tmp 8) rfl ob rfl D2.k8 ?_
      | (refine wpList_store_gm rfl (.tmp 6) (.tmp 159) rfl (w.heap.size + 1) rfl rfl D2.k6 ?_; intro w6 k6 kk6))
    exact bodyPost_ret (results_gb rfl _ _ (w.heap.size + 1) rfl k6) rfl ⟨g, c', (P.set q (-1)), (W + 1), (B - 1), true, rfl, (D2.out kk6).1, HV.out, D2.n2, (D2.out kk6).2⟩
  · have hm2d : (mq == -1) = false := by simpa using hm2
    have e1 := C3.cell q (by omega)
    have f1 := C3.frozen q
    obtain ⟨g0, g1, g2, g3⟩ := C3.k8.cells
    generalize hgq : P.getD q 0 = zq at *
    have HGQ := hide hgq
    clear hgq
    go_upto_region 33 with fail
    have D1 := C3.setP q (zq + -1)
    generalize w6.setCell ⟨g, q, none⟩ (.int .i64 (zq + -1)) = w10 at *
    clear e1 f1 g0 g1 g2 g3 p0 p1 p2 p3
    obtain ⟨p0, p1, p2, p3⟩ := D1.k3.cells
    obtain ⟨g0, g1, g2, g3⟩ := D1.k8.cells
    have f2 := D1.k8.frozen 2
    go_upto_region 38 with fail
    have D2 := D1.setB (B - 1)
    generalize w10.setCell ⟨ob, 2, none⟩ (.int .i64 (B - 1)) = w11 at *
    clear f2 D1
    have HV : Hid (stR P W B 1 0 p = some ((P.set q (zq + -1)), W, (B - 1))) := hide (by
      rw [HIT.out, if_neg (by omega)]
      simp only [hitP, barO, HZQ.out, ownB, othB, sg, HGQ.out, if_neg hm2]
      simp (config := { decide := true }) [Int.sub_eq_add_neg])
    go_wp2_with (first
      | refine wpList_load_gm rfl (.tmp 8) rfl ob rfl D2.k8 ?_
      | (refine wpList_store_gm rfl (.tmp 6) (.tmp 159) rfl (w.heap.size + 1) rfl rfl D2.k6 ?_; intro w6 k6 kk6))
    exact bodyPost_ret (results_gb rfl _ _ (w.heap.size + 1) rfl k6) rfl ⟨g, c', (P.set q (zq + -1)), W, (B - 1), true, rfl, (D2.out kk6).1, HV.out, D2.n2, (D2.out kk6).2⟩

/-- All of it. -/
theorem StepOf_any (a : Option Addr) (c : Nat) (P : List Int) (W B : Int) (t f p : Nat) (ht : t ≤ 1) (hf : f ≤ 24) (hp : 1 ≤ p ∧ p ≤ 6) (w : World) (h : Rd w a 26 c P) (hmay : mayP P W B t) :
    Calls Try.prog 13 #[.agg (gmA a 26 c W B t), .int .i64 f, .int .i64 p] w (StO P W B t f p w) := by
  rcases (show t = 0 ∨ t = 1 by omega) with rfl | rfl
  · have h0 := hmay.W15
    by_cases hb : 0 < W
    · by_cases hf0 : f = 0
      · subst hf0
        exact StepOf_enter0 a c P W B p w h hmay hp hb (aw 0 (25 - p)) (aw_lt 0 (25 - p) (by omega)) (by rw [aw_aw 0 (25 - p) (by omega)]; omega)
      · exact StepOf_bar0 a c P W B f p w h hmay hb (by omega)
    · have hb0 : Hid (W = 0) := hide (by omega)
      by_cases hf0 : f = 0
      · subst hf0
        exact StepOf_nobar0 a c P W B p w h hmay hb0
      · by_cases hm : ma P 0 f < 1
        · exact StepOf_noman0 a c P W B f p w h hmay hb0 (by omega) hm
        · have hal := aw_lt 0 f (by omega)
          by_cases hfar : aw 0 f ≤ p
          · exact StepOf_off0 a c P W B f p w h hmay hp hb0 (by omega) (by omega) hfar
          · exact StepOf_move0 a c P W B f p w h hmay hp hb0 (by omega) (by omega) (aw 0 (aw 0 f - p)) (aw_lt 0 (aw 0 f - p) (by omega)) (by rw [aw_aw 0 (aw 0 f - p) (by omega)]; omega)
  · have h0 := hmay.B15
    by_cases hb : 0 < B
    · by_cases hf0 : f = 0
      · subst hf0
        exact StepOf_enter1 a c P W B p w h hmay hp hb (aw 1 (25 - p)) (aw_lt 1 (25 - p) (by omega)) (by rw [aw_aw 1 (25 - p) (by omega)]; omega)
      · exact StepOf_bar1 a c P W B f p w h hmay hb (by omega)
    · have hb0 : Hid (B = 0) := hide (by omega)
      by_cases hf0 : f = 0
      · subst hf0
        exact StepOf_nobar1 a c P W B p w h hmay hb0
      · by_cases hm : ma P 1 f < 1
        · exact StepOf_noman1 a c P W B f p w h hmay hb0 (by omega) hm
        · have hal := aw_lt 1 f (by omega)
          by_cases hfar : aw 1 f ≤ p
          · exact StepOf_off1 a c P W B f p w h hmay hp hb0 (by omega) (by omega) hfar
          · exact StepOf_move1 a c P W B f p w h hmay hp hb0 (by omega) (by omega) (aw 1 (aw 1 f - p)) (aw_lt 1 (aw 1 f - p) (by omega)) (by rw [aw_aw 1 (aw 1 f - p) (by omega)]; omega)

end Go.Proofs.Ytmboikpcbkiepaa
