/-
  What the document's StepOf answers where a man may move. No conditions beyond those that each theorem bears.
-/
import Derived.Test.YtmboikpcbkiepaaStOf
namespace Go.Proofs.Ytmboikpcbkiepaa
open Go.RowKit

set_option maxRecDepth 100000 in
set_option maxHeartbeats 4000000 in
theorem StepOf_off0 (a : Option Addr) (c : Nat) (P : List Int) (W B : Int) (f : Nat) (p : Nat) (w : World) (h : Rd w a 26 c P) (hmay : mayP P W B 0) (hp : 1 ≤ p ∧ p ≤ 6) (hb : Hid (W = 0)) (hf : 1 ≤ f ∧ f ≤ 24) (hm : 1 ≤ ma P 0 f) (hfar : aw 0 f ≤ p) :
    Calls Try.prog 13 #[.agg (gmA a 26 c W B 0), .int .i64 f, .int .i64 p] w (StO P W B 0 f p w) := by
  have HM := hide hmay
  have HRD := hide h
  have hz15 : Hid (∀ q, q ≤ 25 → -15 ≤ P.getD q 0 ∧ P.getD q 0 ≤ 15) := hide (fun q hq => ⟨hmay.low _ (getD_mem (by rw [hmay.1]; omega)), hmay.high _ (getD_mem (by rw [hmay.1]; omega))⟩)
  clear h hmay
  go_enter Try.func13, Try.ntmps13
  go_upto_region 1 with fail
  obtain ⟨w1, hw1⟩ : ∃ w1, (w.alloc (Obj.cells (gmA a 26 c W B 0) 24)).alloc (Obj.cells #[.slice none 0 0, .int .i64 0, .int .i64 0, .int .i64 0] 24) = w1 := ⟨_, rfl⟩
  rw [hw1]
  have K1 : Gm w1 w.heap.size a 26 c W B 0 := by rw [← hw1]; exact (Gm.new w _ _ _ _ _ _).old _
  have K2 : Gm w1 (w.heap.size + 1) none 0 0 0 0 0 := by
    rw [← hw1]
    have := Gm.new (w.alloc (Obj.cells (gmA a 26 c W B 0) 24)) none 0 0 0 0 0
    rw [World.size_alloc] at this
    exact this
  have hs1 : w1.heap.size = w.heap.size + 1 + 1 := by rw [← hw1]; simp
  have B1 : Below w.heap.size w w1 := by rw [← hw1]; exact ((Below.refl _ w).alloc (Nat.le_refl _) _).alloc (by simp) _
  clear hw1
  have CALL := hide (GammonOf_own a 26 c P W B 0 w1 (HRD.out.mono B1) (by omega))
  rw [hs1] at CALL
  go_wp2_with (refine wpList_load_gm rfl (.tmp 3) rfl w.heap.size rfl K1 ?_)
  refine CALL.out.mono ?_
  rintro e w2 ⟨a', c', rfl, hO, hb⟩
  obtain ⟨g, ha', hg2⟩ : ∃ g, a' = some ⟨g, 0, none⟩ ∧ w.heap.size + 1 + 1 ≤ g ∧ g < w2.heap.size := by
    rcases hO.2 with ⟨hv, h0⟩ | ⟨g, cap, cur, hv, hbg, hg, -⟩
    · omega
    · simp only [Value.slice.injEq] at hv
      exact ⟨g, hv.1, hbg, (Array.getElem?_eq_some_iff.1 hg).1⟩
  subst ha'
  obtain ⟨ob, hob⟩ : ∃ ob, w2.heap.size = ob := ⟨_, rfl⟩
  have hsz : w.heap.size + 1 + 1 ≤ ob := by have := hb.size; omega
  have hgo : g ≠ ob := by omega
  have hg1 : w.heap.size + 1 + 1 ≤ g := hg2.1
  have K8 : Gm (w2.alloc (Obj.cells #[.slice none 0 0, .int .i64 0, .int .i64 0, .int .i64 0] 24)) ob none 0 0 0 0 0 := by rw [← hob]; exact Gm.new w2 none 0 0 0 0 0
  have SC0 : Hid (∀ w3, Gm w3 ob (some ⟨g, 0, none⟩) 26 c' W B 0 → Keeps (fun k => k = ob) (w2.alloc (Obj.cells #[.slice none 0 0, .int .i64 0, .int .i64 0, .int .i64 0] 24)) w3 → SC w w3 a c W B 0 ob g c' P W B) := hide (by
    intro w3 k8 kk
    have B2 := (B1.trans (hb.mono (by omega))).alloc (by omega) (Obj.cells #[.slice none 0 0, .int .i64 0, .int .i64 0, .int .i64 0] 24)
    refine ⟨((K1.below (C := w.heap.size + 1 + 1) hb (by omega)).old _).keeps kk (by omega), ((K2.below (C := w.heap.size + 1 + 1) hb (by omega)).old _).keeps kk (by omega), k8, ?_, ?_, hgo, hg1, hsz⟩
    · exact (hO.alloc _).kept kk.grown (Or.inr (by simp [Value.ownBlock]; exact hgo))
    · exact B2.trans ((kk.mono (Y := fun k => w.heap.size ≤ k) (fun k _ e => by omega)).below (by have := B2.size; omega) (fun k hk e => by omega)))
  have HOB := hide hob
  clear K1 K2 B1 CALL hO hb hob hg2 hs1
  go_upto_region 2 with (refine wpList_store_gm rfl (.tmp 8) (.tmp 15) rfl ob (by first | rfl | (rw [← HOB.out]; rfl)) rfl K8 ?_; intro w3 k8 kk)
  have C0 := SC0.out w3 k8 kk
  clear k8 kk SC0 K8
  rw [HOB.out]
  obtain ⟨p0, p1, p2, p3⟩ := C0.k3.cells
  have OFF := hide (stR_off P W B 0 f p HM.out.1 HM.out.2.1 HM.out.2.2.1 (by simpa [ownB] using hb.out) hf hm hfar hp.2)
  have q1 : (W == 0) = true := by simpa using hb.out
  have q2 : decide (0 < W) = false := by have := hb.out; simp; omega
  have q3 : ((f : Int) == 0) = false := by simp; omega
  have HW := hide (homeward_any f 0 (by omega) (by omega))
  go_wp2_with (refine wpList_load_gm rfl (.tmp 3) rfl w.heap.size rfl C0.k3 ?_)
  refine (menAt_any a c P W B 0 f (by omega) (by omega) w3 (HRD.out.mono C0.b) (hz15.out f (by omega))).mono ?_
  rintro e w4 ⟨rfl, hb4⟩
  have C1 := C0.below hb4
  clear hb4 p0 p1 p2 p3
  obtain ⟨p0, p1, p2, p3⟩ := C1.k3.cells
  generalize ma P 0 f = mf at *
  have q4 : decide (mf < 1) = false := by simp; omega
  go_wp2_with fail
  refine (HW.out _).mono ?_
  rintro e w9 ⟨rfl, hw⟩
  subst w9
  generalize aw 0 f = far at *
  have q5 : (far : Int) ≤ (p : Int) := by omega
  clear HW
  go_wp2_with fail
  clear p0 p1 p2 p3
  have C1 := hide C1
  clear C0
  go_loopw [12] (fun v wr => ∃ (k : Nat), v = .int .i64 k ∧ 1 ≤ k ∧ k ≤ 25 ∧ Hid (SC w wr a c W B 0 ob g c' P W B) ∧ Hid (∀ q, 1 ≤ q → q < k → badB P 0 far p q = false)) (fun v _ => 25 - (intOf v).toNat)
  case atStart => exact ⟨1, rfl, by omega, by omega, C1, fun q h1 h2 => by omega⟩
  case round =>
    obtain ⟨k, rfl, hk1, hk, hC, hno⟩ := hrel
    have C2 := hC.out
    clear C1
    obtain ⟨p0, p1, p2, p3⟩ := C2.k3.cells
    by_cases hk25 : k < 25
    · have hlt : (k : Int) < 25 := by omega
      have HW := hide (homeward_any k 0 (by omega) (by omega))
      have BD : Hid (badB P 0 far p k = decide (0 < ma P 0 k ∧ (6 < aw 0 k ∨ (far < p ∧ far < aw 0 k)))) := hide rfl
      have NX : Hid (badB P 0 far p k = false → ∀ q, 1 ≤ q → q < k + 1 → badB P 0 far p q = false) := hide (fun hb q h1 h2 => by
        by_cases e : q = k
        · subst e; exact hb
        · exact hno.out q h1 (by omega))
      have YS : Hid (badB P 0 far p k = true → stR P W B 0 f p = none) := hide (fun hb => OFF.out.1 ⟨k, by omega, hb⟩)
      clear hno hC
      have hal := aw_lt 0 k (by omega)
      go_wp2_with (refine wpList_load_gm rfl (.tmp 3) rfl w.heap.size rfl C2.k3 ?_)
      refine (menAt_any a c P W B 0 k (by omega) (by omega) wr (HRD.out.mono C2.b) (hz15.out k (by omega))).mono ?_
      rintro e w5 ⟨rfl, hb4⟩
      have C3 := C2.below hb4
      clear hb4 p0 p1 p2 p3
      obtain ⟨p0, p1, p2, p3⟩ := C3.k3.cells
      generalize ma P 0 k = z at *
      generalize aw 0 k = d at *
      by_cases hz : 0 < z
      rotate_left
      · have hzd : decide (0 < z) = false := by simpa using hz
        have NB : badB P 0 far p k = false := by rw [BD.out]; simp; omega
        have NX' := hide (NX.out NB)
        clear NB NX YS BD
        go_wp2
        exact ⟨⟨k + 1, by go_num, by omega, by omega, C3, NX'.out⟩, by simp [intOf]; omega⟩
      have hzd : decide (0 < z) = true := by simpa using hz
      by_cases h6 : 6 < d
      · have h6d : (6 : Int) < (d : Int) := by omega
        have NB : badB P 0 far p k = true := by rw [BD.out]; simp; omega
        have HV := hide (YS.out NB)
        clear NB NX YS BD
        go_wp2_with fail
        refine (HW.out _).mono ?_
        rintro e w9 ⟨rfl, hw⟩
        subst w9
        go_wp2_with (first
          | refine wpList_load_gm rfl (.tmp 8) rfl ob rfl C3.k8 ?_
          | (refine wpList_store_gm rfl (.tmp 6) (.tmp 85) rfl (w.heap.size + 1) rfl rfl C3.k6 ?_; intro w6 k6 kk6))
        exact bodyPost_ret (results_gb rfl _ _ (w.heap.size + 1) rfl k6) rfl ⟨g, c', P, W, B, false, rfl, (C3.out kk6).1, HV.out, C3.n2, (C3.out kk6).2⟩
      have h6d : ¬ (6 : Int) < (d : Int) := by omega
      by_cases hfp : far < p
      rotate_left
      · have hfpd : ¬ (far : Int) < (p : Int) := by omega
        have NB : badB P 0 far p k = false := by rw [BD.out]; simp; omega
        have NX' := hide (NX.out NB)
        clear NB NX YS BD
        go_wp2_with fail
        refine (HW.out _).mono ?_
        rintro e w9 ⟨rfl, hw⟩
        subst w9
        go_wp2
        exact ⟨⟨k + 1, by go_num, by omega, by omega, C3, NX'.out⟩, by simp [intOf]; omega⟩
      have hfpd : (far : Int) < (p : Int) := by omega
      by_cases hfd : far < d
      · have hfdd : (far : Int) < (d : Int) := by omega
        have NB : badB P 0 far p k = true := by rw [BD.out]; simp; omega
        have HV := hide (YS.out NB)
        clear NB NX YS BD
        go_wp2_with fail
        refine (HW.out _).mono ?_
        rintro e w9 ⟨rfl, hw⟩
        subst w9
        go_wp2_with fail
        refine (HW.out _).mono ?_
        rintro e w9 ⟨rfl, hw⟩
        subst w9
        go_wp2_with (first
          | refine wpList_load_gm rfl (.tmp 8) rfl ob rfl C3.k8 ?_
          | (refine wpList_store_gm rfl (.tmp 6) (.tmp 85) rfl (w.heap.size + 1) rfl rfl C3.k6 ?_; intro w6 k6 kk6))
        exact bodyPost_ret (results_gb rfl _ _ (w.heap.size + 1) rfl k6) rfl ⟨g, c', P, W, B, false, rfl, (C3.out kk6).1, HV.out, C3.n2, (C3.out kk6).2⟩
      · have hfdd : ¬ (far : Int) < (d : Int) := by omega
        have NB : badB P 0 far p k = false := by rw [BD.out]; simp; omega
        have NX' := hide (NX.out NB)
        clear NB NX YS BD
        go_wp2_with fail
        refine (HW.out _).mono ?_
        rintro e w9 ⟨rfl, hw⟩
        subst w9
        go_wp2_with fail
        refine (HW.out _).mono ?_
        rintro e w9 ⟨rfl, hw⟩
        subst w9
        go_wp2
        exact ⟨⟨k + 1, by go_num, by omega, by omega, C3, NX'.out⟩, by simp [intOf]; omega⟩
    · obtain rfl : k = 25 := by omega
      have HV := hide (OFF.out.2 (by
        rintro ⟨q, h1, h2⟩
        rw [hno.out q h1.1 (by omega)] at h2
        cases h2))
      clear hno hC OFF
      have hzf := hz15.out f (by omega)
      have e1 := C2.cell f (by omega)
      have f1 := C2.frozen f
      obtain ⟨g0, -, -, -⟩ := C2.k8.cells
      rw [show sg 0 1 = 1 from rfl] at HV
      generalize P.getD f 0 = z at *
      go_upto_region 21 with fail
      have C3 := C2.setP f (z - 1)
      generalize wr.setCell ⟨g, f, none⟩ (.int .i64 (z - 1)) = w5 at *
      clear C2 e1 f1 g0 p0 p1 p2 p3
      go_wp2_with (first
        | refine wpList_load_gm rfl (.tmp 8) rfl ob rfl C3.k8 ?_
        | (refine wpList_store_gm rfl (.tmp 6) (.tmp 97) rfl (w.heap.size + 1) rfl rfl C3.k6 ?_; intro w6 k6 kk6))
      exact bodyPost_ret (results_gb rfl _ _ (w.heap.size + 1) rfl k6) rfl ⟨g, c', (P.set f (z - 1)), W, B, true, rfl, (C3.out kk6).1, HV.out, C3.n2, (C3.out kk6).2⟩

set_option maxRecDepth 100000 in
set_option maxHeartbeats 4000000 in
theorem StepOf_off1 (a : Option Addr) (c : Nat) (P : List Int) (W B : Int) (f : Nat) (p : Nat) (w : World) (h : Rd w a 26 c P) (hmay : mayP P W B 1) (hp : 1 ≤ p ∧ p ≤ 6) (hb : Hid (B = 0)) (hf : 1 ≤ f ∧ f ≤ 24) (hm : 1 ≤ ma P 1 f) (hfar : aw 1 f ≤ p) :
    Calls Try.prog 13 #[.agg (gmA a 26 c W B 1), .int .i64 f, .int .i64 p] w (StO P W B 1 f p w) := by
  have HM := hide hmay
  have HRD := hide h
  have hz15 : Hid (∀ q, q ≤ 25 → -15 ≤ P.getD q 0 ∧ P.getD q 0 ≤ 15) := hide (fun q hq => ⟨hmay.low _ (getD_mem (by rw [hmay.1]; omega)), hmay.high _ (getD_mem (by rw [hmay.1]; omega))⟩)
  clear h hmay
  go_enter Try.func13, Try.ntmps13
  go_upto_region 1 with fail
  obtain ⟨w1, hw1⟩ : ∃ w1, (w.alloc (Obj.cells (gmA a 26 c W B 1) 24)).alloc (Obj.cells #[.slice none 0 0, .int .i64 0, .int .i64 0, .int .i64 0] 24) = w1 := ⟨_, rfl⟩
  rw [hw1]
  have K1 : Gm w1 w.heap.size a 26 c W B 1 := by rw [← hw1]; exact (Gm.new w _ _ _ _ _ _).old _
  have K2 : Gm w1 (w.heap.size + 1) none 0 0 0 0 0 := by
    rw [← hw1]
    have := Gm.new (w.alloc (Obj.cells (gmA a 26 c W B 1) 24)) none 0 0 0 0 0
    rw [World.size_alloc] at this
    exact this
  have hs1 : w1.heap.size = w.heap.size + 1 + 1 := by rw [← hw1]; simp
  have B1 : Below w.heap.size w w1 := by rw [← hw1]; exact ((Below.refl _ w).alloc (Nat.le_refl _) _).alloc (by simp) _
  clear hw1
  have CALL := hide (GammonOf_own a 26 c P W B 1 w1 (HRD.out.mono B1) (by omega))
  rw [hs1] at CALL
  go_wp2_with (refine wpList_load_gm rfl (.tmp 3) rfl w.heap.size rfl K1 ?_)
  refine CALL.out.mono ?_
  rintro e w2 ⟨a', c', rfl, hO, hb⟩
  obtain ⟨g, ha', hg2⟩ : ∃ g, a' = some ⟨g, 0, none⟩ ∧ w.heap.size + 1 + 1 ≤ g ∧ g < w2.heap.size := by
    rcases hO.2 with ⟨hv, h0⟩ | ⟨g, cap, cur, hv, hbg, hg, -⟩
    · omega
    · simp only [Value.slice.injEq] at hv
      exact ⟨g, hv.1, hbg, (Array.getElem?_eq_some_iff.1 hg).1⟩
  subst ha'
  obtain ⟨ob, hob⟩ : ∃ ob, w2.heap.size = ob := ⟨_, rfl⟩
  have hsz : w.heap.size + 1 + 1 ≤ ob := by have := hb.size; omega
  have hgo : g ≠ ob := by omega
  have hg1 : w.heap.size + 1 + 1 ≤ g := hg2.1
  have K8 : Gm (w2.alloc (Obj.cells #[.slice none 0 0, .int .i64 0, .int .i64 0, .int .i64 0] 24)) ob none 0 0 0 0 0 := by rw [← hob]; exact Gm.new w2 none 0 0 0 0 0
  have SC0 : Hid (∀ w3, Gm w3 ob (some ⟨g, 0, none⟩) 26 c' W B 1 → Keeps (fun k => k = ob) (w2.alloc (Obj.cells #[.slice none 0 0, .int .i64 0, .int .i64 0, .int .i64 0] 24)) w3 → SC w w3 a c W B 1 ob g c' P W B) := hide (by
    intro w3 k8 kk
    have B2 := (B1.trans (hb.mono (by omega))).alloc (by omega) (Obj.cells #[.slice none 0 0, .int .i64 0, .int .i64 0, .int .i64 0] 24)
    refine ⟨((K1.below (C := w.heap.size + 1 + 1) hb (by omega)).old _).keeps kk (by omega), ((K2.below (C := w.heap.size + 1 + 1) hb (by omega)).old _).keeps kk (by omega), k8, ?_, ?_, hgo, hg1, hsz⟩
    · exact (hO.alloc _).kept kk.grown (Or.inr (by simp [Value.ownBlock]; exact hgo))
    · exact B2.trans ((kk.mono (Y := fun k => w.heap.size ≤ k) (fun k _ e => by omega)).below (by have := B2.size; omega) (fun k hk e => by omega)))
  have HOB := hide hob
  clear K1 K2 B1 CALL hO hb hob hg2 hs1
  go_upto_region 2 with (refine wpList_store_gm rfl (.tmp 8) (.tmp 15) rfl ob (by first | rfl | (rw [← HOB.out]; rfl)) rfl K8 ?_; intro w3 k8 kk)
  have C0 := SC0.out w3 k8 kk
  clear k8 kk SC0 K8
  rw [HOB.out]
  obtain ⟨p0, p1, p2, p3⟩ := C0.k3.cells
  have OFF := hide (stR_off P W B 1 f p HM.out.1 HM.out.2.1 HM.out.2.2.1 (by simpa [ownB] using hb.out) hf hm hfar hp.2)
  have q1 : (B == 0) = true := by simpa using hb.out
  have q2 : decide (0 < B) = false := by have := hb.out; simp; omega
  have q3 : ((f : Int) == 0) = false := by simp; omega
  have HW := hide (homeward_any f 1 (by omega) (by omega))
  go_wp2_with (refine wpList_load_gm rfl (.tmp 3) rfl w.heap.size rfl C0.k3 ?_)
  refine (menAt_any a c P W B 1 f (by omega) (by omega) w3 (HRD.out.mono C0.b) (hz15.out f (by omega))).mono ?_
  rintro e w4 ⟨rfl, hb4⟩
  have C1 := C0.below hb4
  clear hb4 p0 p1 p2 p3
  obtain ⟨p0, p1, p2, p3⟩ := C1.k3.cells
  generalize ma P 1 f = mf at *
  have q4 : decide (mf < 1) = false := by simp; omega
  go_wp2_with fail
  refine (HW.out _).mono ?_
  rintro e w9 ⟨rfl, hw⟩
  subst w9
  generalize aw 1 f = far at *
  have q5 : (far : Int) ≤ (p : Int) := by omega
  clear HW
  go_wp2_with fail
  clear p0 p1 p2 p3
  have C1 := hide C1
  clear C0
  go_loopw [12] (fun v wr => ∃ (k : Nat), v = .int .i64 k ∧ 1 ≤ k ∧ k ≤ 25 ∧ Hid (SC w wr a c W B 1 ob g c' P W B) ∧ Hid (∀ q, 1 ≤ q → q < k → badB P 1 far p q = false)) (fun v _ => 25 - (intOf v).toNat)
  case atStart => exact ⟨1, rfl, by omega, by omega, C1, fun q h1 h2 => by omega⟩
  case round =>
    obtain ⟨k, rfl, hk1, hk, hC, hno⟩ := hrel
    have C2 := hC.out
    clear C1
    obtain ⟨p0, p1, p2, p3⟩ := C2.k3.cells
    by_cases hk25 : k < 25
    · have hlt : (k : Int) < 25 := by omega
      have HW := hide (homeward_any k 1 (by omega) (by omega))
      have BD : Hid (badB P 1 far p k = decide (0 < ma P 1 k ∧ (6 < aw 1 k ∨ (far < p ∧ far < aw 1 k)))) := hide rfl
      have NX : Hid (badB P 1 far p k = false → ∀ q, 1 ≤ q → q < k + 1 → badB P 1 far p q = false) := hide (fun hb q h1 h2 => by
        by_cases e : q = k
        · subst e; exact hb
        · exact hno.out q h1 (by omega))
      have YS : Hid (badB P 1 far p k = true → stR P W B 1 f p = none) := hide (fun hb => OFF.out.1 ⟨k, by omega, hb⟩)
      clear hno hC
      have hal := aw_lt 1 k (by omega)
      go_wp2_with (refine wpList_load_gm rfl (.tmp 3) rfl w.heap.size rfl C2.k3 ?_)
      refine (menAt_any a c P W B 1 k (by omega) (by omega) wr (HRD.out.mono C2.b) (hz15.out k (by omega))).mono ?_
      rintro e w5 ⟨rfl, hb4⟩
      have C3 := C2.below hb4
      clear hb4 p0 p1 p2 p3
      obtain ⟨p0, p1, p2, p3⟩ := C3.k3.cells
      generalize ma P 1 k = z at *
      generalize aw 1 k = d at *
      by_cases hz : 0 < z
      rotate_left
      · have hzd : decide (0 < z) = false := by simpa using hz
        have NB : badB P 1 far p k = false := by rw [BD.out]; simp; omega
        have NX' := hide (NX.out NB)
        clear NB NX YS BD
        go_wp2
        exact ⟨⟨k + 1, by go_num, by omega, by omega, C3, NX'.out⟩, by simp [intOf]; omega⟩
      have hzd : decide (0 < z) = true := by simpa using hz
      by_cases h6 : 6 < d
      · have h6d : (6 : Int) < (d : Int) := by omega
        have NB : badB P 1 far p k = true := by rw [BD.out]; simp; omega
        have HV := hide (YS.out NB)
        clear NB NX YS BD
        go_wp2_with fail
        refine (HW.out _).mono ?_
        rintro e w9 ⟨rfl, hw⟩
        subst w9
        go_wp2_with (first
          | refine wpList_load_gm rfl (.tmp 8) rfl ob rfl C3.k8 ?_
          | (refine wpList_store_gm rfl (.tmp 6) (.tmp 85) rfl (w.heap.size + 1) rfl rfl C3.k6 ?_; intro w6 k6 kk6))
        exact bodyPost_ret (results_gb rfl _ _ (w.heap.size + 1) rfl k6) rfl ⟨g, c', P, W, B, false, rfl, (C3.out kk6).1, HV.out, C3.n2, (C3.out kk6).2⟩
      have h6d : ¬ (6 : Int) < (d : Int) := by omega
      by_cases hfp : far < p
      rotate_left
      · have hfpd : ¬ (far : Int) < (p : Int) := by omega
        have NB : badB P 1 far p k = false := by rw [BD.out]; simp; omega
        have NX' := hide (NX.out NB)
        clear NB NX YS BD
        go_wp2_with fail
        refine (HW.out _).mono ?_
        rintro e w9 ⟨rfl, hw⟩
        subst w9
        go_wp2
        exact ⟨⟨k + 1, by go_num, by omega, by omega, C3, NX'.out⟩, by simp [intOf]; omega⟩
      have hfpd : (far : Int) < (p : Int) := by omega
      by_cases hfd : far < d
      · have hfdd : (far : Int) < (d : Int) := by omega
        have NB : badB P 1 far p k = true := by rw [BD.out]; simp; omega
        have HV := hide (YS.out NB)
        clear NB NX YS BD
        go_wp2_with fail
        refine (HW.out _).mono ?_
        rintro e w9 ⟨rfl, hw⟩
        subst w9
        go_wp2_with fail
        refine (HW.out _).mono ?_
        rintro e w9 ⟨rfl, hw⟩
        subst w9
        go_wp2_with (first
          | refine wpList_load_gm rfl (.tmp 8) rfl ob rfl C3.k8 ?_
          | (refine wpList_store_gm rfl (.tmp 6) (.tmp 85) rfl (w.heap.size + 1) rfl rfl C3.k6 ?_; intro w6 k6 kk6))
        exact bodyPost_ret (results_gb rfl _ _ (w.heap.size + 1) rfl k6) rfl ⟨g, c', P, W, B, false, rfl, (C3.out kk6).1, HV.out, C3.n2, (C3.out kk6).2⟩
      · have hfdd : ¬ (far : Int) < (d : Int) := by omega
        have NB : badB P 1 far p k = false := by rw [BD.out]; simp; omega
        have NX' := hide (NX.out NB)
        clear NB NX YS BD
        go_wp2_with fail
        refine (HW.out _).mono ?_
        rintro e w9 ⟨rfl, hw⟩
        subst w9
        go_wp2_with fail
        refine (HW.out _).mono ?_
        rintro e w9 ⟨rfl, hw⟩
        subst w9
        go_wp2
        exact ⟨⟨k + 1, by go_num, by omega, by omega, C3, NX'.out⟩, by simp [intOf]; omega⟩
    · obtain rfl : k = 25 := by omega
      have HV := hide (OFF.out.2 (by
        rintro ⟨q, h1, h2⟩
        rw [hno.out q h1.1 (by omega)] at h2
        cases h2))
      clear hno hC OFF
      have hzf := hz15.out f (by omega)
      have e1 := C2.cell f (by omega)
      have f1 := C2.frozen f
      obtain ⟨g0, -, -, -⟩ := C2.k8.cells
      rw [show sg 1 1 = (-1) from rfl] at HV
      generalize P.getD f 0 = z at *
      go_upto_region 21 with fail
      have C3 := C2.setP f (z - (-1))
      rw [show z - (-1) = z + 1 by omega] at C3 HV
      generalize wr.setCell ⟨g, f, none⟩ (.int .i64 (z + 1)) = w5 at *
      clear C2 e1 f1 g0 p0 p1 p2 p3
      go_wp2_with (first
        | refine wpList_load_gm rfl (.tmp 8) rfl ob rfl C3.k8 ?_
        | (refine wpList_store_gm rfl (.tmp 6) (.tmp 97) rfl (w.heap.size + 1) rfl rfl C3.k6 ?_; intro w6 k6 kk6))
      exact bodyPost_ret (results_gb rfl _ _ (w.heap.size + 1) rfl k6) rfl ⟨g, c', (P.set f (z + 1)), W, B, true, rfl, (C3.out kk6).1, HV.out, C3.n2, (C3.out kk6).2⟩

end Go.Proofs.Ytmboikpcbkiepaa
