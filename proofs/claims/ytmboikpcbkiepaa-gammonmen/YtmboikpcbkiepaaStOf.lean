/-
  What the document's StepOf answers. No conditions beyond those that each theorem bears.
-/
import Derived.Test.YtmboikpcbkiepaaGMay
import Derived.Test.YtmboikpcbkiepaaStM
namespace Go.Proofs.Ytmboikpcbkiepaa
open Go.RowKit

/-- What the walk of StepOf holds. -/
structure SC (w w3 : World) (a : Option Addr) (c : Nat) (W B T : Int) (ob g c' : Nat) (Q : List Int) (W' B' : Int) : Prop where
  k3 : Gm w3 w.heap.size a 26 c W B T
  k6 : Gm w3 (w.heap.size + 1) none 0 0 0 0 0
  k8 : Gm w3 ob (some ⟨g, 0, none⟩) 26 c' W' B' T
  o : w3.ownsRow (w.heap.size + 1 + 1) 3 1 (.slice (some ⟨g, 0, none⟩) 26 c') 26 (Q.map (Value.int .i64))
  b : Below w.heap.size w w3
  n1 : g ≠ ob
  n2 : w.heap.size + 1 + 1 ≤ g
  n3 : w.heap.size + 1 + 1 ≤ ob

theorem SC.below {w w3 w4 : World} {a c W B T ob g c' Q W' B'} (h : SC w w3 a c W B T ob g c' Q W' B') (hb : Below w3.heap.size w3 w4) : SC w w4 a c W B T ob g c' Q W' B' :=
  ⟨h.k3.below hb h.k3.lt, h.k6.below hb h.k6.lt, h.k8.below hb h.k8.lt, h.o.kept (row := none) ⟨hb.os, hb.tape, hb.output, hb.size, fun i hi _ => hb.block i hi⟩ (Or.inr (by simp [Value.ownBlock])), h.b.trans (hb.mono h.b.size), h.n1, h.n2, h.n3⟩

theorem SC.setP {w w3 : World} {a c W B T ob g c' Q W' B'} (h : SC w w3 a c W B T ob g c' Q W' B') (i : Nat) (x : Int) : SC w (w3.setCell ⟨g, i, none⟩ (.int .i64 x)) a c W B T ob g c' (Q.set i x) W' B' := by
  have hg : g < w3.heap.size := (h.o.lt g rfl).2
  refine ⟨h.k3.other (by have := h.n2; omega) i _, h.k6.other (by have := h.n2; omega) i _, h.k8.other (Ne.symm h.n1) i _, ?_, h.b.setCell (p := ⟨g, i, none⟩) (by show w.heap.size ≤ g; have := h.n2; omega) _, h.n1, h.n2, h.n3⟩
  have := h.o.stored i (.int .i64 x)
  rw [List.map_set]
  exact this.1

theorem SC.setW {w w3 : World} {a c W B T ob g c' Q W' B'} (h : SC w w3 a c W B T ob g c' Q W' B') (x : Int) : SC w (w3.setCell ⟨ob, 1, none⟩ (.int .i64 x)) a c W B T ob g c' Q x B' :=
  ⟨h.k3.other (by have := h.n3; omega) 1 _, h.k6.other (by have := h.n3; omega) 1 _, h.k8.setW x, h.o.kept (Keeps.set1 w3 ob 1 _).grown (Or.inr (by simp [Value.ownBlock]; exact h.n1)), h.b.setCell (p := ⟨ob, 1, none⟩) (by show w.heap.size ≤ ob; have := h.n3; omega) _, h.n1, h.n2, h.n3⟩

theorem SC.setB {w w3 : World} {a c W B T ob g c' Q W' B'} (h : SC w w3 a c W B T ob g c' Q W' B') (x : Int) : SC w (w3.setCell ⟨ob, 2, none⟩ (.int .i64 x)) a c W B T ob g c' Q W' x :=
  ⟨h.k3.other (by have := h.n3; omega) 2 _, h.k6.other (by have := h.n3; omega) 2 _, h.k8.setB x, h.o.kept (Keeps.set1 w3 ob 2 _).grown (Or.inr (by simp [Value.ownBlock]; exact h.n1)), h.b.setCell (p := ⟨ob, 2, none⟩) (by show w.heap.size ≤ ob; have := h.n3; omega) _, h.n1, h.n2, h.n3⟩

theorem SC.cell {w w3 : World} {a c W B T ob g c' Q W' B'} (h : SC w w3 a c W B T ob g c' Q W' B') (i : Nat) (hi : i < 26) : w3.cell? ⟨g, i, none⟩ = some (.int .i64 (Q.getD i 0)) := by
  have hl : Q.length = 26 := by simpa using h.o.1
  rw [h.o.cellAt i (by omega)]
  simp [List.getD, hl, hi]

theorem SC.frozen {w w3 : World} {a c W B T ob g c' Q W' B'} (h : SC w w3 a c W B T ob g c' Q W' B') (i : Nat) : w3.frozen? ⟨g, i, none⟩ = false := h.o.frozenAt i

theorem SC.out {w w3 w6 : World} {a c W B T ob g c' Q W' B'} (h : SC w w3 a c W B T ob g c' Q W' B') (kk : Keeps (fun k => k = w.heap.size + 1) w3 w6) : Rd w6 (some ⟨g, 0, none⟩) 26 c' Q ∧ Below w.heap.size w w6 :=
  ⟨Rd.of_own (own_keeps h.o kk (by omega)), h.b.trans ((kk.mono (Y := fun k => w.heap.size ≤ k) (fun k _ e => by omega)).below (by have := h.b.size; omega) (fun k hk e => by omega))⟩

/-- What StepOf answers. -/
def StO (P : List Int) (W B : Int) (t f p : Nat) (w : World) (e : Ending) (w' : World) : Prop :=
  ∃ g c' Q W' B' ok, e = .returned (.tuple #[.agg (gmA (some ⟨g, 0, none⟩) 26 c' W' B' t), .bool ok]) ∧ Rd w' (some ⟨g, 0, none⟩) 26 c' Q ∧ (stR P W B t f p = if ok = true then some (Q, W', B') else none) ∧ w.heap.size + 1 + 1 ≤ g ∧ Below w.heap.size w w'

set_option maxRecDepth 100000 in
set_option maxHeartbeats 4000000 in
theorem StepOf_bar0 (a : Option Addr) (c : Nat) (P : List Int) (W B : Int) (f : Nat) (p : Nat) (w : World) (h : Rd w a 26 c P) (hmay : mayP P W B 0) (hb : 0 < W) (hf : 1 ≤ f ∧ f ≤ 24) :
    Calls Try.prog 13 #[.agg (gmA a 26 c W B 0), .int .i64 f, .int .i64 p] w (StO P W B 0 f p w) := by
  have HM := hide hmay
  have HRD := hide h
  have hz15 : Hid (∀ q, q ≤ 25 → -15 ≤ P.getD q 0 ∧ P.getD q 0 ≤ 15) := hide (fun q hq => ⟨hmay.low _ (getD_mem (by rw [hmay.1]; omega)), hmay.high _ (getD_mem (by rw [hmay.1]; omega))⟩)
  clear h hmay
  go_enter Try.func13, Try.ntmps13
  go_upto_region 1 with fail
  obtain ⟨w1, hw1⟩ : ∃ w1, (w.alloc (Obj.cells (gmA a 26 c W B 0) 24)).alloc (Obj.cells #[.slice none 0 0, .int .i64 0, .int .i64 0, .int .i64 0] 24) = w1 := ⟨_, rfl⟩
  rw [hw1]
  have K1 : Gm w1 w.heap.size a 26 c W B 0 := by rw [← hw1]; exact (Gm.new w _ _ _ _ _ _).old _
  have K2 : Gm w1 (w.heap.size + 1) none 0 0 0 0 0 := by
    rw [← hw1]
    have := Gm.new (w.alloc (Obj.cells (gmA a 26 c W B 0) 24)) none 0 0 0 0 0
    rw [World.size_alloc] at this
    exact this
  have hs1 : w1.heap.size = w.heap.size + 1 + 1 := by rw [← hw1]; simp
  have B1 : Below w.heap.size w w1 := by rw [← hw1]; exact ((Below.refl _ w).alloc (Nat.le_refl _) _).alloc (by simp) _
  clear hw1
  have CALL := hide (GammonOf_own a 26 c P W B 0 w1 (HRD.out.mono B1) (by omega))
  rw [hs1] at CALL
  go_wp2_with (refine wpList_load_gm rfl (.tmp 3) rfl w.heap.size rfl K1 ?_)
  refine CALL.out.mono ?_
  rintro e w2 ⟨a', c', rfl, hO, hb⟩
  obtain ⟨g, ha', hg2⟩ : ∃ g, a' = some ⟨g, 0, none⟩ ∧ w.heap.size + 1 + 1 ≤ g ∧ g < w2.heap.size := by
    rcases hO.2 with ⟨hv, h0⟩ | ⟨g, cap, cur, hv, hbg, hg, -⟩
    · omega
    · simp only [Value.slice.injEq] at hv
      exact ⟨g, hv.1, hbg, (Array.getElem?_eq_some_iff.1 hg).1⟩
  subst ha'
  obtain ⟨ob, hob⟩ : ∃ ob, w2.heap.size = ob := ⟨_, rfl⟩
  have hsz : w.heap.size + 1 + 1 ≤ ob := by have := hb.size; omega
  have hgo : g ≠ ob := by omega
  have hg1 : w.heap.size + 1 + 1 ≤ g := hg2.1
  have K8 : Gm (w2.alloc (Obj.cells #[.slice none 0 0, .int .i64 0, .int .i64 0, .int .i64 0] 24)) ob none 0 0 0 0 0 := by rw [← hob]; exact Gm.new w2 none 0 0 0 0 0
  have SC0 : Hid (∀ w3, Gm w3 ob (some ⟨g, 0, none⟩) 26 c' W B 0 → Keeps (fun k => k = ob) (w2.alloc (Obj.cells #[.slice none 0 0, .int .i64 0, .int .i64 0, .int .i64 0] 24)) w3 → SC w w3 a c W B 0 ob g c' P W B) := hide (by
    intro w3 k8 kk
    have B2 := (B1.trans (hb.mono (by omega))).alloc (by omega) (Obj.cells #[.slice none 0 0, .int .i64 0, .int .i64 0, .int .i64 0] 24)
    refine ⟨((K1.below (C := w.heap.size + 1 + 1) hb (by omega)).old _).keeps kk (by omega), ((K2.below (C := w.heap.size + 1 + 1) hb (by omega)).old _).keeps kk (by omega), k8, ?_, ?_, hgo, hg1, hsz⟩
    · exact (hO.alloc _).kept kk.grown (Or.inr (by simp [Value.ownBlock]; exact hgo))
    · exact B2.trans ((kk.mono (Y := fun k => w.heap.size ≤ k) (fun k _ e => by omega)).below (by have := B2.size; omega) (fun k hk e => by omega)))
  have HOB := hide hob
  clear K1 K2 B1 CALL hO hb hob hg2 hs1
  go_upto_region 2 with (refine wpList_store_gm rfl (.tmp 8) (.tmp 15) rfl ob (by first | rfl | (rw [← HOB.out]; rfl)) rfl K8 ?_; intro w3 k8 kk)
  have C0 := SC0.out w3 k8 kk
  clear k8 kk SC0 K8
  rw [HOB.out]
  obtain ⟨p0, p1, p2, p3⟩ := C0.k3.cells
  have HV : Hid (stR P W B 0 f p = none) := hide (stR_bar P W B 0 f p (by omega) (Or.inl ⟨by simpa [ownB] using hb, by omega⟩))
  have q1 : ((f : Int) == 0) = false := by simp; omega
  have q2 : ((f : Int) != 0) = true := by simp; omega
  go_wp2_with (first
    | refine wpList_load_gm rfl (.tmp 8) rfl ob rfl C0.k8 ?_
    | (refine wpList_store_gm rfl (.tmp 6) (.tmp 47) rfl (w.heap.size + 1) rfl rfl C0.k6 ?_; intro w6 k6 kk6))
  exact bodyPost_ret (results_gb rfl _ _ (w.heap.size + 1) rfl k6) rfl ⟨g, c', P, W, B, false, rfl, (C0.out kk6).1, HV.out, C0.n2, (C0.out kk6).2⟩

set_option maxRecDepth 100000 in
set_option maxHeartbeats 4000000 in
theorem StepOf_nobar0 (a : Option Addr) (c : Nat) (P : List Int) (W B : Int) (p : Nat) (w : World) (h : Rd w a 26 c P) (hmay : mayP P W B 0) (hb : Hid (W = 0)) :
    Calls Try.prog 13 #[.agg (gmA a 26 c W B 0), .int .i64 0, .int .i64 p] w (StO P W B 0 0 p w) := by
  have HM := hide hmay
  have HRD := hide h
  have hz15 : Hid (∀ q, q ≤ 25 → -15 ≤ P.getD q 0 ∧ P.getD q 0 ≤ 15) := hide (fun q hq => ⟨hmay.low _ (getD_mem (by rw [hmay.1]; omega)), hmay.high _ (getD_mem (by rw [hmay.1]; omega))⟩)
  clear h hmay
  go_enter Try.func13, Try.ntmps13
  go_upto_region 1 with fail
  obtain ⟨w1, hw1⟩ : ∃ w1, (w.alloc (Obj.cells (gmA a 26 c W B 0) 24)).alloc (Obj.cells #[.slice none 0 0, .int .i64 0, .int .i64 0, .int .i64 0] 24) = w1 := ⟨_, rfl⟩
  rw [hw1]
  have K1 : Gm w1 w.heap.size a 26 c W B 0 := by rw [← hw1]; exact (Gm.new w _ _ _ _ _ _).old _
  have K2 : Gm w1 (w.heap.size + 1) none 0 0 0 0 0 := by
    rw [← hw1]
    have := Gm.new (w.alloc (Obj.cells (gmA a 26 c W B 0) 24)) none 0 0 0 0 0
    rw [World.size_alloc] at this
    exact this
  have hs1 : w1.heap.size = w.heap.size + 1 + 1 := by rw [← hw1]; simp
  have B1 : Below w.heap.size w w1 := by rw [← hw1]; exact ((Below.refl _ w).alloc (Nat.le_refl _) _).alloc (by simp) _
  clear hw1
  have CALL := hide (GammonOf_own a 26 c P W B 0 w1 (HRD.out.mono B1) (by omega))
  rw [hs1] at CALL
  go_wp2_with (refine wpList_load_gm rfl (.tmp 3) rfl w.heap.size rfl K1 ?_)
  refine CALL.out.mono ?_
  rintro e w2 ⟨a', c', rfl, hO, hb⟩
  obtain ⟨g, ha', hg2⟩ : ∃ g, a' = some ⟨g, 0, none⟩ ∧ w.heap.size + 1 + 1 ≤ g ∧ g < w2.heap.size := by
    rcases hO.2 with ⟨hv, h0⟩ | ⟨g, cap, cur, hv, hbg, hg, -⟩
    · omega
    · simp only [Value.slice.injEq] at hv
      exact ⟨g, hv.1, hbg, (Array.getElem?_eq_some_iff.1 hg).1⟩
  subst ha'
  obtain ⟨ob, hob⟩ : ∃ ob, w2.heap.size = ob := ⟨_, rfl⟩
  have hsz : w.heap.size + 1 + 1 ≤ ob := by have := hb.size; omega
  have hgo : g ≠ ob := by omega
  have hg1 : w.heap.size + 1 + 1 ≤ g := hg2.1
  have K8 : Gm (w2.alloc (Obj.cells #[.slice none 0 0, .int .i64 0, .int .i64 0, .int .i64 0] 24)) ob none 0 0 0 0 0 := by rw [← hob]; exact Gm.new w2 none 0 0 0 0 0
  have SC0 : Hid (∀ w3, Gm w3 ob (some ⟨g, 0, none⟩) 26 c' W B 0 → Keeps (fun k => k = ob) (w2.alloc (Obj.cells #[.slice none 0 0, .int .i64 0, .int .i64 0, .int .i64 0] 24)) w3 → SC w w3 a c W B 0 ob g c' P W B) := hide (by
    intro w3 k8 kk
    have B2 := (B1.trans (hb.mono (by omega))).alloc (by omega) (Obj.cells #[.slice none 0 0, .int .i64 0, .int .i64 0, .int .i64 0] 24)
    refine ⟨((K1.below (C := w.heap.size + 1 + 1) hb (by omega)).old _).keeps kk (by omega), ((K2.below (C := w.heap.size + 1 + 1) hb (by omega)).old _).keeps kk (by omega), k8, ?_, ?_, hgo, hg1, hsz⟩
    · exact (hO.alloc _).kept kk.grown (Or.inr (by simp [Value.ownBlock]; exact hgo))
    · exact B2.trans ((kk.mono (Y := fun k => w.heap.size ≤ k) (fun k _ e => by omega)).below (by have := B2.size; omega) (fun k hk e => by omega)))
  have HOB := hide hob
  clear K1 K2 B1 CALL hO hb hob hg2 hs1
  go_upto_region 2 with (refine wpList_store_gm rfl (.tmp 8) (.tmp 15) rfl ob (by first | rfl | (rw [← HOB.out]; rfl)) rfl K8 ?_; intro w3 k8 kk)
  have C0 := SC0.out w3 k8 kk
  clear k8 kk SC0 K8
  rw [HOB.out]
  obtain ⟨p0, p1, p2, p3⟩ := C0.k3.cells
  have HV : Hid (stR P W B 0 0 p = none) := hide (stR_bar P W B 0 0 p (by omega) (Or.inr (Or.inl ⟨by simpa [ownB] using hb.out, rfl⟩)))
  have q1 : (W == 0) = true := by simpa using hb.out
  have q2 : decide (0 < W) = false := by have := hb.out; simp; omega
  clear hb
  go_wp2_with (first
    | refine wpList_load_gm rfl (.tmp 8) rfl ob rfl C0.k8 ?_
    | (refine wpList_store_gm rfl (.tmp 6) (.tmp 47) rfl (w.heap.size + 1) rfl rfl C0.k6 ?_; intro w6 k6 kk6))
  exact bodyPost_ret (results_gb rfl _ _ (w.heap.size + 1) rfl k6) rfl ⟨g, c', P, W, B, false, rfl, (C0.out kk6).1, HV.out, C0.n2, (C0.out kk6).2⟩

set_option maxRecDepth 100000 in
set_option maxHeartbeats 4000000 in
theorem StepOf_noman0 (a : Option Addr) (c : Nat) (P : List Int) (W B : Int) (f : Nat) (p : Nat) (w : World) (h : Rd w a 26 c P) (hmay : mayP P W B 0) (hb : Hid (W = 0)) (hf : 1 ≤ f ∧ f ≤ 24) (hm : ma P 0 f < 1) :
    Calls Try.prog 13 #[.agg (gmA a 26 c W B 0), .int .i64 f, .int .i64 p] w (StO P W B 0 f p w) := by
  have HM := hide hmay
  have HRD := hide h
  have hz15 : Hid (∀ q, q ≤ 25 → -15 ≤ P.getD q 0 ∧ P.getD q 0 ≤ 15) := hide (fun q hq => ⟨hmay.low _ (getD_mem (by rw [hmay.1]; omega)), hmay.high _ (getD_mem (by rw [hmay.1]; omega))⟩)
  clear h hmay
  go_enter Try.func13, Try.ntmps13
  go_upto_region 1 with fail
  obtain ⟨w1, hw1⟩ : ∃ w1, (w.alloc (Obj.cells (gmA a 26 c W B 0) 24)).alloc (Obj.cells #[.slice none 0 0, .int .i64 0, .int .i64 0, .int .i64 0] 24) = w1 := ⟨_, rfl⟩
  rw [hw1]
  have K1 : Gm w1 w.heap.size a 26 c W B 0 := by rw [← hw1]; exact (Gm.new w _ _ _ _ _ _).old _
  have K2 : Gm w1 (w.heap.size + 1) none 0 0 0 0 0 := by
    rw [← hw1]
    have := Gm.new (w.alloc (Obj.cells (gmA a 26 c W B 0) 24)) none 0 0 0 0 0
    rw [World.size_alloc] at this
    exact this
  have hs1 : w1.heap.size = w.heap.size + 1 + 1 := by rw [← hw1]; simp
  have B1 : Below w.heap.size w w1 := by rw [← hw1]; exact ((Below.refl _ w).alloc (Nat.le_refl _) _).alloc (by simp) _
  clear hw1
  have CALL := hide (GammonOf_own a 26 c P W B 0 w1 (HRD.out.mono B1) (by omega))
  rw [hs1] at CALL
  go_wp2_with (refine wpList_load_gm rfl (.tmp 3) rfl w.heap.size rfl K1 ?_)
  refine CALL.out.mono ?_
  rintro e w2 ⟨a', c', rfl, hO, hb⟩
  obtain ⟨g, ha', hg2⟩ : ∃ g, a' = some ⟨g, 0, none⟩ ∧ w.heap.size + 1 + 1 ≤ g ∧ g < w2.heap.size := by
    rcases hO.2 with ⟨hv, h0⟩ | ⟨g, cap, cur, hv, hbg, hg, -⟩
    · omega
    · simp only [Value.slice.injEq] at hv
      exact ⟨g, hv.1, hbg, (Array.getElem?_eq_some_iff.1 hg).1⟩
  subst ha'
  obtain ⟨ob, hob⟩ : ∃ ob, w2.heap.size = ob := ⟨_, rfl⟩
  have hsz : w.heap.size + 1 + 1 ≤ ob := by have := hb.size; omega
  have hgo : g ≠ ob := by omega
  have hg1 : w.heap.size + 1 + 1 ≤ g := hg2.1
  have K8 : Gm (w2.alloc (Obj.cells #[.slice none 0 0, .int .i64 0, .int .i64 0, .int .i64 0] 24)) ob none 0 0 0 0 0 := by rw [← hob]; exact Gm.new w2 none 0 0 0 0 0
  have SC0 : Hid (∀ w3, Gm w3 ob (some ⟨g, 0, none⟩) 26 c' W B 0 → Keeps (fun k => k = ob) (w2.alloc (Obj.cells #[.slice none 0 0, .int .i64 0, .int .i64 0, .int .i64 0] 24)) w3 → SC w w3 a c W B 0 ob g c' P W B) := hide (by
    intro w3 k8 kk
    have B2 := (B1.trans (hb.mono (by omega))).alloc (by omega) (Obj.cells #[.slice none 0 0, .int .i64 0, .int .i64 0, .int .i64 0] 24)
    refine ⟨((K1.below (C := w.heap.size + 1 + 1) hb (by omega)).old _).keeps kk (by omega), ((K2.below (C := w.heap.size + 1 + 1) hb (by omega)).old _).keeps kk (by omega), k8, ?_, ?_, hgo, hg1, hsz⟩
    · exact (hO.alloc _).kept kk.grown (Or.inr (by simp [Value.ownBlock]; exact hgo))
    · exact B2.trans ((kk.mono (Y := fun k => w.heap.size ≤ k) (fun k _ e => by omega)).below (by have := B2.size; omega) (fun k hk e => by omega)))
  have HOB := hide hob
  clear K1 K2 B1 CALL hO hb hob hg2 hs1
  go_upto_region 2 with (refine wpList_store_gm rfl (.tmp 8) (.tmp 15) rfl ob (by first | rfl | (rw [← HOB.out]; rfl)) rfl K8 ?_; intro w3 k8 kk)
  have C0 := SC0.out w3 k8 kk
  clear k8 kk SC0 K8
  rw [HOB.out]
  obtain ⟨p0, p1, p2, p3⟩ := C0.k3.cells
  have HV : Hid (stR P W B 0 f p = none) := hide (stR_bar P W B 0 f p (by omega) (Or.inr (Or.inr ⟨by omega, hm⟩)))
  have q1 : (W == 0) = true := by simpa using hb.out
  have q2 : decide (0 < W) = false := by have := hb.out; simp; omega
  have q3 : ((f : Int) == 0) = false := by simp; omega
  clear hb
  go_wp2_with (refine wpList_load_gm rfl (.tmp 3) rfl w.heap.size rfl C0.k3 ?_)
  refine (menAt_any a c P W B 0 f (by omega) (by omega) w3 (HRD.out.mono C0.b) (hz15.out f (by omega))).mono ?_
  rintro e w4 ⟨rfl, hb4⟩
  have C1 := C0.below hb4
  clear hb4 p0 p1 p2 p3
  obtain ⟨p0, p1, p2, p3⟩ := C1.k3.cells
  generalize ma P 0 f = z at *
  go_wp2_with (first
    | refine wpList_load_gm rfl (.tmp 8) rfl ob rfl C1.k8 ?_
    | (refine wpList_store_gm rfl (.tmp 6) (.tmp 47) rfl (w.heap.size + 1) rfl rfl C1.k6 ?_; intro w6 k6 kk6))
  exact bodyPost_ret (results_gb rfl _ _ (w.heap.size + 1) rfl k6) rfl ⟨g, c', P, W, B, false, rfl, (C1.out kk6).1, HV.out, C1.n2, (C1.out kk6).2⟩

set_option maxRecDepth 100000 in
set_option maxHeartbeats 4000000 in
theorem StepOf_bar1 (a : Option Addr) (c : Nat) (P : List Int) (W B : Int) (f : Nat) (p : Nat) (w : World) (h : Rd w a 26 c P) (hmay : mayP P W B 1) (hb : 0 < B) (hf : 1 ≤ f ∧ f ≤ 24) :
    Calls Try.prog 13 #[.agg (gmA a 26 c W B 1), .int .i64 f, .int .i64 p] w (StO P W B 1 f p w) := by
  have HM := hide hmay
  have HRD := hide h
  have hz15 : Hid (∀ q, q ≤ 25 → -15 ≤ P.getD q 0 ∧ P.getD q 0 ≤ 15) := hide (fun q hq => ⟨hmay.low _ (getD_mem (by rw [hmay.1]; omega)), hmay.high _ (getD_mem (by rw [hmay.1]; omega))⟩)
  clear h hmay
  go_enter Try.func13, Try.ntmps13
  go_upto_region 1 with fail
  obtain ⟨w1, hw1⟩ : ∃ w1, (w.alloc (Obj.cells (gmA a 26 c W B 1) 24)).alloc (Obj.cells #[.slice none 0 0, .int .i64 0, .int .i64 0, .int .i64 0] 24) = w1 := ⟨_, rfl⟩
  rw [hw1]
  have K1 : Gm w1 w.heap.size a 26 c W B 1 := by rw [← hw1]; exact (Gm.new w _ _ _ _ _ _).old _
  have K2 : Gm w1 (w.heap.size + 1) none 0 0 0 0 0 := by
    rw [← hw1]
    have := Gm.new (w.alloc (Obj.cells (gmA a 26 c W B 1) 24)) none 0 0 0 0 0
    rw [World.size_alloc] at this
    exact this
  have hs1 : w1.heap.size = w.heap.size + 1 + 1 := by rw [← hw1]; simp
  have B1 : Below w.heap.size w w1 := by rw [← hw1]; exact ((Below.refl _ w).alloc (Nat.le_refl _) _).alloc (by simp) _
  clear hw1
  have CALL := hide (GammonOf_own a 26 c P W B 1 w1 (HRD.out.mono B1) (by omega))
  rw [hs1] at CALL
  go_wp2_with (refine wpList_load_gm rfl (.tmp 3) rfl w.heap.size rfl K1 ?_)
  refine CALL.out.mono ?_
  rintro e w2 ⟨a', c', rfl, hO, hb⟩
  obtain ⟨g, ha', hg2⟩ : ∃ g, a' = some ⟨g, 0, none⟩ ∧ w.heap.size + 1 + 1 ≤ g ∧ g < w2.heap.size := by
    rcases hO.2 with ⟨hv, h0⟩ | ⟨g, cap, cur, hv, hbg, hg, -⟩
    · omega
    · simp only [Value.slice.injEq] at hv
      exact ⟨g, hv.1, hbg, (Array.getElem?_eq_some_iff.1 hg).1⟩
  subst ha'
  obtain ⟨ob, hob⟩ : ∃ ob, w2.heap.size = ob := ⟨_, rfl⟩
  have hsz : w.heap.size + 1 + 1 ≤ ob := by have := hb.size; omega
  have hgo : g ≠ ob := by omega
  have hg1 : w.heap.size + 1 + 1 ≤ g := hg2.1
  have K8 : Gm (w2.alloc (Obj.cells #[.slice none 0 0, .int .i64 0, .int .i64 0, .int .i64 0] 24)) ob none 0 0 0 0 0 := by rw [← hob]; exact Gm.new w2 none 0 0 0 0 0
  have SC0 : Hid (∀ w3, Gm w3 ob (some ⟨g, 0, none⟩) 26 c' W B 1 → Keeps (fun k => k = ob) (w2.alloc (Obj.cells #[.slice none 0 0, .int .i64 0, .int .i64 0, .int .i64 0] 24)) w3 → SC w w3 a c W B 1 ob g c' P W B) := hide (by
    intro w3 k8 kk
    have B2 := (B1.trans (hb.mono (by omega))).alloc (by omega) (Obj.cells #[.slice none 0 0, .int .i64 0, .int .i64 0, .int .i64 0] 24)
    refine ⟨((K1.below (C := w.heap.size + 1 + 1) hb (by omega)).old _).keeps kk (by omega), ((K2.below (C := w.heap.size + 1 + 1) hb (by omega)).old _).keeps kk (by omega), k8, ?_, ?_, hgo, hg1, hsz⟩
    · exact (hO.alloc _).kept kk.grown (Or.inr (by simp [Value.ownBlock]; exact hgo))
    · exact B2.trans ((kk.mono (Y := fun k => w.heap.size ≤ k) (fun k _ e => by omega)).below (by have := B2.size; omega) (fun k hk e => by omega)))
  have HOB := hide hob
  clear K1 K2 B1 CALL hO hb hob hg2 hs1
  go_upto_region 2 with (refine wpList_store_gm rfl (.tmp 8) (.tmp 15) rfl ob (by first | rfl | (rw [← HOB.out]; rfl)) rfl K8 ?_; intro w3 k8 kk)
  have C0 := SC0.out w3 k8 kk
  clear k8 kk SC0 K8
  rw [HOB.out]
  obtain ⟨p0, p1, p2, p3⟩ := C0.k3.cells
  have HV : Hid (stR P W B 1 f p = none) := hide (stR_bar P W B 1 f p (by omega) (Or.inl ⟨by simpa [ownB] using hb, by omega⟩))
  have q1 : ((f : Int) == 0) = false := by simp; omega
  have q2 : ((f : Int) != 0) = true := by simp; omega
  go_wp2_with (first
    | refine wpList_load_gm rfl (.tmp 8) rfl ob rfl C0.k8 ?_
    | (refine wpList_store_gm rfl (.tmp 6) (.tmp 47) rfl (w.heap.size + 1) rfl rfl C0.k6 ?_; intro w6 k6 kk6))
  exact bodyPost_ret (results_gb rfl _ _ (w.heap.size + 1) rfl k6) rfl ⟨g, c', P, W, B, false, rfl, (C0.out kk6).1, HV.out, C0.n2, (C0.out kk6).2⟩

set_option maxRecDepth 100000 in
set_option maxHeartbeats 4000000 in
theorem StepOf_nobar1 (a : Option Addr) (c : Nat) (P : List Int) (W B : Int) (p : Nat) (w : World) (h : Rd w a 26 c P) (hmay : mayP P W B 1) (hb : Hid (B = 0)) :
    Calls Try.prog 13 #[.agg (gmA a 26 c W B 1), .int .i64 0, .int .i64 p] w (StO P W B 1 0 p w) := by
  have HM := hide hmay
  have HRD := hide h
  have hz15 : Hid (∀ q, q ≤ 25 → -15 ≤ P.getD q 0 ∧ P.getD q 0 ≤ 15) := hide (fun q hq => ⟨hmay.low _ (getD_mem (by rw [hmay.1]; omega)), hmay.high _ (getD_mem (by rw [hmay.1]; omega))⟩)
  clear h hmay
  go_enter Try.func13, Try.ntmps13
  go_upto_region 1 with fail
  obtain ⟨w1, hw1⟩ : ∃ w1, (w.alloc (Obj.cells (gmA a 26 c W B 1) 24)).alloc (Obj.cells #[.slice none 0 0, .int .i64 0, .int .i64 0, .int .i64 0] 24) = w1 := ⟨_, rfl⟩
  rw [hw1]
  have K1 : Gm w1 w.heap.size a 26 c W B 1 := by rw [← hw1]; exact (Gm.new w _ _ _ _ _ _).old _
  have K2 : Gm w1 (w.heap.size + 1) none 0 0 0 0 0 := by
    rw [← hw1]
    have := Gm.new (w.alloc (Obj.cells (gmA a 26 c W B 1) 24)) none 0 0 0 0 0
    rw [World.size_alloc] at this
    exact this
  have hs1 : w1.heap.size = w.heap.size + 1 + 1 := by rw [← hw1]; simp
  have B1 : Below w.heap.size w w1 := by rw [← hw1]; exact ((Below.refl _ w).alloc (Nat.le_refl _) _).alloc (by simp) _
  clear hw1
  have CALL := hide (GammonOf_own a 26 c P W B 1 w1 (HRD.out.mono B1) (by omega))
  rw [hs1] at CALL
  go_wp2_with (refine wpList_load_gm rfl (.tmp 3) rfl w.heap.size rfl K1 ?_)
  refine CALL.out.mono ?_
  rintro e w2 ⟨a', c', rfl, hO, hb⟩
  obtain ⟨g, ha', hg2⟩ : ∃ g, a' = some ⟨g, 0, none⟩ ∧ w.heap.size + 1 + 1 ≤ g ∧ g < w2.heap.size := by
    rcases hO.2 with ⟨hv, h0⟩ | ⟨g, cap, cur, hv, hbg, hg, -⟩
    · omega
    · simp only [Value.slice.injEq] at hv
      exact ⟨g, hv.1, hbg, (Array.getElem?_eq_some_iff.1 hg).1⟩
  subst ha'
  obtain ⟨ob, hob⟩ : ∃ ob, w2.heap.size = ob := ⟨_, rfl⟩
  have hsz : w.heap.size + 1 + 1 ≤ ob := by have := hb.size; omega
  have hgo : g ≠ ob := by omega
  have hg1 : w.heap.size + 1 + 1 ≤ g := hg2.1
  have K8 : Gm (w2.alloc (Obj.cells #[.slice none 0 0, .int .i64 0, .int .i64 0, .int .i64 0] 24)) ob none 0 0 0 0 0 := by rw [← hob]; exact Gm.new w2 none 0 0 0 0 0
  have SC0 : Hid (∀ w3, Gm w3 ob (some ⟨g, 0, none⟩) 26 c' W B 1 → Keeps (fun k => k = ob) (w2.alloc (Obj.cells #[.slice none 0 0, .int .i64 0, .int .i64 0, .int .i64 0] 24)) w3 → SC w w3 a c W B 1 ob g c' P W B) := hide (by
    intro w3 k8 kk
    have B2 := (B1.trans (hb.mono (by omega))).alloc (by omega) (Obj.cells #[.slice none 0 0, .int .i64 0, .int .i64 0, .int .i64 0] 24)
    refine ⟨((K1.below (C := w.heap.size + 1 + 1) hb (by omega)).old _).keeps kk (by omega), ((K2.below (C := w.heap.size + 1 + 1) hb (by omega)).old _).keeps kk (by omega), k8, ?_, ?_, hgo, hg1, hsz⟩
    · exact (hO.alloc _).kept kk.grown (Or.inr (by simp [Value.ownBlock]; exact hgo))
    · exact B2.trans ((kk.mono (Y := fun k => w.heap.size ≤ k) (fun k _ e => by omega)).below (by have := B2.size; omega) (fun k hk e => by omega)))
  have HOB := hide hob
  clear K1 K2 B1 CALL hO hb hob hg2 hs1
  go_upto_region 2 with (refine wpList_store_gm rfl (.tmp 8) (.tmp 15) rfl ob (by first | rfl | (rw [← HOB.out]; rfl)) rfl K8 ?_; intro w3 k8 kk)
  have C0 := SC0.out w3 k8 kk
  clear k8 kk SC0 K8
  rw [HOB.out]
  obtain ⟨p0, p1, p2, p3⟩ := C0.k3.cells
  have HV : Hid (stR P W B 1 0 p = none) := hide (stR_bar P W B 1 0 p (by omega) (Or.inr (Or.inl ⟨by simpa [ownB] using hb.out, rfl⟩)))
  have q1 : (B == 0) = true := by simpa using hb.out
  have q2 : decide (0 < B) = false := by have := hb.out; simp; omega
  clear hb
  go_wp2_with (first
    | refine wpList_load_gm rfl (.tmp 8) rfl ob rfl C0.k8 ?_
    | (refine wpList_store_gm rfl (.tmp 6) (.tmp 47) rfl (w.heap.size + 1) rfl rfl C0.k6 ?_; intro w6 k6 kk6))
  exact bodyPost_ret (results_gb rfl _ _ (w.heap.size + 1) rfl k6) rfl ⟨g, c', P, W, B, false, rfl, (C0.out kk6).1, HV.out, C0.n2, (C0.out kk6).2⟩

set_option maxRecDepth 100000 in
set_option maxHeartbeats 4000000 in
theorem StepOf_noman1 (a : Option Addr) (c : Nat) (P : List Int) (W B : Int) (f : Nat) (p : Nat) (w : World) (h : Rd w a 26 c P) (hmay : mayP P W B 1) (hb : Hid (B = 0)) (hf : 1 ≤ f ∧ f ≤ 24) (hm : ma P 1 f < 1) :
    Calls Try.prog 13 #[.agg (gmA a 26 c W B 1), .int .i64 f, .int .i64 p] w (StO P W B 1 f p w) := by
  have HM := hide hmay
  have HRD := hide h
  have hz15 : Hid (∀ q, q ≤ 25 → -15 ≤ P.getD q 0 ∧ P.getD q 0 ≤ 15) := hide (fun q hq => ⟨hmay.low _ (getD_mem (by rw [hmay.1]; omega)), hmay.high _ (getD_mem (by rw [hmay.1]; omega))⟩)
  clear h hmay
  go_enter Try.func13, Try.ntmps13
  go_upto_region 1 with fail
  obtain ⟨w1, hw1⟩ : ∃ w1, (w.alloc (Obj.cells (gmA a 26 c W B 1) 24)).alloc (Obj.cells #[.slice none 0 0, .int .i64 0, .int .i64 0, .int .i64 0] 24) = w1 := ⟨_, rfl⟩
  rw [hw1]
  have K1 : Gm w1 w.heap.size a 26 c W B 1 := by rw [← hw1]; exact (Gm.new w _ _ _ _ _ _).old _
  have K2 : Gm w1 (w.heap.size + 1) none 0 0 0 0 0 := by
    rw [← hw1]
    have := Gm.new (w.alloc (Obj.cells (gmA a 26 c W B 1) 24)) none 0 0 0 0 0
    rw [World.size_alloc] at this
    exact this
  have hs1 : w1.heap.size = w.heap.size + 1 + 1 := by rw [← hw1]; simp
  have B1 : Below w.heap.size w w1 := by rw [← hw1]; exact ((Below.refl _ w).alloc (Nat.le_refl _) _).alloc (by simp) _
  clear hw1
  have CALL := hide (GammonOf_own a 26 c P W B 1 w1 (HRD.out.mono B1) (by omega))
  rw [hs1] at CALL
  go_wp2_with (refine wpList_load_gm rfl (.tmp 3) rfl w.heap.size rfl K1 ?_)
  refine CALL.out.mono ?_
  rintro e w2 ⟨a', c', rfl, hO, hb⟩
  obtain ⟨g, ha', hg2⟩ : ∃ g, a' = some ⟨g, 0, none⟩ ∧ w.heap.size + 1 + 1 ≤ g ∧ g < w2.heap.size := by
    rcases hO.2 with ⟨hv, h0⟩ | ⟨g, cap, cur, hv, hbg, hg, -⟩
    · omega
    · simp only [Value.slice.injEq] at hv
      exact ⟨g, hv.1, hbg, (Array.getElem?_eq_some_iff.1 hg).1⟩
  subst ha'
  obtain ⟨ob, hob⟩ : ∃ ob, w2.heap.size = ob := ⟨_, rfl⟩
  have hsz : w.heap.size + 1 + 1 ≤ ob := by have := hb.size; omega
  have hgo : g ≠ ob := by omega
  have hg1 : w.heap.size + 1 + 1 ≤ g := hg2.1
  have K8 : Gm (w2.alloc (Obj.cells #[.slice none 0 0, .int .i64 0, .int .i64 0, .int .i64 0] 24)) ob none 0 0 0 0 0 := by rw [← hob]; exact Gm.new w2 none 0 0 0 0 0
  have SC0 : Hid (∀ w3, Gm w3 ob (some ⟨g, 0, none⟩) 26 c' W B 1 → Keeps (fun k => k = ob) (w2.alloc (Obj.cells #[.slice none 0 0, .int .i64 0, .int .i64 0, .int .i64 0] 24)) w3 → SC w w3 a c W B 1 ob g c' P W B) := hide (by
    intro w3 k8 kk
    have B2 := (B1.trans (hb.mono (by omega))).alloc (by omega) (Obj.cells #[.slice none 0 0, .int .i64 0, .int .i64 0, .int .i64 0] 24)
    refine ⟨((K1.below (C := w.heap.size + 1 + 1) hb (by omega)).old _).keeps kk (by omega), ((K2.below (C := w.heap.size + 1 + 1) hb (by omega)).old _).keeps kk (by omega), k8, ?_, ?_, hgo, hg1, hsz⟩
    · exact (hO.alloc _).kept kk.grown (Or.inr (by simp [Value.ownBlock]; exact hgo))
    · exact B2.trans ((kk.mono (Y := fun k => w.heap.size ≤ k) (fun k _ e => by omega)).below (by have := B2.size; omega) (fun k hk e => by omega)))
  have HOB := hide hob
  clear K1 K2 B1 CALL hO hb hob hg2 hs1
  go_upto_region 2 with (refine wpList_store_gm rfl (.tmp 8) (.tmp 15) rfl ob (by first | rfl | (rw [← HOB.out]; rfl)) rfl K8 ?_; intro w3 k8 kk)
  have C0 := SC0.out w3 k8 kk
  clear k8 kk SC0 K8
  rw [HOB.out]
  obtain ⟨p0, p1, p2, p3⟩ := C0.k3.cells
  have HV : Hid (stR P W B 1 f p = none) := hide (stR_bar P W B 1 f p (by omega) (Or.inr (Or.inr ⟨by omega, hm⟩)))
  have q1 : (B == 0) = true := by simpa using hb.out
  have q2 : decide (0 < B) = false := by have := hb.out; simp; omega
  have q3 : ((f : Int) == 0) = false := by simp; omega
  clear hb
  go_wp2_with (refine wpList_load_gm rfl (.tmp 3) rfl w.heap.size rfl C0.k3 ?_)
  refine (menAt_any a c P W B 1 f (by omega) (by omega) w3 (HRD.out.mono C0.b) (hz15.out f (by omega))).mono ?_
  rintro e w4 ⟨rfl, hb4⟩
  have C1 := C0.below hb4
  clear hb4 p0 p1 p2 p3
  obtain ⟨p0, p1, p2, p3⟩ := C1.k3.cells
  generalize ma P 1 f = z at *
  go_wp2_with (first
    | refine wpList_load_gm rfl (.tmp 8) rfl ob rfl C1.k8 ?_
    | (refine wpList_store_gm rfl (.tmp 6) (.tmp 47) rfl (w.heap.size + 1) rfl rfl C1.k6 ?_; intro w6 k6 kk6))
  exact bodyPost_ret (results_gb rfl _ _ (w.heap.size + 1) rfl k6) rfl ⟨g, c', P, W, B, false, rfl, (C1.out kk6).1, HV.out, C1.n2, (C1.out kk6).2⟩

end Go.Proofs.Ytmboikpcbkiepaa
