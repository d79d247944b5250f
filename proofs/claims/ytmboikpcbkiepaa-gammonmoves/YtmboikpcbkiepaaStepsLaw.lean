/-
  The walk of the law on boards and steps. No conditions beyond those that each theorem bears.
-/
import Derived.Test.YtmboikpcbkiepaaStepF
namespace Go.Proofs.Ytmboikpcbkiepaa
open Go.RowKit

set_option maxRecDepth 100000 in
set_option maxHeartbeats 4000000 in
theorem steps_state (a : Option Addr) (n c : Nat) (P : List Int) (W B : Int) (T f p : Int) (w : World) (h : Rd w a n c P) (hr : n * 8 ≤ 140737488351232) (hP : ∀ z ∈ P, -9223372036854775808 ≤ z ∧ z ≤ 9223372036854775807) (hm : mayG P W B T = false) :
    Calls Try.prog 3 #[.agg (gmA a n c W B T), .int .i64 f, .int .i64 p] w fun e w' => e = .returned (.bool true) ∧ Below w.heap.size w w' := by
  have HRD := hide h
  have HP := hide hP
  clear h hP
  go_enter Try.func3, Try.ntmps3
  go_upto_region 1 with fail
  have K3 : Gm (w.alloc (Obj.cells (gmA a n c W B T) 24)) w.heap.size a n c W B T := Gm.new w _ _ _ _ _ _
  have B1 : Below w.heap.size w (w.alloc (Obj.cells (gmA a n c W B T) 24)) := (Below.refl _ w).alloc (Nat.le_refl _) _
  generalize w.alloc (Obj.cells (gmA a n c W B T) 24) = w1 at *
  go_wp2_with (refine wpList_load_gm rfl (.tmp 3) rfl w.heap.size rfl K3 ?_)
  refine (GammonOf_any a n c P W B T _ (HRD.out.mono B1) hr).mono ?_
  rintro e w2 ⟨a1, c1, rfl, R1, hb⟩
  have K32 := K3.below hb K3.lt
  have B2 := B1.trans (hb.mono B1.size)
  clear hb K3 B1
  go_wp2_with fail
  refine (May_any a1 n c1 P W B T _ R1 HP.out).mono ?_
  rintro e w3 ⟨rfl, hb⟩
  have K3 := K32.below hb K32.lt
  have B3 := B2.trans (hb.mono B2.size)
  clear hb K32 B2 R1
  rw [hm]
  go_wp2_with (refine wpList_load_gm rfl (.tmp 3) rfl w.heap.size rfl K3 ?_)
  refine (GammonOf_any a n c P W B T _ (HRD.out.mono B3) hr).mono ?_
  rintro e w4 ⟨a2, c2, rfl, R2, hb⟩
  have K32 := K3.below hb K3.lt
  have B4 := B3.trans (hb.mono B3.size)
  clear hb K3 B3
  go_wp2_with fail
  refine (Step_state a2 n c2 P W B T f p _ R2 HP.out hm).mono ?_
  rintro e w5 ⟨rfl, hb⟩
  have K3 := K32.below hb K32.lt
  have B5 := B4.trans (hb.mono B4.size)
  clear hb K32 B4 R2
  have K8 : Gm (w5.alloc (Obj.cells #[.slice none 0 0, .int .i64 0, .int .i64 0, .int .i64 0] 24)) w5.heap.size none 0 0 0 0 0 := Gm.new w5 none 0 0 0 0 0
  have K33 := K3.old (Obj.cells #[.slice none 0 0, .int .i64 0, .int .i64 0, .int .i64 0] 24)
  have B55 := B5.alloc B5.size (Obj.cells #[.slice none 0 0, .int .i64 0, .int .i64 0, .int .i64 0] 24)
  have hlt := K3.lt
  have hsz := B5.size
  obtain ⟨ob, hob⟩ : ∃ ob, w5.heap.size = ob := ⟨_, rfl⟩
  rw [hob] at K8 hlt hsz
  have HOB := hide hob
  clear hob
  go_upto_region 3 with (refine wpList_store_gm rfl (.tmp 8) (.tmp 21) rfl ob (by first | rfl | (rw [← HOB.out]; rfl)) rfl K8 ?_; intro w6 k8 kk)
  try rw [HOB.out]
  have K36 := K33.keeps kk (by omega)
  have B6 := B55.trans ((kk.mono (Y := fun k => w.heap.size ≤ k) (fun k _ e => by omega)).below (by have := B55.size; omega) (fun k hk e => by omega))
  clear kk K33 B55 K3 B5 K8
  go_wp2_with (refine wpList_load_gm rfl (.tmp 3) rfl w.heap.size rfl K36 ?_)
  refine (GammonMay_any a n c P W B T _ (HRD.out.mono B6)).mono ?_
  rintro e w7 ⟨rfl, hb⟩
  have K37 := K36.below hb K36.lt
  have K87 := k8.below hb k8.lt
  have B7 := B6.trans (hb.mono B6.size)
  clear hb K36 B6 k8
  rw [hm]
  go_wp2_with (refine wpList_load_gm rfl (.tmp 8) rfl ob rfl K87 ?_)
  refine (noGammon_yes none 0 _).mono ?_
  rintro e w8 ⟨rfl, hb⟩
  have B8 := B7.trans (hb.mono B7.size)
  go_wp2
  go_ret
  exact ⟨rfl, B8⟩

set_option maxRecDepth 100000 in
set_option maxHeartbeats 4000000 in
theorem steps_range0 (a : Option Addr) (n c : Nat) (P : List Int) (W B : Int) (T f p : Int) (w : World) (h : Rd w a n c P) (hr : n * 8 ≤ 140737488351232) (hP : ∀ z ∈ P, -9223372036854775808 ≤ z ∧ z ≤ 9223372036854775807) (hm : mayG P W B T = true) (hf : f < 0) :
    Calls Try.prog 3 #[.agg (gmA a n c W B T), .int .i64 f, .int .i64 p] w fun e w' => e = .returned (.bool true) ∧ Below w.heap.size w w' := by
  have HRD := hide h
  have HP := hide hP
  clear h hP
  go_enter Try.func3, Try.ntmps3
  go_upto_region 1 with fail
  have K3 : Gm (w.alloc (Obj.cells (gmA a n c W B T) 24)) w.heap.size a n c W B T := Gm.new w _ _ _ _ _ _
  have B1 : Below w.heap.size w (w.alloc (Obj.cells (gmA a n c W B T) 24)) := (Below.refl _ w).alloc (Nat.le_refl _) _
  generalize w.alloc (Obj.cells (gmA a n c W B T) 24) = w1 at *
  go_wp2_with (refine wpList_load_gm rfl (.tmp 3) rfl w.heap.size rfl K3 ?_)
  refine (GammonOf_any a n c P W B T _ (HRD.out.mono B1) hr).mono ?_
  rintro e w2 ⟨a1, c1, rfl, R1, hb⟩
  have K32 := K3.below hb K3.lt
  have B2 := B1.trans (hb.mono B1.size)
  clear hb K3 B1
  go_wp2_with fail
  refine (May_any a1 n c1 P W B T _ R1 HP.out).mono ?_
  rintro e w3 ⟨rfl, hb⟩
  have K3 := K32.below hb K32.lt
  have B3 := B2.trans (hb.mono B2.size)
  clear hb K32 B2 R1
  rw [hm]
  go_wp2_with (refine wpList_load_gm rfl (.tmp 3) rfl w.heap.size rfl K3 ?_)
  refine (GammonOf_any a n c P W B T _ (HRD.out.mono B3) hr).mono ?_
  rintro e w4 ⟨a2, c2, rfl, R2, hb⟩
  have K32 := K3.below hb K3.lt
  have B4 := B3.trans (hb.mono B3.size)
  clear hb K3 B3
  go_wp2_with fail
  refine (Step_range1 a2 n c2 P W B T f p _ R2 HP.out hm hf).mono ?_
  rintro e w5 ⟨rfl, hb⟩
  have K3 := K32.below hb K32.lt
  have B5 := B4.trans (hb.mono B4.size)
  clear hb K32 B4 R2
  have K8 : Gm (w5.alloc (Obj.cells #[.slice none 0 0, .int .i64 0, .int .i64 0, .int .i64 0] 24)) w5.heap.size none 0 0 0 0 0 := Gm.new w5 none 0 0 0 0 0
  have K33 := K3.old (Obj.cells #[.slice none 0 0, .int .i64 0, .int .i64 0, .int .i64 0] 24)
  have B55 := B5.alloc B5.size (Obj.cells #[.slice none 0 0, .int .i64 0, .int .i64 0, .int .i64 0] 24)
  have hlt := K3.lt
  have hsz := B5.size
  obtain ⟨ob, hob⟩ : ∃ ob, w5.heap.size = ob := ⟨_, rfl⟩
  rw [hob] at K8 hlt hsz
  have HOB := hide hob
  clear hob
  go_upto_region 3 with (refine wpList_store_gm rfl (.tmp 8) (.tmp 21) rfl ob (by first | rfl | (rw [← HOB.out]; rfl)) rfl K8 ?_; intro w6 k8 kk)
  try rw [HOB.out]
  have K36 := K33.keeps kk (by omega)
  have B6 := B55.trans ((kk.mono (Y := fun k => w.heap.size ≤ k) (fun k _ e => by omega)).below (by have := B55.size; omega) (fun k hk e => by omega))
  clear kk K33 B55 K3 B5 K8
  go_wp2_with (refine wpList_load_gm rfl (.tmp 3) rfl w.heap.size rfl K36 ?_)
  refine (GammonMay_any a n c P W B T _ (HRD.out.mono B6)).mono ?_
  rintro e w7 ⟨rfl, hb⟩
  have K37 := K36.below hb K36.lt
  have K87 := k8.below hb k8.lt
  have B7 := B6.trans (hb.mono B6.size)
  clear hb K36 B6 k8
  rw [hm]
  go_wp2_with (refine wpList_load_gm rfl (.tmp 8) rfl ob rfl K87 ?_)
  refine (noGammon_yes none 0 _).mono ?_
  rintro e w8 ⟨rfl, hb⟩
  have B8 := B7.trans (hb.mono B7.size)
  go_wp2
  go_ret
  exact ⟨rfl, B8⟩

set_option maxRecDepth 100000 in
set_option maxHeartbeats 4000000 in
theorem steps_range1 (a : Option Addr) (n c : Nat) (P : List Int) (W B : Int) (T f p : Int) (w : World) (h : Rd w a n c P) (hr : n * 8 ≤ 140737488351232) (hP : ∀ z ∈ P, -9223372036854775808 ≤ z ∧ z ≤ 9223372036854775807) (hm : mayG P W B T = true) (hf : ¬ f < 0) (hf2 : 25 ≤ f) :
    Calls Try.prog 3 #[.agg (gmA a n c W B T), .int .i64 f, .int .i64 p] w fun e w' => e = .returned (.bool true) ∧ Below w.heap.size w w' := by
  have HRD := hide h
  have HP := hide hP
  clear h hP
  go_enter Try.func3, Try.ntmps3
  go_upto_region 1 with fail
  have K3 : Gm (w.alloc (Obj.cells (gmA a n c W B T) 24)) w.heap.size a n c W B T := Gm.new w _ _ _ _ _ _
  have B1 : Below w.heap.size w (w.alloc (Obj.cells (gmA a n c W B T) 24)) := (Below.refl _ w).alloc (Nat.le_refl _) _
  generalize w.alloc (Obj.cells (gmA a n c W B T) 24) = w1 at *
  go_wp2_with (refine wpList_load_gm rfl (.tmp 3) rfl w.heap.size rfl K3 ?_)
  refine (GammonOf_any a n c P W B T _ (HRD.out.mono B1) hr).mono ?_
  rintro e w2 ⟨a1, c1, rfl, R1, hb⟩
  have K32 := K3.below hb K3.lt
  have B2 := B1.trans (hb.mono B1.size)
  clear hb K3 B1
  go_wp2_with fail
  refine (May_any a1 n c1 P W B T _ R1 HP.out).mono ?_
  rintro e w3 ⟨rfl, hb⟩
  have K3 := K32.below hb K32.lt
  have B3 := B2.trans (hb.mono B2.size)
  clear hb K32 B2 R1
  rw [hm]
  go_wp2_with (refine wpList_load_gm rfl (.tmp 3) rfl w.heap.size rfl K3 ?_)
  refine (GammonOf_any a n c P W B T _ (HRD.out.mono B3) hr).mono ?_
  rintro e w4 ⟨a2, c2, rfl, R2, hb⟩
  have K32 := K3.below hb K3.lt
  have B4 := B3.trans (hb.mono B3.size)
  clear hb K3 B3
  go_wp2_with fail
  refine (Step_range2 a2 n c2 P W B T f p _ R2 HP.out hm (by omega) hf2).mono ?_
  rintro e w5 ⟨rfl, hb⟩
  have K3 := K32.below hb K32.lt
  have B5 := B4.trans (hb.mono B4.size)
  clear hb K32 B4 R2
  have K8 : Gm (w5.alloc (Obj.cells #[.slice none 0 0, .int .i64 0, .int .i64 0, .int .i64 0] 24)) w5.heap.size none 0 0 0 0 0 := Gm.new w5 none 0 0 0 0 0
  have K33 := K3.old (Obj.cells #[.slice none 0 0, .int .i64 0, .int .i64 0, .int .i64 0] 24)
  have B55 := B5.alloc B5.size (Obj.cells #[.slice none 0 0, .int .i64 0, .int .i64 0, .int .i64 0] 24)
  have hlt := K3.lt
  have hsz := B5.size
  obtain ⟨ob, hob⟩ : ∃ ob, w5.heap.size = ob := ⟨_, rfl⟩
  rw [hob] at K8 hlt hsz
  have HOB := hide hob
  clear hob
  go_upto_region 3 with (refine wpList_store_gm rfl (.tmp 8) (.tmp 21) rfl ob (by first | rfl | (rw [← HOB.out]; rfl)) rfl K8 ?_; intro w6 k8 kk)
  try rw [HOB.out]
  have K36 := K33.keeps kk (by omega)
  have B6 := B55.trans ((kk.mono (Y := fun k => w.heap.size ≤ k) (fun k _ e => by omega)).below (by have := B55.size; omega) (fun k hk e => by omega))
  clear kk K33 B55 K3 B5 K8
  go_wp2_with (refine wpList_load_gm rfl (.tmp 3) rfl w.heap.size rfl K36 ?_)
  refine (GammonMay_any a n c P W B T _ (HRD.out.mono B6)).mono ?_
  rintro e w7 ⟨rfl, hb⟩
  have K37 := K36.below hb K36.lt
  have K87 := k8.below hb k8.lt
  have B7 := B6.trans (hb.mono B6.size)
  clear hb K36 B6 k8
  rw [hm]
  have q1 : decide (f < 0) = false := by simpa using hf
  have q2 : decide (24 < f) = true := by simp; omega
  go_wp2_with (refine wpList_load_gm rfl (.tmp 8) rfl ob rfl K87 ?_)
  refine (noGammon_yes none 0 _).mono ?_
  rintro e w8 ⟨rfl, hb⟩
  have B8 := B7.trans (hb.mono B7.size)
  go_wp2
  go_ret
  exact ⟨rfl, B8⟩

set_option maxRecDepth 100000 in
set_option maxHeartbeats 4000000 in
theorem steps_range2 (a : Option Addr) (n c : Nat) (P : List Int) (W B : Int) (T f p : Int) (w : World) (h : Rd w a n c P) (hr : n * 8 ≤ 140737488351232) (hP : ∀ z ∈ P, -9223372036854775808 ≤ z ∧ z ≤ 9223372036854775807) (hm : mayG P W B T = true) (hf : ¬ f < 0) (hf2 : ¬ 25 ≤ f) (hp : p < 1) :
    Calls Try.prog 3 #[.agg (gmA a n c W B T), .int .i64 f, .int .i64 p] w fun e w' => e = .returned (.bool true) ∧ Below w.heap.size w w' := by
  have HRD := hide h
  have HP := hide hP
  clear h hP
  go_enter Try.func3, Try.ntmps3
  go_upto_region 1 with fail
  have K3 : Gm (w.alloc (Obj.cells (gmA a n c W B T) 24)) w.heap.size a n c W B T := Gm.new w _ _ _ _ _ _
  have B1 : Below w.heap.size w (w.alloc (Obj.cells (gmA a n c W B T) 24)) := (Below.refl _ w).alloc (Nat.le_refl _) _
  generalize w.alloc (Obj.cells (gmA a n c W B T) 24) = w1 at *
  go_wp2_with (refine wpList_load_gm rfl (.tmp 3) rfl w.heap.size rfl K3 ?_)
  refine (GammonOf_any a n c P W B T _ (HRD.out.mono B1) hr).mono ?_
  rintro e w2 ⟨a1, c1, rfl, R1, hb⟩
  have K32 := K3.below hb K3.lt
  have B2 := B1.trans (hb.mono B1.size)
  clear hb K3 B1
  go_wp2_with fail
  refine (May_any a1 n c1 P W B T _ R1 HP.out).mono ?_
  rintro e w3 ⟨rfl, hb⟩
  have K3 := K32.below hb K32.lt
  have B3 := B2.trans (hb.mono B2.size)
  clear hb K32 B2 R1
  rw [hm]
  go_wp2_with (refine wpList_load_gm rfl (.tmp 3) rfl w.heap.size rfl K3 ?_)
  refine (GammonOf_any a n c P W B T _ (HRD.out.mono B3) hr).mono ?_
  rintro e w4 ⟨a2, c2, rfl, R2, hb⟩
  have K32 := K3.below hb K3.lt
  have B4 := B3.trans (hb.mono B3.size)
  clear hb K3 B3
  go_wp2_with fail
  refine (Step_range3 a2 n c2 P W B T f p _ R2 HP.out hm (by omega) (by omega) (by simp only [wpB, decide_eq_true_eq]; omega)).mono ?_
  rintro e w5 ⟨rfl, hb⟩
  have K3 := K32.below hb K32.lt
  have B5 := B4.trans (hb.mono B4.size)
  clear hb K32 B4 R2
  have K8 : Gm (w5.alloc (Obj.cells #[.slice none 0 0, .int .i64 0, .int .i64 0, .int .i64 0] 24)) w5.heap.size none 0 0 0 0 0 := Gm.new w5 none 0 0 0 0 0
  have K33 := K3.old (Obj.cells #[.slice none 0 0, .int .i64 0, .int .i64 0, .int .i64 0] 24)
  have B55 := B5.alloc B5.size (Obj.cells #[.slice none 0 0, .int .i64 0, .int .i64 0, .int .i64 0] 24)
  have hlt := K3.lt
  have hsz := B5.size
  obtain ⟨ob, hob⟩ : ∃ ob, w5.heap.size = ob := ⟨_, rfl⟩
  rw [hob] at K8 hlt hsz
  have HOB := hide hob
  clear hob
  go_upto_region 3 with (refine wpList_store_gm rfl (.tmp 8) (.tmp 21) rfl ob (by first | rfl | (rw [← HOB.out]; rfl)) rfl K8 ?_; intro w6 k8 kk)
  try rw [HOB.out]
  have K36 := K33.keeps kk (by omega)
  have B6 := B55.trans ((kk.mono (Y := fun k => w.heap.size ≤ k) (fun k _ e => by omega)).below (by have := B55.size; omega) (fun k hk e => by omega))
  clear kk K33 B55 K3 B5 K8
  go_wp2_with (refine wpList_load_gm rfl (.tmp 3) rfl w.heap.size rfl K36 ?_)
  refine (GammonMay_any a n c P W B T _ (HRD.out.mono B6)).mono ?_
  rintro e w7 ⟨rfl, hb⟩
  have K37 := K36.below hb K36.lt
  have K87 := k8.below hb k8.lt
  have B7 := B6.trans (hb.mono B6.size)
  clear hb K36 B6 k8
  rw [hm]
  have q1 : decide (f < 0) = false := by simpa using hf
  have q2 : decide (24 < f) = false := by simp; omega
  go_wp2_with (refine wpList_load_gm rfl (.tmp 8) rfl ob rfl K87 ?_)
  refine (noGammon_yes none 0 _).mono ?_
  rintro e w8 ⟨rfl, hb⟩
  have B8 := B7.trans (hb.mono B7.size)
  go_wp2
  go_ret
  exact ⟨rfl, B8⟩

set_option maxRecDepth 100000 in
set_option maxHeartbeats 4000000 in
theorem steps_range3 (a : Option Addr) (n c : Nat) (P : List Int) (W B : Int) (T f p : Int) (w : World) (h : Rd w a n c P) (hr : n * 8 ≤ 140737488351232) (hP : ∀ z ∈ P, -9223372036854775808 ≤ z ∧ z ≤ 9223372036854775807) (hm : mayG P W B T = true) (hf : ¬ f < 0) (hf2 : ¬ 25 ≤ f) (hp : ¬ p < 1) (hp2 : 6 < p) :
    Calls Try.prog 3 #[.agg (gmA a n c W B T), .int .i64 f, .int .i64 p] w fun e w' => e = .returned (.bool true) ∧ Below w.heap.size w w' := by
  have HRD := hide h
  have HP := hide hP
  clear h hP
  go_enter Try.func3, Try.ntmps3
  go_upto_region 1 with fail
  have K3 : Gm (w.alloc (Obj.cells (gmA a n c W B T) 24)) w.heap.size a n c W B T := Gm.new w _ _ _ _ _ _
  have B1 : Below w.heap.size w (w.alloc (Obj.cells (gmA a n c W B T) 24)) := (Below.refl _ w).alloc (Nat.le_refl _) _
  generalize w.alloc (Obj.cells (gmA a n c W B T) 24) = w1 at *
  go_wp2_with (refine wpList_load_gm rfl (.tmp 3) rfl w.heap.size rfl K3 ?_)
  refine (GammonOf_any a n c P W B T _ (HRD.out.mono B1) hr).mono ?_
  rintro e w2 ⟨a1, c1, rfl, R1, hb⟩
  have K32 := K3.below hb K3.lt
  have B2 := B1.trans (hb.mono B1.size)
  clear hb K3 B1
  go_wp2_with fail
  refine (May_any a1 n c1 P W B T _ R1 HP.out).mono ?_
  rintro e w3 ⟨rfl, hb⟩
  have K3 := K32.below hb K32.lt
  have B3 := B2.trans (hb.mono B2.size)
  clear hb K32 B2 R1
  rw [hm]
  go_wp2_with (refine wpList_load_gm rfl (.tmp 3) rfl w.heap.size rfl K3 ?_)
  refine (GammonOf_any a n c P W B T _ (HRD.out.mono B3) hr).mono ?_
  rintro e w4 ⟨a2, c2, rfl, R2, hb⟩
  have K32 := K3.below hb K3.lt
  have B4 := B3.trans (hb.mono B3.size)
  clear hb K3 B3
  go_wp2_with fail
  refine (Step_range3 a2 n c2 P W B T f p _ R2 HP.out hm (by omega) (by omega) (by simp only [wpB, decide_eq_true_eq]; omega)).mono ?_
  rintro e w5 ⟨rfl, hb⟩
  have K3 := K32.below hb K32.lt
  have B5 := B4.trans (hb.mono B4.size)
  clear hb K32 B4 R2
  have K8 : Gm (w5.alloc (Obj.cells #[.slice none 0 0, .int .i64 0, .int .i64 0, .int .i64 0] 24)) w5.heap.size none 0 0 0 0 0 := Gm.new w5 none 0 0 0 0 0
  have K33 := K3.old (Obj.cells #[.slice none 0 0, .int .i64 0, .int .i64 0, .int .i64 0] 24)
  have B55 := B5.alloc B5.size (Obj.cells #[.slice none 0 0, .int .i64 0, .int .i64 0, .int .i64 0] 24)
  have hlt := K3.lt
  have hsz := B5.size
  obtain ⟨ob, hob⟩ : ∃ ob, w5.heap.size = ob := ⟨_, rfl⟩
  rw [hob] at K8 hlt hsz
  have HOB := hide hob
  clear hob
  go_upto_region 3 with (refine wpList_store_gm rfl (.tmp 8) (.tmp 21) rfl ob (by first | rfl | (rw [← HOB.out]; rfl)) rfl K8 ?_; intro w6 k8 kk)
  try rw [HOB.out]
  have K36 := K33.keeps kk (by omega)
  have B6 := B55.trans ((kk.mono (Y := fun k => w.heap.size ≤ k) (fun k _ e => by omega)).below (by have := B55.size; omega) (fun k hk e => by omega))
  clear kk K33 B55 K3 B5 K8
  go_wp2_with (refine wpList_load_gm rfl (.tmp 3) rfl w.heap.size rfl K36 ?_)
  refine (GammonMay_any a n c P W B T _ (HRD.out.mono B6)).mono ?_
  rintro e w7 ⟨rfl, hb⟩
  have K37 := K36.below hb K36.lt
  have K87 := k8.below hb k8.lt
  have B7 := B6.trans (hb.mono B6.size)
  clear hb K36 B6 k8
  rw [hm]
  have q1 : decide (f < 0) = false := by simpa using hf
  have q2 : decide (24 < f) = false := by simp; omega
  have q3 : decide (p < 1) = false := by simpa using hp
  go_wp2_with (refine wpList_load_gm rfl (.tmp 8) rfl ob rfl K87 ?_)
  refine (noGammon_yes none 0 _).mono ?_
  rintro e w8 ⟨rfl, hb⟩
  have B8 := B7.trans (hb.mono B7.size)
  go_wp2
  go_ret
  exact ⟨rfl, B8⟩

set_option maxRecDepth 100000 in
set_option maxHeartbeats 4000000 in
theorem steps_go (a : Option Addr) (c : Nat) (P : List Int) (W B : Int) (t f p : Nat) (w : World) (h : Rd w a 26 c P) (hr : 26 * 8 ≤ 140737488351232) (hP : ∀ z ∈ P, -9223372036854775808 ≤ z ∧ z ≤ 9223372036854775807) (hm : mayG P W B t = true) (ht : t ≤ 1) (hf : f ≤ 24) (hp : 1 ≤ p ∧ p ≤ 6) :
    Calls Try.prog 3 #[.agg (gmA a 26 c W B t), .int .i64 f, .int .i64 p] w fun e w' => e = .returned (.bool true) ∧ Below w.heap.size w w' := by
  have HM : Hid (mayP P W B t) := hide (by simpa [mayG] using hm)
  have HRD := hide h
  have HP := hide hP
  clear h hP
  go_enter Try.func3, Try.ntmps3
  go_upto_region 1 with fail
  have K3 : Gm (w.alloc (Obj.cells (gmA a 26 c W B t) 24)) w.heap.size a 26 c W B t := Gm.new w _ _ _ _ _ _
  have B1 : Below w.heap.size w (w.alloc (Obj.cells (gmA a 26 c W B t) 24)) := (Below.refl _ w).alloc (Nat.le_refl _) _
  generalize w.alloc (Obj.cells (gmA a 26 c W B t) 24) = w1 at *
  go_wp2_with (refine wpList_load_gm rfl (.tmp 3) rfl w.heap.size rfl K3 ?_)
  refine (GammonOf_any a 26 c P W B t _ (HRD.out.mono B1) hr).mono ?_
  rintro e w2 ⟨a1, c1, rfl, R1, hb⟩
  have K32 := K3.below hb K3.lt
  have B2 := B1.trans (hb.mono B1.size)
  clear hb K3 B1
  go_wp2_with fail
  refine (May_any a1 26 c1 P W B t _ R1 HP.out).mono ?_
  rintro e w3 ⟨rfl, hb⟩
  have K3 := K32.below hb K32.lt
  have B3 := B2.trans (hb.mono B2.size)
  clear hb K32 B2 R1
  rw [hm]
  go_wp2_with (refine wpList_load_gm rfl (.tmp 3) rfl w.heap.size rfl K3 ?_)
  refine (GammonOf_any a 26 c P W B t _ (HRD.out.mono B3) hr).mono ?_
  rintro e w4 ⟨a2, c2, rfl, R2, hb⟩
  have K32 := K3.below hb K3.lt
  have B4 := B3.trans (hb.mono B3.size)
  clear hb K3 B3
  go_wp2_with fail
  refine (Step_go a2 26 c2 P W B t f p _ R2 HP.out hm ht hf hp).mono ?_
  rintro e w5 (⟨HV, rfl, hb⟩ | ⟨g, Q, W', B', HV, rfl, RG, hb⟩)
  · have K3 := K32.below hb K32.lt
    have B5 := B4.trans (hb.mono B4.size)
    clear hb K32 B4 R2
    have K8 : Gm (w5.alloc (Obj.cells #[.slice none 0 0, .int .i64 0, .int .i64 0, .int .i64 0] 24)) w5.heap.size none 0 0 0 0 0 := Gm.new w5 none 0 0 0 0 0
    have K33 := K3.old (Obj.cells #[.slice none 0 0, .int .i64 0, .int .i64 0, .int .i64 0] 24)
    have B55 := B5.alloc B5.size (Obj.cells #[.slice none 0 0, .int .i64 0, .int .i64 0, .int .i64 0] 24)
    have hlt := K3.lt
    have hsz := B5.size
    obtain ⟨ob, hob⟩ : ∃ ob, w5.heap.size = ob := ⟨_, rfl⟩
    rw [hob] at K8 hlt hsz
    have HOB := hide hob
    clear hob
    go_upto_region 3 with (refine wpList_store_gm rfl (.tmp 8) (.tmp 21) rfl ob (by first | rfl | (rw [← HOB.out]; rfl)) rfl K8 ?_; intro w6 k8 kk)
    try rw [HOB.out]
    have K36 := K33.keeps kk (by omega)
    have B6 := B55.trans ((kk.mono (Y := fun k => w.heap.size ≤ k) (fun k _ e => by omega)).below (by have := B55.size; omega) (fun k hk e => by omega))
    clear kk K33 B55 K3 B5 K8
    go_wp2_with (refine wpList_load_gm rfl (.tmp 3) rfl w.heap.size rfl K36 ?_)
    refine (GammonMay_any a 26 c P W B t _ (HRD.out.mono B6)).mono ?_
    rintro e w7 ⟨rfl, hb⟩
    have K37 := K36.below hb K36.lt
    have K87 := k8.below hb k8.lt
    have B7 := B6.trans (hb.mono B6.size)
    clear hb K36 B6 k8
    rw [hm]
    have q1 : ¬ (24 : Int) < (f : Int) := by omega
    have q2 : ¬ (p : Int) < 1 := by omega
    have q3 : ¬ (6 : Int) < (p : Int) := by omega
    go_wp2_with (refine wpList_load_gm rfl (.tmp 3) rfl w.heap.size rfl K37 ?_)
    refine (StepOf_any a c P W B t f p ht hf hp _ (HRD.out.mono B7) HM.out).mono ?_
    rintro e w8 ⟨g2, c9, Q2, W2, B2, ok, rfl, R8, hs, hg2, hb⟩
    have K88 := K87.below hb K87.lt
    have B8 := B7.trans (hb.mono B7.size)
    rw [HV] at hs
    obtain rfl : ok = false := by cases ok with | false => rfl | true => simp at hs
    clear hb K37 K87 B7 hs HV R8
    have KX : Gm (w8.alloc (Obj.cells #[.slice none 0 0, .int .i64 0, .int .i64 0, .int .i64 0] 24)) w8.heap.size none 0 0 0 0 0 := Gm.new w8 none 0 0 0 0 0
    have K89 := K88.old (Obj.cells #[.slice none 0 0, .int .i64 0, .int .i64 0, .int .i64 0] 24)
    have B89 := B8.alloc B8.size (Obj.cells #[.slice none 0 0, .int .i64 0, .int .i64 0, .int .i64 0] 24)
    have hlt8 := K88.lt
    have hsz8 := B8.size
    go_upto_region 10 with (refine wpList_store_gm rfl (.tmp 10) (.tmp 63) rfl w8.heap.size rfl rfl KX ?_; intro w9 k10 kk)
    have K87 := K89.keeps kk (by omega)
    have B7 := B89.trans ((kk.mono (Y := fun k => w.heap.size ≤ k) (fun k _ e => by omega)).below (by have := B89.size; omega) (fun k hk e => by omega))
    clear kk K88 B8 K89 B89 KX k10 hsz8 hlt8
    go_wp2_with (refine wpList_load_gm rfl (.tmp 8) rfl ob rfl K87 ?_)
    refine (noGammon_yes none 0 _).mono ?_
    rintro e w10 ⟨rfl, hb⟩
    have B8 := B7.trans (hb.mono B7.size)
    go_wp2
    go_ret
    exact ⟨rfl, B8⟩
  
  · have K3 := K32.below hb K32.lt
    have B5 := B4.trans (hb.mono B4.size)
    clear hb K32 B4 R2
    have K8 : Gm (w5.alloc (Obj.cells #[.slice none 0 0, .int .i64 0, .int .i64 0, .int .i64 0] 24)) w5.heap.size none 0 0 0 0 0 := Gm.new w5 none 0 0 0 0 0
    have K33 := K3.old (Obj.cells #[.slice none 0 0, .int .i64 0, .int .i64 0, .int .i64 0] 24)
    have B55 := B5.alloc B5.size (Obj.cells #[.slice none 0 0, .int .i64 0, .int .i64 0, .int .i64 0] 24)
    have hlt := K3.lt
    have hsz := B5.size
    obtain ⟨ob, hob⟩ : ∃ ob, w5.heap.size = ob := ⟨_, rfl⟩
    rw [hob] at K8 hlt hsz
    have HOB := hide hob
    clear hob
    go_upto_region 3 with (refine wpList_store_gm rfl (.tmp 8) (.tmp 21) rfl ob (by first | rfl | (rw [← HOB.out]; rfl)) rfl K8 ?_; intro w6 k8 kk)
    try rw [HOB.out]
    have K36 := K33.keeps kk (by omega)
    have B6 := B55.trans ((kk.mono (Y := fun k => w.heap.size ≤ k) (fun k _ e => by omega)).below (by have := B55.size; omega) (fun k hk e => by omega))
    have RG6 := (RG.mono ((Below.refl _ w5).alloc (Nat.le_refl _) _)).keeps kk (fun b off e => by have := RG.cells (by omega); obtain ⟨b2, o2, e2, hc2⟩ := this; have h3 := World.block_lt_of_cell? w5 _ (hc2 0 (by omega)); have h4 := HOB.out; simp at e e2; simp at h3; omega)
    clear kk K33 B55 K3 B5 K8
    go_wp2_with (refine wpList_load_gm rfl (.tmp 3) rfl w.heap.size rfl K36 ?_)
    refine (GammonMay_any a 26 c P W B t _ (HRD.out.mono B6)).mono ?_
    rintro e w7 ⟨rfl, hb⟩
    have K37 := K36.below hb K36.lt
    have K87 := k8.below hb k8.lt
    have B7 := B6.trans (hb.mono B6.size)
    have RG7 := RG6.mono hb
    clear hb K36 B6 k8
    rw [hm]
    have q1 : ¬ (24 : Int) < (f : Int) := by omega
    have q2 : ¬ (p : Int) < 1 := by omega
    have q3 : ¬ (6 : Int) < (p : Int) := by omega
    go_wp2_with (refine wpList_load_gm rfl (.tmp 3) rfl w.heap.size rfl K37 ?_)
    refine (StepOf_any a c P W B t f p ht hf hp _ (HRD.out.mono B7) HM.out).mono ?_
    rintro e w8 ⟨g2, c9, Q2, W2, B2, ok, rfl, R8, hs, hg2, hb⟩
    have K88 := K87.below hb K87.lt
    have B8 := B7.trans (hb.mono B7.size)
    rw [HV] at hs
    obtain rfl : ok = true := by cases ok with | true => rfl | false => simp at hs
    simp only [if_true, Option.some.injEq, Prod.mk.injEq] at hs
    obtain ⟨rfl, rfl, rfl⟩ := hs
    have RG8 := RG7.mono hb
    clear hb K37 K87 B7 HV
    have KX : Gm (w8.alloc (Obj.cells #[.slice none 0 0, .int .i64 0, .int .i64 0, .int .i64 0] 24)) w8.heap.size none 0 0 0 0 0 := Gm.new w8 none 0 0 0 0 0
    have K89 := K88.old (Obj.cells #[.slice none 0 0, .int .i64 0, .int .i64 0, .int .i64 0] 24)
    have B89 := B8.alloc B8.size (Obj.cells #[.slice none 0 0, .int .i64 0, .int .i64 0, .int .i64 0] 24)
    have hlt8 := K88.lt
    have hsz8 := B8.size
    obtain ⟨o2, ho2⟩ : ∃ o2, w8.heap.size = o2 := ⟨_, rfl⟩
    have RA := RG8.mono ((Below.refl _ w8).alloc (Nat.le_refl _) (Obj.cells #[.slice none 0 0, .int .i64 0, .int .i64 0, .int .i64 0] 24))
    have RB := R8.mono ((Below.refl _ w8).alloc (Nat.le_refl _) (Obj.cells #[.slice none 0 0, .int .i64 0, .int .i64 0, .int .i64 0] 24))
    have hga : g < w8.heap.size := by obtain ⟨b2, o2, e2, hc2⟩ := RG8.cells (by omega); have h3 := World.block_lt_of_cell? w8 _ (hc2 0 (by omega)); simp at e2; simp at h3; omega
    have hgb : g2 < w8.heap.size := by obtain ⟨b2, o2, e2, hc2⟩ := R8.cells (by omega); have h3 := World.block_lt_of_cell? w8 _ (hc2 0 (by omega)); simp at e2; simp at h3; omega
    rw [ho2] at KX hlt8 hsz8 hga hgb
    have HO2 := hide ho2
    clear ho2 RG RG6 RG7 RG8 R8
    go_upto_region 10 with (refine wpList_store_gm rfl (.tmp 10) (.tmp 63) rfl o2 (by first | rfl | (rw [← HO2.out]; rfl)) rfl KX ?_; intro w9 k10 kk)
    try rw [HO2.out]
    have K87 := K89.keeps kk (by omega)
    have B7 := B89.trans ((kk.mono (Y := fun k => w.heap.size ≤ k) (fun k _ e => by omega)).below (by have := B89.size; omega) (fun k hk e => by omega))
    have RA9 := RA.keeps kk (fun b off e => by simp at e; omega)
    have RB9 := RB.keeps kk (fun b off e => by simp at e; omega)
    clear kk K88 B8 K89 B89 KX RA RB
    go_wp2_with (first
      | refine wpList_load_gm rfl (.tmp 8) rfl ob rfl K87 ?_
      | refine wpList_load_gm rfl (.tmp 10) rfl o2 rfl k10 ?_)
    refine (SameGammon_yes _ _ _ _ _ _ _ _ _ RA9 RB9).mono ?_
    rintro e w10 ⟨rfl, hb⟩
    have B8 := B7.trans (hb.mono B7.size)
    go_wp2
    go_ret
    exact ⟨rfl, B8⟩
  

theorem steps_any (a : Option Addr) (n c : Nat) (P : List Int) (W B T f p : Int) (w : World) (h : Rd w a n c P) (hr : n * 8 ≤ 140737488351232) (hP : ∀ z ∈ P, -9223372036854775808 ≤ z ∧ z ≤ 9223372036854775807) :
    Calls Try.prog 3 #[.agg (gmA a n c W B T), .int .i64 f, .int .i64 p] w fun e w' => e = .returned (.bool true) ∧ Below w.heap.size w w' := by
  cases hm : mayG P W B T with
  | false => exact steps_state a n c P W B T f p w h hr hP hm
  | true =>
    by_cases h1 : f < 0
    · exact steps_range0 a n c P W B T f p w h hr hP hm h1
    by_cases h2 : 25 ≤ f
    · exact steps_range1 a n c P W B T f p w h hr hP hm h1 h2
    by_cases h3 : p < 1
    · exact steps_range2 a n c P W B T f p w h hr hP hm h1 h2 h3
    by_cases h4 : 6 < p
    · exact steps_range3 a n c P W B T f p w h hr hP hm h1 h2 h3 h4
    have HM : mayP P W B T := by simpa [mayG] using hm
    have hT := HM.T1
    have hl : n = 26 := by rw [← h.len]; exact HM.1
    subst hl
    obtain ⟨t, rfl⟩ : ∃ t : Nat, T = t := ⟨T.toNat, by omega⟩
    obtain ⟨f', rfl⟩ : ∃ f' : Nat, f = f' := ⟨f.toNat, by omega⟩
    obtain ⟨p', rfl⟩ : ∃ p' : Nat, p = p' := ⟨p.toNat, by omega⟩
    exact steps_go a c P W B t f' p' w h hr hP hm (by omega) (by omega) (by omega)

end Go.Proofs.Ytmboikpcbkiepaa
