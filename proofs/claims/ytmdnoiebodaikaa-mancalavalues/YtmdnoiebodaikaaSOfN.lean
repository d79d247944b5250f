/-
  The document's sowing: what it refuses. No conditions beyond those that each theorem bears.
-/
import Derived.Test.YtmdnoiebodaikaaSMath
namespace Go.Proofs.Ytmdnoiebodaikaa
open Go.RowKit

set_option maxRecDepth 100000 in
set_option maxHeartbeats 4000000 in
theorem SowOf_over (a : Option Addr) (n c p t : Nat) (S : List Int) (w : World) (hR : Rd w a n c S) (hn : 2 * (p + 1) = n) (hp : p ≤ 6) (hf : Fit p S) (hov : Hid (overB p S = true)) (pit : Int) :
    Calls Try.prog 14 #[.agg (mA a n c t), .int .i64 pit] w fun e w' => e = .returned (.tuple #[.agg (mA none 0 0 0), .bool false, .int .i64 9]) ∧ Below w.heap.size w w' := by
  obtain ⟨w0, hw0⟩ : ∃ w0, (w.alloc (Obj.cells (mA a n c t) 24)).alloc (Obj.cells #[.slice none 0 0, .int .i64 0] 24) = w0 := ⟨_, rfl⟩
  have M0 : Mn w0 w.heap.size a n c t := by rw [← hw0]; exact (Mn.new w a n c t).old _
  have M1 : Mn w0 (w.heap.size + 1) none 0 0 0 := by
    rw [← hw0]
    have := Mn.new (w.alloc (Obj.cells (mA a n c t) 24)) none 0 0 0
    rw [World.size_alloc] at this
    exact this
  have B0 : Below w.heap.size w w0 := by rw [← hw0]; exact ((Below.refl _ w).alloc (Nat.le_refl _) _).alloc (by simp) _
  obtain ⟨b, hbe⟩ : ∃ b, w.heap.size = b := ⟨_, rfl⟩
  rw [hbe] at M0 M1
  have HM0 := hide M0
  have HM1 := hide M1
  have HB0 := hide B0
  have HR0 := hide (hR.mono B0)
  have m0 := M0.seeds
  have hq2 : (n : Int) / 2 = ((p + 1 : Nat) : Int) := by omega
  have hn14 : n ≤ 14 := by omega
  have HR := hide hR
  clear M0 M1 B0 hR
  go_enter Try.func14, Try.ntmps14
  go_wp2_with (first | refine wpList_load_mn rfl _ rfl b rfl HM0.out ?_)
  refine (MOver_any a n c p t S _ HR0.out hn hp hf).mono ?_
  rintro e w1 ⟨rfl, hw⟩
  rw [hov.out]
  have HM0' := hide (HM0.out.below hw HM0.out.lt)
  have HM1' := hide (HM1.out.below hw HM1.out.lt)
  have HB1 := hide (HB0.out.trans (hw.mono HB0.out.size))
  have HR1 := hide (HR0.out.mono hw)
  have m0' := HM0'.out.seeds
  have m1' := HM0'.out.turn
  clear hw HM0 HM1 HB0 HR0 m0
  go_wp2_with (first | (refine wpList_store_mn rfl _ _ rfl (b + 1) rfl rfl HM1'.out ?_; intro w2 m2 k2))
  refine bodyPost_ret (results_mn2 rfl _ _ (b + 1) rfl m2) rfl ⟨rfl, ?_⟩
  exact HB1.out.trans (k2.below HB1.out.size (fun k hk e => by omega))

set_option maxRecDepth 100000 in
set_option maxHeartbeats 4000000 in
theorem SowOf_range (a : Option Addr) (n c p t : Nat) (S : List Int) (w : World) (hR : Rd w a n c S) (hn : 2 * (p + 1) = n) (hp : p ≤ 6) (hf : Fit p S) (hov : Hid (overB p S = false)) (pit : Int) (hr : pit < 0 ∨ (p : Int) ≤ pit) :
    Calls Try.prog 14 #[.agg (mA a n c t), .int .i64 pit] w fun e w' => e = .returned (.tuple #[.agg (mA none 0 0 0), .bool false, .int .i64 3]) ∧ Below w.heap.size w w' := by
  obtain ⟨w0, hw0⟩ : ∃ w0, (w.alloc (Obj.cells (mA a n c t) 24)).alloc (Obj.cells #[.slice none 0 0, .int .i64 0] 24) = w0 := ⟨_, rfl⟩
  have M0 : Mn w0 w.heap.size a n c t := by rw [← hw0]; exact (Mn.new w a n c t).old _
  have M1 : Mn w0 (w.heap.size + 1) none 0 0 0 := by
    rw [← hw0]
    have := Mn.new (w.alloc (Obj.cells (mA a n c t) 24)) none 0 0 0
    rw [World.size_alloc] at this
    exact this
  have B0 : Below w.heap.size w w0 := by rw [← hw0]; exact ((Below.refl _ w).alloc (Nat.le_refl _) _).alloc (by simp) _
  obtain ⟨b, hbe⟩ : ∃ b, w.heap.size = b := ⟨_, rfl⟩
  rw [hbe] at M0 M1
  have HM0 := hide M0
  have HM1 := hide M1
  have HB0 := hide B0
  have HR0 := hide (hR.mono B0)
  have m0 := M0.seeds
  have hq2 : (n : Int) / 2 = ((p + 1 : Nat) : Int) := by omega
  have hn14 : n ≤ 14 := by omega
  have HR := hide hR
  clear M0 M1 B0 hR
  go_enter Try.func14, Try.ntmps14
  go_wp2_with (first | refine wpList_load_mn rfl _ rfl b rfl HM0.out ?_)
  refine (MOver_any a n c p t S _ HR0.out hn hp hf).mono ?_
  rintro e w1 ⟨rfl, hw⟩
  rw [hov.out]
  have HM0' := hide (HM0.out.below hw HM0.out.lt)
  have HM1' := hide (HM1.out.below hw HM1.out.lt)
  have HB1 := hide (HB0.out.trans (hw.mono HB0.out.size))
  have HR1 := hide (HR0.out.mono hw)
  have m0' := HM0'.out.seeds
  have m1' := HM0'.out.turn
  clear hw HM0 HM1 HB0 HR0 m0
  go_wp2_with fail
  refine (within_no _ _ _ _ (by omega)).mono ?_
  rintro e w2 ⟨rfl, hw⟩
  subst w2
  go_wp2_with (first | (refine wpList_store_mn rfl _ _ rfl (b + 1) rfl rfl HM1'.out ?_; intro w2 m2 k2))
  refine bodyPost_ret (results_mn2 rfl _ _ (b + 1) rfl m2) rfl ⟨rfl, ?_⟩
  exact HB1.out.trans (k2.below HB1.out.size (fun k hk e => by omega))

set_option maxRecDepth 100000 in
set_option maxHeartbeats 4000000 in
theorem SowOf_none (a : Option Addr) (n c p t : Nat) (S : List Int) (w : World) (hR : Rd w a n c S) (hn : 2 * (p + 1) = n) (hp : p ≤ 6) (hf : Fit p S) (ht : t ≤ 1) (hov : Hid (overB p S = false)) (i : Nat) (hi : i < p) (hz : S.getD (pl p t i) 0 = 0) :
    Calls Try.prog 14 #[.agg (mA a n c t), .int .i64 i] w fun e w' => e = .returned (.tuple #[.agg (mA none 0 0 0), .bool false, .int .i64 10]) ∧ Below w.heap.size w w' := by
  have hmul : (t : Int) * ((p : Int) + 1) = ((t * (p + 1) : Nat) : Int) := by simp
  have hle : t * (p + 1) ≤ 7 := by
    have := Nat.mul_le_mul ht (show p + 1 ≤ 7 by omega)
    omega
  obtain ⟨u, hu⟩ : ∃ u, 1 - t = u := ⟨_, rfl⟩
  have hu1 : u ≤ 1 := by omega
  have h1t : 1 - (t : Int) = (u : Int) := by omega
  have hmul2 : (u : Int) * ((p : Int) + 1) = ((u * (p + 1) : Nat) : Int) := by simp
  have hle2 : u * (p + 1) ≤ 7 := by
    have := Nat.mul_le_mul hu1 (show p + 1 ≤ 7 by omega)
    omega
  have HPA : Hid (pl p t i = t * (p + 1) + i) := hide rfl
  have HPS : Hid (pl p t p = t * (p + 1) + p) := hide rfl
  have HPF : Hid (pl p (1 - t) p = u * (p + 1) + p) := hide (by rw [hu]; rfl)
  have ha := pl_lt (p := p) ht (show i ≤ p by omega)
  have hs := pl_lt (p := p) ht (Nat.le_refl p)
  generalize t * (p + 1) = X at *
  generalize u * (p + 1) = Y at *
  obtain ⟨a0, ha0⟩ : ∃ a0, pl p t i = a0 := ⟨_, rfl⟩
  obtain ⟨s, hse⟩ : ∃ s, pl p t p = s := ⟨_, rfl⟩
  obtain ⟨f, hfe⟩ : ∃ f, pl p (1 - t) p = f := ⟨_, rfl⟩
  have r1 : (X : Int) + (i : Int) = (a0 : Int) := by have := HPA.out; omega
  have r2 : (X : Int) + ((p : Int) + 1) - 1 = (s : Int) := by have := HPS.out; omega
  have r3 : (Y : Int) + ((p : Int) + 1) - 1 = (f : Int) := by have := HPF.out; omega
  rw [ha0] at ha hz
  rw [hse] at hs
  have HA0 := hide ha0
  have HSE := hide hse
  have HFE := hide hfe
  have HU := hide hu
  clear ha0 hse hfe HPA HPS HPF hu
  have ha' : (a0 : Int) < (n : Int) := by omega
  obtain ⟨w0, hw0⟩ : ∃ w0, (w.alloc (Obj.cells (mA a n c t) 24)).alloc (Obj.cells #[.slice none 0 0, .int .i64 0] 24) = w0 := ⟨_, rfl⟩
  have M0 : Mn w0 w.heap.size a n c t := by rw [← hw0]; exact (Mn.new w a n c t).old _
  have M1 : Mn w0 (w.heap.size + 1) none 0 0 0 := by
    rw [← hw0]
    have := Mn.new (w.alloc (Obj.cells (mA a n c t) 24)) none 0 0 0
    rw [World.size_alloc] at this
    exact this
  have B0 : Below w.heap.size w w0 := by rw [← hw0]; exact ((Below.refl _ w).alloc (Nat.le_refl _) _).alloc (by simp) _
  obtain ⟨b, hbe⟩ : ∃ b, w.heap.size = b := ⟨_, rfl⟩
  rw [hbe] at M0 M1
  have HM0 := hide M0
  have HM1 := hide M1
  have HB0 := hide B0
  have HR0 := hide (hR.mono B0)
  have m0 := M0.seeds
  have hq2 : (n : Int) / 2 = ((p + 1 : Nat) : Int) := by omega
  have hn14 : n ≤ 14 := by omega
  have HR := hide hR
  clear M0 M1 B0 hR
  go_enter Try.func14, Try.ntmps14
  go_wp2_with (first | refine wpList_load_mn rfl _ rfl b rfl HM0.out ?_)
  refine (MOver_any a n c p t S _ HR0.out hn hp hf).mono ?_
  rintro e w1 ⟨rfl, hw⟩
  rw [hov.out]
  have HM0' := hide (HM0.out.below hw HM0.out.lt)
  have HM1' := hide (HM1.out.below hw HM1.out.lt)
  have HB1 := hide (HB0.out.trans (hw.mono HB0.out.size))
  have HR1 := hide (HR0.out.mono hw)
  have m0' := HM0'.out.seeds
  have m1' := HM0'.out.turn
  clear hw HM0 HM1 HB0 HR0 m0
  go_wp2_with fail
  refine (within_yes _ _ _ _ (by omega) (by omega)).mono ?_
  rintro e w2 ⟨rfl, hw⟩
  subst w2
  obtain ⟨sb, off, hae, hc⟩ := HR1.out.cells (by omega)
  subst hae
  have c1 := hc a0 (by omega)
  have HC := hide hc
  clear hc
  rw [hz] at c1
  go_wp2_with (first | (refine wpList_store_mn rfl _ _ rfl (b + 1) rfl rfl HM1'.out ?_; intro w2 m2 k2))
  refine bodyPost_ret (results_mn2 rfl _ _ (b + 1) rfl m2) rfl ⟨rfl, ?_⟩
  exact HB1.out.trans (k2.below HB1.out.size (fun k hk e => by omega))

end Go.Proofs.Ytmdnoiebodaikaa
