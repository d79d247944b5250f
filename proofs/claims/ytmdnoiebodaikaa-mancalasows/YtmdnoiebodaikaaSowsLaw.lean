/-
  The law on sowing, walked. No conditions beyond those that each theorem bears.
-/
import Derived.Test.YtmdnoiebodaikaaSowF
import Derived.Test.YtmdnoiebodaikaaSOf
namespace Go.Proofs.Ytmdnoiebodaikaa
open Go.RowKit

set_option maxRecDepth 100000 in
set_option maxHeartbeats 2000000 in
theorem sows_state (a : Option Addr) (n c : Nat) (t : Int) (S : List Int) (w : World) (hR : Rd w a n c S) (hr : n * 8 ≤ 140737488351232) (ht1 : -9223372036854775808 ≤ t) (ht2 : t ≤ 9223372036854775807) (hm : Hid (mayB S t = false)) (pit : Int) :
    Calls Try.prog 4 #[.agg (mA a n c t), .int .i64 pit] w fun e w' => e = .returned (.bool true) ∧ Below w.heap.size w w' := by
  obtain ⟨w0, hw0⟩ : ∃ w0, w.alloc (Obj.cells (mA a n c t) 24) = w0 := ⟨_, rfl⟩
  have M0 : Mn w0 w.heap.size a n c t := by rw [← hw0]; exact Mn.new w a n c t
  have B0 : Below w.heap.size w w0 := by rw [← hw0]; exact (Below.refl _ w).alloc (Nat.le_refl _) _
  obtain ⟨b, hbe⟩ : ∃ b, w.heap.size = b := ⟨_, rfl⟩
  rw [hbe] at M0
  have HM0 := hide M0
  have HB0 := hide B0
  have HR0 := hide (hR.mono B0)
  clear M0 B0 hR
  go_enter Try.func4, Try.ntmps4
  go_wp2_with (first | refine wpList_load_mn rfl _ rfl b rfl HM0.out ?_)
  refine (seeds_any a n c t S _ HR0.out hr).mono ?_
  rintro e w1 ⟨a1, c1, rfl, hR1, hw⟩
  have HM1 := hide (HM0.out.below hw HM0.out.lt)
  have HB1 := hide (HB0.out.trans (hw.mono HB0.out.size))
  have HR1 := hide (HR0.out.mono hw)
  have HS1 := hide hR1
  clear hw hR1 HM0 HB0 HR0
  go_wp2_with fail
  refine (Sow_state a1 n c1 t S _ HS1.out ht1 ht2 hm pit).mono ?_
  rintro e w2 ⟨rfl, hw⟩
  have HM2 := HM1.out.below hw HM1.out.lt
  have HB2 := HB1.out.trans (hw.mono HB1.out.size)
  have HR2 := HR1.out.mono hw
  have HX2 := Rd.of_nil w2
  have hb2 := HM2.lt
  have MX := Mn.new w2 none 0 0 0
  have AB := (Below.refl w2.heap.size w2).alloc (Nat.le_refl _) (Obj.cells (mA none 0 0 0) 24)
  have HM3 := hide (HM2.below AB HM2.lt)
  have HB3 := hide (HB2.trans (AB.mono HB2.size))
  have HR3 := hide (HR2.mono AB)
  have HX3 := hide (HX2.mono AB)
  have HMX := hide MX
  clear hw HM2 HB2 HR2 HX2 MX AB HM1 HB1 HR1 HS1
  go_upto_region 2 with fail
  obtain ⟨x, hx⟩ : ∃ x, w2.heap.size = x := ⟨_, rfl⟩
  obtain ⟨w3, hw3⟩ : ∃ w3, w2.alloc (Obj.cells (mA none 0 0 0) 24) = w3 := ⟨_, rfl⟩
  rw [hw3] at HM3 HB3 HR3 HX3 HMX ⊢
  rw [hx] at HMX hb2 ⊢
  clear hw3 hx
  go_wp2_with (first | refine wpList_load_mn rfl _ rfl b rfl HM3.out ?_)
  refine (MMay_any a n c t S _ HR3.out).mono ?_
  rintro e w4 ⟨rfl, hw⟩
  rw [hm.out]
  have HM4 := hide (HM3.out.below hw HM3.out.lt)
  have HB4 := hide (HB3.out.trans (hw.mono HB3.out.size))
  have HR4 := hide (HR3.out.mono hw)
  have HX4 := hide (HX3.out.mono hw)
  have HMX4 := hide (HMX.out.below hw HMX.out.lt)
  clear hw HM3 HB3 HR3 HX3 HMX
  have x0 := HMX4.out.seeds
  have x1 := HMX4.out.turn
  go_wp2
  go_ret
  exact ⟨rfl, by first | exact HB4.out | (rw [← hbe]; exact HB4.out)⟩

set_option maxRecDepth 100000 in
set_option maxHeartbeats 2000000 in
theorem sows_over (a : Option Addr) (n c : Nat) (p u : Nat) (S : List Int) (w : World) (hR : Rd w a n c S) (hr : n * 8 ≤ 140737488351232) (hn : Hid (n = 2 * (p + 1))) (hlh : Hid (S.length = 2 * (p + 1))) (hp : p ≤ 6) (hu : u ≤ 1) (hf : Fit p S) (hm : Hid (mayB S (u : Int) = true)) (hov : Hid (overB p S = true)) (pit : Int) :
    Calls Try.prog 4 #[.agg (mA a n c u), .int .i64 pit] w fun e w' => e = .returned (.bool true) ∧ Below w.heap.size w w' := by
  obtain ⟨w0, hw0⟩ : ∃ w0, w.alloc (Obj.cells (mA a n c u) 24) = w0 := ⟨_, rfl⟩
  have M0 : Mn w0 w.heap.size a n c u := by rw [← hw0]; exact Mn.new w a n c u
  have B0 : Below w.heap.size w w0 := by rw [← hw0]; exact (Below.refl _ w).alloc (Nat.le_refl _) _
  obtain ⟨b, hbe⟩ : ∃ b, w.heap.size = b := ⟨_, rfl⟩
  rw [hbe] at M0
  have HM0 := hide M0
  have HB0 := hide B0
  have HR0 := hide (hR.mono B0)
  clear M0 B0 hR
  go_enter Try.func4, Try.ntmps4
  go_wp2_with (first | refine wpList_load_mn rfl _ rfl b rfl HM0.out ?_)
  refine (seeds_any a n c u S _ HR0.out hr).mono ?_
  rintro e w1 ⟨a1, c1, rfl, hR1, hw⟩
  have HM1 := hide (HM0.out.below hw HM0.out.lt)
  have HB1 := hide (HB0.out.trans (hw.mono HB0.out.size))
  have HR1 := hide (HR0.out.mono hw)
  have HS1 := hide hR1
  clear hw hR1 HM0 HB0 HR0
  go_wp2_with fail
  refine (Sow_over a1 n c1 p u S _ HS1.out hn hlh hp hu hf hm hov pit).mono ?_
  rintro e w2 ⟨rfl, hw⟩
  have HM2 := HM1.out.below hw HM1.out.lt
  have HB2 := HB1.out.trans (hw.mono HB1.out.size)
  have HR2 := HR1.out.mono hw
  have HX2 := Rd.of_nil w2
  have hb2 := HM2.lt
  have MX := Mn.new w2 none 0 0 0
  have AB := (Below.refl w2.heap.size w2).alloc (Nat.le_refl _) (Obj.cells (mA none 0 0 0) 24)
  have HM3 := hide (HM2.below AB HM2.lt)
  have HB3 := hide (HB2.trans (AB.mono HB2.size))
  have HR3 := hide (HR2.mono AB)
  have HX3 := hide (HX2.mono AB)
  have HMX := hide MX
  clear hw HM2 HB2 HR2 HX2 MX AB HM1 HB1 HR1 HS1
  go_upto_region 2 with fail
  obtain ⟨x, hx⟩ : ∃ x, w2.heap.size = x := ⟨_, rfl⟩
  obtain ⟨w3, hw3⟩ : ∃ w3, w2.alloc (Obj.cells (mA none 0 0 0) 24) = w3 := ⟨_, rfl⟩
  rw [hw3] at HM3 HB3 HR3 HX3 HMX ⊢
  rw [hx] at HMX hb2 ⊢
  clear hw3 hx
  go_wp2_with (first | refine wpList_load_mn rfl _ rfl b rfl HM3.out ?_)
  refine (MMay_any a n c u S _ HR3.out).mono ?_
  rintro e w4 ⟨rfl, hw⟩
  rw [hm.out]
  have HM4 := hide (HM3.out.below hw HM3.out.lt)
  have HB4 := hide (HB3.out.trans (hw.mono HB3.out.size))
  have HR4 := hide (HR3.out.mono hw)
  have HX4 := hide (HX3.out.mono hw)
  have HMX4 := hide (HMX.out.below hw HMX.out.lt)
  clear hw HM3 HB3 HR3 HX3 HMX
  go_wp2_with (first | refine wpList_load_mn rfl _ rfl b rfl HM4.out ?_)
  refine (SowOf_over a n c p u S _ HR4.out hn.out.symm hp hf hov pit).mono ?_
  rintro e w5 ⟨rfl, hw⟩
  have HB5 := HB4.out.trans (hw.mono HB4.out.size)
  have HX5 := HX4.out.mono hw
  have HMX5 := HMX4.out.below hw HMX4.out.lt
  have HY5 := Rd.of_nil w5
  have hx5 := HMX5.lt
  have MY := Mn.new w5 none 0 0 0
  have AB := (Below.refl w5.heap.size w5).alloc (Nat.le_refl _) (Obj.cells (mA none 0 0 0) 24)
  have HB6 := hide (HB5.trans (AB.mono HB5.size))
  have HX6 := hide (HX5.mono AB)
  have HY6 := hide (HY5.mono AB)
  have HMX6 := hide (HMX5.below AB HMX5.lt)
  have HMY6 := hide MY
  clear hw HB5 HX5 HMX5 HY5 MY AB HM4 HB4 HR4 HX4 HMX4
  go_upto_region 5 with fail
  obtain ⟨y, hy⟩ : ∃ y, w5.heap.size = y := ⟨_, rfl⟩
  obtain ⟨w6, hw6⟩ : ∃ w6, w5.alloc (Obj.cells (mA none 0 0 0) 24) = w6 := ⟨_, rfl⟩
  rw [hw6] at HB6 HX6 HY6 HMX6 HMY6 ⊢
  rw [hy] at HMY6 ⊢
  clear hw6 hy
  go_wp2_with (first | refine wpList_load_mn rfl _ rfl x rfl HMX6.out ?_ | refine wpList_load_mn rfl _ rfl y rfl HMY6.out ?_)
  refine (sameSeeds_any _ _ _ _ _ _ _ _ _ _ _ HX6.out HY6.out rfl rfl).mono ?_
  rintro e w7 ⟨rfl, hw⟩
  have HB7 := hide (HB6.out.trans (hw.mono HB6.out.size))
  clear hw
  go_wp2
  go_ret
  exact ⟨rfl, by first | exact HB7.out | (rw [← hbe]; exact HB7.out)⟩

set_option maxRecDepth 100000 in
set_option maxHeartbeats 2000000 in
theorem sows_range (a : Option Addr) (n c : Nat) (p u : Nat) (S : List Int) (w : World) (hR : Rd w a n c S) (hr : n * 8 ≤ 140737488351232) (hn : Hid (n = 2 * (p + 1))) (hlh : Hid (S.length = 2 * (p + 1))) (hp : p ≤ 6) (hu : u ≤ 1) (hf : Fit p S) (hm : Hid (mayB S (u : Int) = true)) (hov : Hid (overB p S = false)) (pit : Int) (hrg : pit < 0 ∨ (p : Int) ≤ pit) :
    Calls Try.prog 4 #[.agg (mA a n c u), .int .i64 pit] w fun e w' => e = .returned (.bool true) ∧ Below w.heap.size w w' := by
  obtain ⟨w0, hw0⟩ : ∃ w0, w.alloc (Obj.cells (mA a n c u) 24) = w0 := ⟨_, rfl⟩
  have M0 : Mn w0 w.heap.size a n c u := by rw [← hw0]; exact Mn.new w a n c u
  have B0 : Below w.heap.size w w0 := by rw [← hw0]; exact (Below.refl _ w).alloc (Nat.le_refl _) _
  obtain ⟨b, hbe⟩ : ∃ b, w.heap.size = b := ⟨_, rfl⟩
  rw [hbe] at M0
  have HM0 := hide M0
  have HB0 := hide B0
  have HR0 := hide (hR.mono B0)
  clear M0 B0 hR
  go_enter Try.func4, Try.ntmps4
  go_wp2_with (first | refine wpList_load_mn rfl _ rfl b rfl HM0.out ?_)
  refine (seeds_any a n c u S _ HR0.out hr).mono ?_
  rintro e w1 ⟨a1, c1, rfl, hR1, hw⟩
  have HM1 := hide (HM0.out.below hw HM0.out.lt)
  have HB1 := hide (HB0.out.trans (hw.mono HB0.out.size))
  have HR1 := hide (HR0.out.mono hw)
  have HS1 := hide hR1
  clear hw hR1 HM0 HB0 HR0
  go_wp2_with fail
  refine (Sow_range a1 n c1 p u S _ HS1.out hn hlh hp hu hf hm hov pit hrg).mono ?_
  rintro e w2 ⟨rfl, hw⟩
  have HM2 := HM1.out.below hw HM1.out.lt
  have HB2 := HB1.out.trans (hw.mono HB1.out.size)
  have HR2 := HR1.out.mono hw
  have HX2 := Rd.of_nil w2
  have hb2 := HM2.lt
  have MX := Mn.new w2 none 0 0 0
  have AB := (Below.refl w2.heap.size w2).alloc (Nat.le_refl _) (Obj.cells (mA none 0 0 0) 24)
  have HM3 := hide (HM2.below AB HM2.lt)
  have HB3 := hide (HB2.trans (AB.mono HB2.size))
  have HR3 := hide (HR2.mono AB)
  have HX3 := hide (HX2.mono AB)
  have HMX := hide MX
  clear hw HM2 HB2 HR2 HX2 MX AB HM1 HB1 HR1 HS1
  go_upto_region 2 with fail
  obtain ⟨x, hx⟩ : ∃ x, w2.heap.size = x := ⟨_, rfl⟩
  obtain ⟨w3, hw3⟩ : ∃ w3, w2.alloc (Obj.cells (mA none 0 0 0) 24) = w3 := ⟨_, rfl⟩
  rw [hw3] at HM3 HB3 HR3 HX3 HMX ⊢
  rw [hx] at HMX hb2 ⊢
  clear hw3 hx
  go_wp2_with (first | refine wpList_load_mn rfl _ rfl b rfl HM3.out ?_)
  refine (MMay_any a n c u S _ HR3.out).mono ?_
  rintro e w4 ⟨rfl, hw⟩
  rw [hm.out]
  have HM4 := hide (HM3.out.below hw HM3.out.lt)
  have HB4 := hide (HB3.out.trans (hw.mono HB3.out.size))
  have HR4 := hide (HR3.out.mono hw)
  have HX4 := hide (HX3.out.mono hw)
  have HMX4 := hide (HMX.out.below hw HMX.out.lt)
  clear hw HM3 HB3 HR3 HX3 HMX
  go_wp2_with (first | refine wpList_load_mn rfl _ rfl b rfl HM4.out ?_)
  refine (SowOf_range a n c p u S _ HR4.out hn.out.symm hp hf hov pit hrg).mono ?_
  rintro e w5 ⟨rfl, hw⟩
  have HB5 := HB4.out.trans (hw.mono HB4.out.size)
  have HX5 := HX4.out.mono hw
  have HMX5 := HMX4.out.below hw HMX4.out.lt
  have HY5 := Rd.of_nil w5
  have hx5 := HMX5.lt
  have MY := Mn.new w5 none 0 0 0
  have AB := (Below.refl w5.heap.size w5).alloc (Nat.le_refl _) (Obj.cells (mA none 0 0 0) 24)
  have HB6 := hide (HB5.trans (AB.mono HB5.size))
  have HX6 := hide (HX5.mono AB)
  have HY6 := hide (HY5.mono AB)
  have HMX6 := hide (HMX5.below AB HMX5.lt)
  have HMY6 := hide MY
  clear hw HB5 HX5 HMX5 HY5 MY AB HM4 HB4 HR4 HX4 HMX4
  go_upto_region 5 with fail
  obtain ⟨y, hy⟩ : ∃ y, w5.heap.size = y := ⟨_, rfl⟩
  obtain ⟨w6, hw6⟩ : ∃ w6, w5.alloc (Obj.cells (mA none 0 0 0) 24) = w6 := ⟨_, rfl⟩
  rw [hw6] at HB6 HX6 HY6 HMX6 HMY6 ⊢
  rw [hy] at HMY6 ⊢
  clear hw6 hy
  go_wp2_with (first | refine wpList_load_mn rfl _ rfl x rfl HMX6.out ?_ | refine wpList_load_mn rfl _ rfl y rfl HMY6.out ?_)
  refine (sameSeeds_any _ _ _ _ _ _ _ _ _ _ _ HX6.out HY6.out rfl rfl).mono ?_
  rintro e w7 ⟨rfl, hw⟩
  have HB7 := hide (HB6.out.trans (hw.mono HB6.out.size))
  clear hw
  go_wp2
  go_ret
  exact ⟨rfl, by first | exact HB7.out | (rw [← hbe]; exact HB7.out)⟩

set_option maxRecDepth 100000 in
set_option maxHeartbeats 2000000 in
theorem sows_none (a : Option Addr) (n c : Nat) (p u : Nat) (S : List Int) (w : World) (hR : Rd w a n c S) (hr : n * 8 ≤ 140737488351232) (hn : Hid (n = 2 * (p + 1))) (hlh : Hid (S.length = 2 * (p + 1))) (hp : p ≤ 6) (hu : u ≤ 1) (hf : Fit p S) (hm : Hid (mayB S (u : Int) = true)) (hov : Hid (overB p S = false)) (i : Nat) (hi : i < p) (hz : Hid (S.getD (pl p u i) 0 = 0)) :
    Calls Try.prog 4 #[.agg (mA a n c u), .int .i64 i] w fun e w' => e = .returned (.bool true) ∧ Below w.heap.size w w' := by
  obtain ⟨w0, hw0⟩ : ∃ w0, w.alloc (Obj.cells (mA a n c u) 24) = w0 := ⟨_, rfl⟩
  have M0 : Mn w0 w.heap.size a n c u := by rw [← hw0]; exact Mn.new w a n c u
  have B0 : Below w.heap.size w w0 := by rw [← hw0]; exact (Below.refl _ w).alloc (Nat.le_refl _) _
  obtain ⟨b, hbe⟩ : ∃ b, w.heap.size = b := ⟨_, rfl⟩
  rw [hbe] at M0
  have HM0 := hide M0
  have HB0 := hide B0
  have HR0 := hide (hR.mono B0)
  clear M0 B0 hR
  go_enter Try.func4, Try.ntmps4
  go_wp2_with (first | refine wpList_load_mn rfl _ rfl b rfl HM0.out ?_)
  refine (seeds_any a n c u S _ HR0.out hr).mono ?_
  rintro e w1 ⟨a1, c1, rfl, hR1, hw⟩
  have HM1 := hide (HM0.out.below hw HM0.out.lt)
  have HB1 := hide (HB0.out.trans (hw.mono HB0.out.size))
  have HR1 := hide (HR0.out.mono hw)
  have HS1 := hide hR1
  clear hw hR1 HM0 HB0 HR0
  go_wp2_with fail
  refine (Sow_none a1 n c1 p u S _ HS1.out hn hlh hp hu hf hm hov i hi hz).mono ?_
  rintro e w2 ⟨rfl, hw⟩
  have HM2 := HM1.out.below hw HM1.out.lt
  have HB2 := HB1.out.trans (hw.mono HB1.out.size)
  have HR2 := HR1.out.mono hw
  have HX2 := Rd.of_nil w2
  have hb2 := HM2.lt
  have MX := Mn.new w2 none 0 0 0
  have AB := (Below.refl w2.heap.size w2).alloc (Nat.le_refl _) (Obj.cells (mA none 0 0 0) 24)
  have HM3 := hide (HM2.below AB HM2.lt)
  have HB3 := hide (HB2.trans (AB.mono HB2.size))
  have HR3 := hide (HR2.mono AB)
  have HX3 := hide (HX2.mono AB)
  have HMX := hide MX
  clear hw HM2 HB2 HR2 HX2 MX AB HM1 HB1 HR1 HS1
  go_upto_region 2 with fail
  obtain ⟨x, hx⟩ : ∃ x, w2.heap.size = x := ⟨_, rfl⟩
  obtain ⟨w3, hw3⟩ : ∃ w3, w2.alloc (Obj.cells (mA none 0 0 0) 24) = w3 := ⟨_, rfl⟩
  rw [hw3] at HM3 HB3 HR3 HX3 HMX ⊢
  rw [hx] at HMX hb2 ⊢
  clear hw3 hx
  go_wp2_with (first | refine wpList_load_mn rfl _ rfl b rfl HM3.out ?_)
  refine (MMay_any a n c u S _ HR3.out).mono ?_
  rintro e w4 ⟨rfl, hw⟩
  rw [hm.out]
  have HM4 := hide (HM3.out.below hw HM3.out.lt)
  have HB4 := hide (HB3.out.trans (hw.mono HB3.out.size))
  have HR4 := hide (HR3.out.mono hw)
  have HX4 := hide (HX3.out.mono hw)
  have HMX4 := hide (HMX.out.below hw HMX.out.lt)
  clear hw HM3 HB3 HR3 HX3 HMX
  go_wp2_with (first | refine wpList_load_mn rfl _ rfl b rfl HM4.out ?_)
  refine (SowOf_none a n c p u S _ HR4.out hn.out.symm hp hf hu hov i hi hz.out).mono ?_
  rintro e w5 ⟨rfl, hw⟩
  have HB5 := HB4.out.trans (hw.mono HB4.out.size)
  have HX5 := HX4.out.mono hw
  have HMX5 := HMX4.out.below hw HMX4.out.lt
  have HY5 := Rd.of_nil w5
  have hx5 := HMX5.lt
  have MY := Mn.new w5 none 0 0 0
  have AB := (Below.refl w5.heap.size w5).alloc (Nat.le_refl _) (Obj.cells (mA none 0 0 0) 24)
  have HB6 := hide (HB5.trans (AB.mono HB5.size))
  have HX6 := hide (HX5.mono AB)
  have HY6 := hide (HY5.mono AB)
  have HMX6 := hide (HMX5.below AB HMX5.lt)
  have HMY6 := hide MY
  clear hw HB5 HX5 HMX5 HY5 MY AB HM4 HB4 HR4 HX4 HMX4
  go_upto_region 5 with fail
  obtain ⟨y, hy⟩ : ∃ y, w5.heap.size = y := ⟨_, rfl⟩
  obtain ⟨w6, hw6⟩ : ∃ w6, w5.alloc (Obj.cells (mA none 0 0 0) 24) = w6 := ⟨_, rfl⟩
  rw [hw6] at HB6 HX6 HY6 HMX6 HMY6 ⊢
  rw [hy] at HMY6 ⊢
  clear hw6 hy
  go_wp2_with (first | refine wpList_load_mn rfl _ rfl x rfl HMX6.out ?_ | refine wpList_load_mn rfl _ rfl y rfl HMY6.out ?_)
  refine (sameSeeds_any _ _ _ _ _ _ _ _ _ _ _ HX6.out HY6.out rfl rfl).mono ?_
  rintro e w7 ⟨rfl, hw⟩
  have HB7 := hide (HB6.out.trans (hw.mono HB6.out.size))
  clear hw
  go_wp2
  go_ret
  exact ⟨rfl, by first | exact HB7.out | (rw [← hbe]; exact HB7.out)⟩

set_option maxRecDepth 100000 in
set_option maxHeartbeats 2000000 in
theorem sows_ok (a : Option Addr) (n c : Nat) (p u : Nat) (S : List Int) (w : World) (hR : Rd w a n c S) (hr : n * 8 ≤ 140737488351232) (hn : Hid (n = 2 * (p + 1))) (hlh : Hid (S.length = 2 * (p + 1))) (hp : p ≤ 6) (hu : u ≤ 1) (hf : Fit p S) (hm : Hid (mayB S (u : Int) = true)) (hov : Hid (overB p S = false)) (i : Nat) (hi : i < p) (hz : Hid (S.getD (pl p u i) 0 ≠ 0)) :
    Calls Try.prog 4 #[.agg (mA a n c u), .int .i64 i] w fun e w' => e = .returned (.bool true) ∧ Below w.heap.size w w' := by
  obtain ⟨w0, hw0⟩ : ∃ w0, w.alloc (Obj.cells (mA a n c u) 24) = w0 := ⟨_, rfl⟩
  have M0 : Mn w0 w.heap.size a n c u := by rw [← hw0]; exact Mn.new w a n c u
  have B0 : Below w.heap.size w w0 := by rw [← hw0]; exact (Below.refl _ w).alloc (Nat.le_refl _) _
  obtain ⟨b, hbe⟩ : ∃ b, w.heap.size = b := ⟨_, rfl⟩
  rw [hbe] at M0
  have HM0 := hide M0
  have HB0 := hide B0
  have HR0 := hide (hR.mono B0)
  clear M0 B0 hR
  go_enter Try.func4, Try.ntmps4
  go_wp2_with (first | refine wpList_load_mn rfl _ rfl b rfl HM0.out ?_)
  refine (seeds_any a n c u S _ HR0.out hr).mono ?_
  rintro e w1 ⟨a1, c1, rfl, hR1, hw⟩
  have HM1 := hide (HM0.out.below hw HM0.out.lt)
  have HB1 := hide (HB0.out.trans (hw.mono HB0.out.size))
  have HR1 := hide (HR0.out.mono hw)
  have HS1 := hide hR1
  clear hw hR1 HM0 HB0 HR0
  go_wp2_with fail
  refine (Sow_ok a1 n c1 p u S _ HS1.out hn hlh hp hu hf hm hov i hi hz).mono ?_
  rintro e w2 ⟨a2, c2, rfl, hR2x, hw⟩
  rw [← hn.out] at hR2x ⊢
  obtain ⟨ut, hut⟩ : ∃ ut, sowT p u i S = ut := ⟨_, rfl⟩
  obtain ⟨ag, hag⟩ : ∃ ag, agB p u i S = ag := ⟨_, rfl⟩
  rw [hut, hag]
  have HUT := hide hut
  have HAG := hide hag
  clear hut hag
  have HM2 := HM1.out.below hw HM1.out.lt
  have HB2 := HB1.out.trans (hw.mono HB1.out.size)
  have HR2 := HR1.out.mono hw
  have HX2 := hR2x
  have hb2 := HM2.lt
  have MX := Mn.new w2 a2 n c2 ut
  have AB := (Below.refl w2.heap.size w2).alloc (Nat.le_refl _) (Obj.cells (mA a2 n c2 ut) 24)
  have HM3 := hide (HM2.below AB HM2.lt)
  have HB3 := hide (HB2.trans (AB.mono HB2.size))
  have HR3 := hide (HR2.mono AB)
  have HX3 := hide (HX2.mono AB)
  have HMX := hide MX
  clear hw hR2x HM2 HB2 HR2 HX2 MX AB HM1 HB1 HR1 HS1
  go_upto_region 2 with fail
  obtain ⟨x, hx⟩ : ∃ x, w2.heap.size = x := ⟨_, rfl⟩
  obtain ⟨w3, hw3⟩ : ∃ w3, w2.alloc (Obj.cells (mA a2 n c2 ut) 24) = w3 := ⟨_, rfl⟩
  rw [hw3] at HM3 HB3 HR3 HX3 HMX ⊢
  rw [hx] at HMX hb2 ⊢
  clear hw3 hx
  go_wp2_with (first | refine wpList_load_mn rfl _ rfl b rfl HM3.out ?_)
  refine (MMay_any a n c u S _ HR3.out).mono ?_
  rintro e w4 ⟨rfl, hw⟩
  rw [hm.out]
  have HM4 := hide (HM3.out.below hw HM3.out.lt)
  have HB4 := hide (HB3.out.trans (hw.mono HB3.out.size))
  have HR4 := hide (HR3.out.mono hw)
  have HX4 := hide (HX3.out.mono hw)
  have HMX4 := hide (HMX.out.below hw HMX.out.lt)
  clear hw HM3 HB3 HR3 HX3 HMX
  go_wp2_with (first | refine wpList_load_mn rfl _ rfl b rfl HM4.out ?_)
  refine (SowOf_ok a n c p u S _ HR4.out hn.out.symm hp hf hu hov i hi hz.out hr).mono ?_
  rintro e w5 ⟨a5, c5, rfl, hR5y, hw⟩
  rw [HUT.out, HAG.out]
  have HB5 := HB4.out.trans (hw.mono HB4.out.size)
  have HX5 := HX4.out.mono hw
  have HMX5 := HMX4.out.below hw HMX4.out.lt
  have HY5 := hR5y
  have hx5 := HMX5.lt
  have MY := Mn.new w5 a5 n c5 ut
  have AB := (Below.refl w5.heap.size w5).alloc (Nat.le_refl _) (Obj.cells (mA a5 n c5 ut) 24)
  have HB6 := hide (HB5.trans (AB.mono HB5.size))
  have HX6 := hide (HX5.mono AB)
  have HY6 := hide (HY5.mono AB)
  have HMX6 := hide (HMX5.below AB HMX5.lt)
  have HMY6 := hide MY
  clear hw hR5y HB5 HX5 HMX5 HY5 MY AB HM4 HB4 HR4 HX4 HMX4
  go_upto_region 5 with fail
  obtain ⟨y, hy⟩ : ∃ y, w5.heap.size = y := ⟨_, rfl⟩
  obtain ⟨w6, hw6⟩ : ∃ w6, w5.alloc (Obj.cells (mA a5 n c5 ut) 24) = w6 := ⟨_, rfl⟩
  rw [hw6] at HB6 HX6 HY6 HMX6 HMY6 ⊢
  rw [hy] at HMY6 ⊢
  clear hw6 hy
  have hag1 : (ag == ag) = true := by simp
  go_wp2_with (first | refine wpList_load_mn rfl _ rfl x rfl HMX6.out ?_ | refine wpList_load_mn rfl _ rfl y rfl HMY6.out ?_)
  refine (sameSeeds_any _ _ _ _ _ _ _ _ _ _ _ HX6.out HY6.out rfl rfl).mono ?_
  rintro e w7 ⟨rfl, hw⟩
  have HB7 := hide (HB6.out.trans (hw.mono HB6.out.size))
  clear hw
  go_wp2
  go_ret
  exact ⟨rfl, by first | exact HB7.out | (rw [← hbe]; exact HB7.out)⟩

theorem sows_any (a : Option Addr) (n c : Nat) (t : Int) (S : List Int) (pit : Int) (w : World) (hR : Rd w a n c S) (hr : n * 8 ≤ 140737488351232) (ht1 : -9223372036854775808 ≤ t) (ht2 : t ≤ 9223372036854775807) :
    Calls Try.prog 4 #[.agg (mA a n c t), .int .i64 pit] w fun e w' => e = .returned (.bool true) ∧ Below w.heap.size w w' := by
  cases hm : mayB S t with
  | false => exact sows_state a n c t S w hR hr ht1 ht2 hm pit
  | true =>
    obtain ⟨p, u, hp1, hp, hu, rfl, hl, hf⟩ := may_parts hm
    have hn : n = 2 * (p + 1) := by rw [← hR.len]; exact hl
    cases hov : overB p S with
    | true => exact sows_over a n c p u S w hR hr hn hl hp hu hf hm hov pit
    | false =>
      by_cases hrg : pit < 0 ∨ (p : Int) ≤ pit
      · exact sows_range a n c p u S w hR hr hn hl hp hu hf hm hov pit hrg
      · obtain ⟨i, rfl⟩ := Int.eq_ofNat_of_zero_le (show 0 ≤ pit by omega)
        by_cases hz : S.getD (pl p u i) 0 = 0
        · exact sows_none a n c p u S w hR hr hn hl hp hu hf hm hov i (by omega) hz
        · exact sows_ok a n c p u S w hR hr hn hl hp hu hf hm hov i (by omega) hz

end Go.Proofs.Ytmdnoiebodaikaa
