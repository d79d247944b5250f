/-
  The law on values, walked. No conditions beyond those that each theorem bears.
-/
import Derived.Test.YtmdnoiebodaikaaValue
import Derived.Test.YtmdnoiebodaikaaRV
namespace Go.Proofs.Ytmdnoiebodaikaa
open Go.RowKit

set_option maxRecDepth 100000 in
set_option maxHeartbeats 2000000 in
theorem values_state (a : Option Addr) (n c : Nat) (t : Int) (S : List Int) (w : World) (hR : Rd w a n c S) (hr : n * 8 ≤ 140737488351232) (ht1 : -9223372036854775808 ≤ t) (ht2 : t ≤ 9223372036854775807) (hm : Hid (mayB S t = false)) :
    Calls Try.prog 5 #[.agg (mA a n c t)] w fun e w' => e = .returned (.bool true) ∧ Below w.heap.size w w' := by
  obtain ⟨w0, hw0⟩ : ∃ w0, w.alloc (Obj.cells (mA a n c t) 24) = w0 := ⟨_, rfl⟩
  have M0 : Mn w0 w.heap.size a n c t := by rw [← hw0]; exact Mn.new w a n c t
  have B0 : Below w.heap.size w w0 := by rw [← hw0]; exact (Below.refl _ w).alloc (Nat.le_refl _) _
  obtain ⟨b, hbe⟩ : ∃ b, w.heap.size = b := ⟨_, rfl⟩
  rw [hbe] at M0
  have HM0 := hide M0
  have HB0 := hide B0
  have HR0 := hide (hR.mono B0)
  clear M0 B0 hR
  go_enter Try.func5, Try.ntmps5
  go_wp2_with (first | refine wpList_load_mn rfl _ rfl b rfl HM0.out ?_)
  refine (seeds_any a n c t S _ HR0.out hr).mono ?_
  rintro e w1 ⟨a1, c1, rfl, hR1, hw⟩
  have HM1 := hide (HM0.out.below hw HM0.out.lt)
  have HB1 := hide (HB0.out.trans (hw.mono HB0.out.size))
  have HR1 := hide (HR0.out.mono hw)
  have HS1 := hide hR1
  clear hw hR1 HM0 HB0 HR0
  go_wp2_with fail
  refine (Value_state a1 n c1 t S _ HS1.out ht1 ht2 hm).mono ?_
  rintro e w2 ⟨rfl, hw⟩
  have HM2 := hide (HM1.out.below hw HM1.out.lt)
  have HB2 := hide (HB1.out.trans (hw.mono HB1.out.size))
  have HR2 := hide (HR1.out.mono hw)
  clear hw HM1 HB1 HR1 HS1
  go_wp2_with (first | refine wpList_load_mn rfl _ rfl b rfl HM2.out ?_)
  refine (MMay_any a n c t S _ HR2.out).mono ?_
  rintro e w3 ⟨rfl, hw⟩
  rw [hm.out]
  have HM3 := hide (HM2.out.below hw HM2.out.lt)
  have HB3 := hide (HB2.out.trans (hw.mono HB2.out.size))
  have HR3 := hide (HR2.out.mono hw)
  clear hw HM2 HB2 HR2
  go_wp2
  go_ret
  exact ⟨rfl, by first | exact HB3.out | (rw [← hbe]; exact HB3.out)⟩

set_option maxRecDepth 100000 in
set_option maxHeartbeats 2000000 in
theorem values_size (a : Option Addr) (n c : Nat) (p u : Nat) (S : List Int) (w : World) (hR : Rd w a n c S) (hr : n * 8 ≤ 140737488351232) (hn : Hid (n = 2 * (p + 1))) (hlh : Hid (S.length = 2 * (p + 1))) (hp : p ≤ 6) (hu : u ≤ 1) (hf : Fit p S) (hm : Hid (mayB S (u : Int) = true)) (hq : Hid (4 < inAll p S)) :
    Calls Try.prog 5 #[.agg (mA a n c u)] w fun e w' => e = .returned (.bool true) ∧ Below w.heap.size w w' := by
  obtain ⟨w0, hw0⟩ : ∃ w0, w.alloc (Obj.cells (mA a n c u) 24) = w0 := ⟨_, rfl⟩
  have M0 : Mn w0 w.heap.size a n c u := by rw [← hw0]; exact Mn.new w a n c u
  have B0 : Below w.heap.size w w0 := by rw [← hw0]; exact (Below.refl _ w).alloc (Nat.le_refl _) _
  obtain ⟨b, hbe⟩ : ∃ b, w.heap.size = b := ⟨_, rfl⟩
  rw [hbe] at M0
  have HM0 := hide M0
  have HB0 := hide B0
  have HR0 := hide (hR.mono B0)
  clear M0 B0 hR
  go_enter Try.func5, Try.ntmps5
  go_wp2_with (first | refine wpList_load_mn rfl _ rfl b rfl HM0.out ?_)
  refine (seeds_any a n c u S _ HR0.out hr).mono ?_
  rintro e w1 ⟨a1, c1, rfl, hR1, hw⟩
  have HM1 := hide (HM0.out.below hw HM0.out.lt)
  have HB1 := hide (HB0.out.trans (hw.mono HB0.out.size))
  have HR1 := hide (HR0.out.mono hw)
  have HS1 := hide hR1
  clear hw hR1 HM0 HB0 HR0
  go_wp2_with fail
  refine (Value_size a1 n c1 p u S _ HS1.out hn hlh hp hu hf hm hq).mono ?_
  rintro e w2 ⟨rfl, hw⟩
  have HM2 := hide (HM1.out.below hw HM1.out.lt)
  have HB2 := hide (HB1.out.trans (hw.mono HB1.out.size))
  have HR2 := hide (HR1.out.mono hw)
  clear hw HM1 HB1 HR1 HS1
  go_wp2_with (first | refine wpList_load_mn rfl _ rfl b rfl HM2.out ?_)
  refine (MMay_any a n c u S _ HR2.out).mono ?_
  rintro e w3 ⟨rfl, hw⟩
  rw [hm.out]
  have HM3 := hide (HM2.out.below hw HM2.out.lt)
  have HB3 := hide (HB2.out.trans (hw.mono HB2.out.size))
  have HR3 := hide (HR2.out.mono hw)
  clear hw HM2 HB2 HR2
  go_wp2_with (first | refine wpList_load_mn rfl _ rfl b rfl HM3.out ?_)
  refine (SIP_any a n c p u S _ HR3.out hn.out.symm hp hf).mono ?_
  rintro e w4 ⟨rfl, hw⟩
  have HM4 := hide (HM3.out.below hw HM3.out.lt)
  have HB4 := hide (HB3.out.trans (hw.mono HB3.out.size))
  have HR4 := hide (HR3.out.mono hw)
  clear hw HM3 HB3 HR3
  have h4 := hq.out
  generalize inAll p S = ia at *
  go_wp2
  go_ret
  exact ⟨rfl, by first | exact HB4.out | (rw [← hbe]; exact HB4.out)⟩

set_option maxRecDepth 100000 in
set_option maxHeartbeats 2000000 in
theorem values_ok (a : Option Addr) (n c : Nat) (p u : Nat) (S : List Int) (w : World) (hR : Rd w a n c S) (hr : n * 8 ≤ 140737488351232) (hn : Hid (n = 2 * (p + 1))) (hlh : Hid (S.length = 2 * (p + 1))) (hp : p ≤ 6) (hu : u ≤ 1) (hf : Fit p S) (hm : Hid (mayB S (u : Int) = true)) (hq : Hid (inAll p S ≤ 4)) :
    Calls Try.prog 5 #[.agg (mA a n c u)] w fun e w' => e = .returned (.bool true) ∧ Below w.heap.size w w' := by
  obtain ⟨w0, hw0⟩ : ∃ w0, w.alloc (Obj.cells (mA a n c u) 24) = w0 := ⟨_, rfl⟩
  have M0 : Mn w0 w.heap.size a n c u := by rw [← hw0]; exact Mn.new w a n c u
  have B0 : Below w.heap.size w w0 := by rw [← hw0]; exact (Below.refl _ w).alloc (Nat.le_refl _) _
  obtain ⟨b, hbe⟩ : ∃ b, w.heap.size = b := ⟨_, rfl⟩
  rw [hbe] at M0
  have HM0 := hide M0
  have HB0 := hide B0
  have HR0 := hide (hR.mono B0)
  clear M0 B0 hR
  go_enter Try.func5, Try.ntmps5
  go_wp2_with (first | refine wpList_load_mn rfl _ rfl b rfl HM0.out ?_)
  refine (seeds_any a n c u S _ HR0.out hr).mono ?_
  rintro e w1 ⟨a1, c1, rfl, hR1, hw⟩
  have HM1 := hide (HM0.out.below hw HM0.out.lt)
  have HB1 := hide (HB0.out.trans (hw.mono HB0.out.size))
  have HR1 := hide (HR0.out.mono hw)
  have HS1 := hide hR1
  clear hw hR1 HM0 HB0 HR0
  go_wp2_with fail
  refine (Value_ok a1 n c1 p u S _ HS1.out hn hlh hp hu hf hm hq).mono ?_
  rintro e w2 ⟨rfl, hw⟩
  obtain ⟨vv, hvv⟩ : ∃ vv, val p u S = vv := ⟨_, rfl⟩
  rw [hvv]
  have HVV := hide hvv
  clear hvv
  have HM2 := hide (HM1.out.below hw HM1.out.lt)
  have HB2 := hide (HB1.out.trans (hw.mono HB1.out.size))
  have HR2 := hide (HR1.out.mono hw)
  clear hw HM1 HB1 HR1 HS1
  go_wp2_with (first | refine wpList_load_mn rfl _ rfl b rfl HM2.out ?_)
  refine (MMay_any a n c u S _ HR2.out).mono ?_
  rintro e w3 ⟨rfl, hw⟩
  rw [hm.out]
  have HM3 := hide (HM2.out.below hw HM2.out.lt)
  have HB3 := hide (HB2.out.trans (hw.mono HB2.out.size))
  have HR3 := hide (HR2.out.mono hw)
  clear hw HM2 HB2 HR2
  go_wp2_with (first | refine wpList_load_mn rfl _ rfl b rfl HM3.out ?_)
  refine (SIP_any a n c p u S _ HR3.out hn.out.symm hp hf).mono ?_
  rintro e w4 ⟨rfl, hw⟩
  have HM4 := hide (HM3.out.below hw HM3.out.lt)
  have HB4 := hide (HB3.out.trans (hw.mono HB3.out.size))
  have HR4 := hide (HR3.out.mono hw)
  clear hw HM3 HB3 HR3
  have h4 := hq.out
  have h4' : ¬ 4 < inAll p S := by omega
  generalize inAll p S = ia at *
  go_wp2_with (first | refine wpList_load_mn rfl _ rfl b rfl HM4.out ?_)
  refine (RV_any p _ u S ⟨hp, hu, hlh.out, hf⟩ (Nat.lt_succ_self _) a n c _ hn.out HR4.out).mono ?_
  rintro e w5 ⟨rfl, hw⟩
  rw [HVV.out]
  have HB5 := hide (HB4.out.trans (hw.mono HB4.out.size))
  clear hw
  obtain ⟨x, y⟩ := vv
  have hx : (x == x) = true := by simp
  have hy : (y == y) = true := by simp
  go_wp2
  go_ret
  exact ⟨rfl, by first | exact HB5.out | (rw [← hbe]; exact HB5.out)⟩

theorem values_any (a : Option Addr) (n c : Nat) (t : Int) (S : List Int) (w : World) (hR : Rd w a n c S) (hr : n * 8 ≤ 140737488351232) (ht1 : -9223372036854775808 ≤ t) (ht2 : t ≤ 9223372036854775807) :
    Calls Try.prog 5 #[.agg (mA a n c t)] w fun e w' => e = .returned (.bool true) ∧ Below w.heap.size w w' := by
  cases hm : mayB S t with
  | false => exact values_state a n c t S w hR hr ht1 ht2 hm
  | true =>
    obtain ⟨p, u, hp1, hp, hu, rfl, hl, hf⟩ := may_parts hm
    have hn : n = 2 * (p + 1) := by rw [← hR.len]; exact hl
    by_cases hq : 4 < inAll p S
    · exact values_size a n c p u S w hR hr hn hl hp hu hf hm hq
    · exact values_ok a n c p u S w hR hr hn hl hp hu hf hm (show inAll p S ≤ 4 by omega)

end Go.Proofs.Ytmdnoiebodaikaa
