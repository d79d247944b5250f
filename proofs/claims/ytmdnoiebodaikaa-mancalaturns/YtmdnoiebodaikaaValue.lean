/-
  mancala.Value. No conditions beyond those that each theorem bears.
-/
import Derived.Test.YtmdnoiebodaikaaOf
import Derived.Test.YtmdnoiebodaikaaRef2
namespace Go.Proofs.Ytmdnoiebodaikaa
open Go.RowKit

set_option maxRecDepth 100000 in
set_option maxHeartbeats 4000000 in
theorem Value_state (a : Option Addr) (n c : Nat) (t : Int) (S : List Int) (w : World) (hR : Rd w a n c S) (ht1 : -9223372036854775808 ≤ t) (ht2 : t ≤ 9223372036854775807) (hm : Hid (mayB S t = false)) :
    Calls Try.prog 16 #[.agg (mA a n c t)] w fun e w' => e = .returned (.tuple #[.int .i64 0, .int .i64 0, .int .i64 12]) ∧ Below w.heap.size w w' := by
  obtain ⟨w0, hw0⟩ : ∃ w0, w.alloc (Obj.cells (mA a n c t) 24) = w0 := ⟨_, rfl⟩
  have M0 : Mn w0 w.heap.size a n c t := by rw [← hw0]; exact Mn.new w a n c t
  have B0 : Below w.heap.size w w0 := by rw [← hw0]; exact (Below.refl _ w).alloc (Nat.le_refl _) _
  obtain ⟨b, hbe⟩ : ∃ b, w.heap.size = b := ⟨_, rfl⟩
  rw [hbe] at M0
  have HM0 := hide M0
  have HB0 := hide B0
  have HR0 := hide (hR.mono B0)
  clear M0 B0 hR
  go_enter Try.func16, Try.ntmps16
  go_wp2_with (first | refine wpList_load_mn rfl _ rfl b rfl HM0.out ?_)
  refine (May_any a n c t S _ HR0.out ht1 ht2).mono ?_
  rintro e w1 ⟨rfl, hw⟩
  rw [hm.out]
  have HM01 := hide (HM0.out.below hw HM0.out.lt)
  have HB1 := hide (HB0.out.trans (hw.mono HB0.out.size))
  have HR1 := hide (HR0.out.mono hw)
  clear hw HM0 HB0 HR0
  go_wp2_with fail
  exact bodyPost_ret (v := .tuple #[.int .i64 0, .int .i64 0, .int .i64 12]) (by simp [results, Try.results16, go_sem]) rfl ⟨rfl, by first | exact HB1.out | (rw [← hbe]; exact HB1.out)⟩

set_option maxRecDepth 100000 in
set_option maxHeartbeats 4000000 in
theorem Value_size (a : Option Addr) (n c : Nat) (p u : Nat) (S : List Int) (w : World) (hR : Rd w a n c S) (hn : Hid (n = 2 * (p + 1))) (hlh : Hid (S.length = 2 * (p + 1))) (hp : p ≤ 6) (hu : u ≤ 1) (hf : Fit p S) (hm : Hid (mayB S (u : Int) = true)) (hq : Hid (4 < inAll p S)) :
    Calls Try.prog 16 #[.agg (mA a n c u)] w fun e w' => e = .returned (.tuple #[.int .i64 0, .int .i64 0, .int .i64 2]) ∧ Below w.heap.size w w' := by
  obtain ⟨w0, hw0⟩ : ∃ w0, w.alloc (Obj.cells (mA a n c u) 24) = w0 := ⟨_, rfl⟩
  have M0 : Mn w0 w.heap.size a n c u := by rw [← hw0]; exact Mn.new w a n c u
  have B0 : Below w.heap.size w w0 := by rw [← hw0]; exact (Below.refl _ w).alloc (Nat.le_refl _) _
  obtain ⟨b, hbe⟩ : ∃ b, w.heap.size = b := ⟨_, rfl⟩
  rw [hbe] at M0
  have HM0 := hide M0
  have HB0 := hide B0
  have HR0 := hide (hR.mono B0)
  clear M0 B0 hR
  go_enter Try.func16, Try.ntmps16
  go_wp2_with (first | refine wpList_load_mn rfl _ rfl b rfl HM0.out ?_)
  refine (May_any a n c u S _ HR0.out (by omega) (by omega)).mono ?_
  rintro e w1 ⟨rfl, hw⟩
  rw [hm.out]
  have HM01 := hide (HM0.out.below hw HM0.out.lt)
  have HB1 := hide (HB0.out.trans (hw.mono HB0.out.size))
  have HR1 := hide (HR0.out.mono hw)
  clear hw HM0 HB0 HR0
  go_wp2_with (first | refine wpList_load_mn rfl _ rfl b rfl HM01.out ?_)
  rw [hn.out] at HR1 ⊢
  refine (seen_any a c p u S hp _ HR1.out).mono ?_
  rintro e w2 ⟨rfl, hw⟩
  have HB2 := HB1.out.trans (hw.mono HB1.out.size)
  have HP : Hid ((pad S).length = 14) := hide (pad_length S (by have := hlh.out; omega))
  have HBL : Hid ((bdL (pad S) p u).length = 16) := hide (bdL_length _ p u HP.out)
  have HFP : Hid (Fit p (pad S)) := hide (hf.pad hlh.out)
  have HZ0 : Hid (Blk (w2.alloc (Obj.cells #[.int .i64 0, .int .i64 0, .int .i64 0, .int .i64 0, .int .i64 0, .int .i64 0, .int .i64 0, .int .i64 0, .int .i64 0, .int .i64 0, .int .i64 0, .int .i64 0, .int .i64 0, .int .i64 0, .int .i64 0, .int .i64 0] 46)) w2.heap.size 46 z16) := hide (Blk.new w2 46 z16 _ rfl)
  have HB3 : Hid (Below w.heap.size w (w2.alloc (Obj.cells #[.int .i64 0, .int .i64 0, .int .i64 0, .int .i64 0, .int .i64 0, .int .i64 0, .int .i64 0, .int .i64 0, .int .i64 0, .int .i64 0, .int .i64 0, .int .i64 0, .int .i64 0, .int .i64 0, .int .i64 0, .int .i64 0] 46))) := hide (HB2.alloc HB2.size _)
  have hz16 : Hid (z16.length = 16) := hide rfl
  have hb2 : b ≤ w2.heap.size := by have := HB2.size; omega
  clear hw HB1 HR1 HM01 HB2
  obtain ⟨a5, a6⟩ := hf.inP (x := 0) (by omega)
  obtain ⟨a7, a8⟩ := hf.inP (x := 1) (by omega)
  have HI0' : inP p 0 (pad S) = inP p 0 S := inP_pad (by omega) hlh.out
  have HI1' : inP p 1 (pad S) = inP p 1 S := inP_pad (by omega) hlh.out
  have HIA : Hid (inAll p S = inP p 0 S + inP p 1 S) := hide rfl
  obtain ⟨i0, hi0⟩ : ∃ i0, inP p 0 S = i0 := ⟨_, rfl⟩
  obtain ⟨i1, hi1⟩ : ∃ i1, inP p 1 S = i1 := ⟨_, rfl⟩
  rw [hi0] at HI0' HIA a5 a6
  rw [hi1] at HI1' HIA a7 a8
  have HI0 := hide HI0'
  have HI1 := hide HI1'
  clear HI0' HI1' hi0 hi1
  go_upto_region 4 with (first | (refine wpList_store_bd rfl _ _ rfl w2.heap.size (bdL (pad S) p u) z16 HBL.out hz16.out rfl rfl HZ0.out ?_; intro w3 hb3 hk3))
  have HB4 := hide (HB3.out.trans (hk3.below HB3.out.size (fun k hk e => by have := HB3.out.size; simp at this; omega)))
  have HK4 := hide hb3
  clear HZ0 HB3 hb3 hk3
  obtain ⟨s, hs⟩ : ∃ s, w2.heap.size = s := ⟨_, rfl⟩
  rw [hs] at HK4 hb2 ⊢
  clear hs
  refine wp_region_held (S := fun W => Below w3.heap.size w3 W) (by kernel_rfl) ?_
  change wpAnyH _ _ _ _ _ _ _ _ (World.drew _)
  have SW : Below w3.heap.size w3 w3.drew := (Below.refl _ w3).drew
  refine wpAnyH_take (i := 0) (v := .agg (ivs (bdL (pad S) p u)).toArray) rfl (by kernel_rfl) (by kernel_rfl) (by kernel_rfl) (fun _ _ _ h => h) (yieldsIf_load_mid (by rfl) 46 _ rfl s 0 (by rfl) (ivs (bdL (pad S) p u)) _ (fun W hW => (HK4.out.below hW HK4.out.lt).range) Try.underlying46 rfl (by rw [ivs_length, HBL.out]; exact size46)) SW ?_
  go_simp
  refine wpAnyH_take (i := 2) (v := .agg (ivs (bdL (pad S) p u)).toArray) rfl (by kernel_rfl) (by kernel_rfl) (by kernel_rfl) (fun _ _ _ h => h) (yieldsIf_load_mid (by rfl) 46 _ rfl s 0 (by rfl) (ivs (bdL (pad S) p u)) _ (fun W hW => (HK4.out.below hW HK4.out.lt).range) Try.underlying46 rfl (by rw [ivs_length, HBL.out]; exact size46)) SW ?_
  go_simp
  refine wpAnyH_ready (rs := [1]) (by kernel_rfl) (by simp) ?_
  refine AllReadyH.cons rfl (fun K1 hK1 => ?_) AllReadyH.nil
  go_simp
  refine (inPits_any (pad S) HP.out p u 0 hp (by omega) HFP.out _).mono ?_
  rintro e w5 ⟨rfl, hw⟩
  refine hK1.out _ _ (SW.trans (hw.mono SW.size)) (fun SW1 => ?_)
  clear hK1 K1 SW hw
  have SW := SW1
  clear SW1
  rw [HI0.out]
  go_simp
  refine wpAnyH_ready (rs := [3]) (by kernel_rfl) (by simp) ?_
  refine AllReadyH.cons rfl (fun K1 hK1 => ?_) AllReadyH.nil
  go_simp
  refine (inPits_any (pad S) HP.out p u 1 hp (by omega) HFP.out _).mono ?_
  rintro e w5 ⟨rfl, hw⟩
  refine hK1.out _ _ (SW.trans (hw.mono SW.size)) (fun SW1 => ?_)
  clear hK1 K1 SW hw
  have SW := SW1
  clear SW1
  rw [HI1.out]
  go_simp
  refine wpAnyH_take (i := 4) (v := .int .i64 (i0 + i1)) rfl (by kernel_rfl) (by kernel_rfl) (by kernel_rfl) (fun _ _ _ h => h) (Or.inl ⟨by rfl, ?_⟩) SW ?_
  · intro W hW
    go_simp <;> first | done | rfl | (rw [IntKind.wrap_i64]; omega) | (intro hh; exfalso; omega)
  go_simp
  refine wpAnyH_take (i := 5) (v := .bool (decide (4 < i0 + i1))) rfl (by kernel_rfl) (by kernel_rfl) (by kernel_rfl) (fun _ _ _ h => h) (Or.inl ⟨by rfl, ?_⟩) SW ?_
  · intro W hW
    go_simp <;> first | done | rfl | (rw [IntKind.wrap_i64]; omega) | (intro hh; exfalso; omega)
  go_simp
  refine wpAnyH_done (by kernel_rfl) ?_ _
  have HB5 := hide (HB4.out.trans (SW.mono HB4.out.size))
  have HK5 := hide (HK4.out.below SW HK4.out.lt)
  clear SW HB4 HK4
  have h4 : 4 < i0 + i1 := by have := hq.out; rw [HIA.out] at this; exact this
  go_wp2_with fail
  exact bodyPost_ret (v := .tuple #[.int .i64 0, .int .i64 0, .int .i64 2]) (by simp [results, Try.results16, go_sem]) rfl ⟨rfl, by first | exact HB5.out | (rw [← hbe]; exact HB5.out)⟩

set_option maxRecDepth 100000 in
set_option maxHeartbeats 4000000 in
theorem Value_ok (a : Option Addr) (n c : Nat) (p u : Nat) (S : List Int) (w : World) (hR : Rd w a n c S) (hn : Hid (n = 2 * (p + 1))) (hlh : Hid (S.length = 2 * (p + 1))) (hp : p ≤ 6) (hu : u ≤ 1) (hf : Fit p S) (hm : Hid (mayB S (u : Int) = true)) (hq : Hid (inAll p S ≤ 4)) :
    Calls Try.prog 16 #[.agg (mA a n c u)] w fun e w' => e = .returned (.tuple #[.int .i64 (val p u S).1, .int .i64 (val p u S).2, .int .i64 0]) ∧ Below w.heap.size w w' := by
  have HBD : Hid (Bd p u S) := hide ⟨hp, hu, hlh.out, hf⟩
  obtain ⟨vv, hvv⟩ : ∃ vv, val p u S = vv := ⟨_, rfl⟩
  have HVV := hide hvv
  rw [hvv]
  clear hvv
  obtain ⟨w0, hw0⟩ : ∃ w0, w.alloc (Obj.cells (mA a n c u) 24) = w0 := ⟨_, rfl⟩
  have M0 : Mn w0 w.heap.size a n c u := by rw [← hw0]; exact Mn.new w a n c u
  have B0 : Below w.heap.size w w0 := by rw [← hw0]; exact (Below.refl _ w).alloc (Nat.le_refl _) _
  obtain ⟨b, hbe⟩ : ∃ b, w.heap.size = b := ⟨_, rfl⟩
  rw [hbe] at M0
  have HM0 := hide M0
  have HB0 := hide B0
  have HR0 := hide (hR.mono B0)
  clear M0 B0 hR
  go_enter Try.func16, Try.ntmps16
  go_wp2_with (first | refine wpList_load_mn rfl _ rfl b rfl HM0.out ?_)
  refine (May_any a n c u S _ HR0.out (by omega) (by omega)).mono ?_
  rintro e w1 ⟨rfl, hw⟩
  rw [hm.out]
  have HM01 := hide (HM0.out.below hw HM0.out.lt)
  have HB1 := hide (HB0.out.trans (hw.mono HB0.out.size))
  have HR1 := hide (HR0.out.mono hw)
  clear hw HM0 HB0 HR0
  go_wp2_with (first | refine wpList_load_mn rfl _ rfl b rfl HM01.out ?_)
  rw [hn.out] at HR1 ⊢
  refine (seen_any a c p u S hp _ HR1.out).mono ?_
  rintro e w2 ⟨rfl, hw⟩
  have HB2 := HB1.out.trans (hw.mono HB1.out.size)
  have HP : Hid ((pad S).length = 14) := hide (pad_length S (by have := hlh.out; omega))
  have HBL : Hid ((bdL (pad S) p u).length = 16) := hide (bdL_length _ p u HP.out)
  have HFP : Hid (Fit p (pad S)) := hide (hf.pad hlh.out)
  have HZ0 : Hid (Blk (w2.alloc (Obj.cells #[.int .i64 0, .int .i64 0, .int .i64 0, .int .i64 0, .int .i64 0, .int .i64 0, .int .i64 0, .int .i64 0, .int .i64 0, .int .i64 0, .int .i64 0, .int .i64 0, .int .i64 0, .int .i64 0, .int .i64 0, .int .i64 0] 46)) w2.heap.size 46 z16) := hide (Blk.new w2 46 z16 _ rfl)
  have HB3 : Hid (Below w.heap.size w (w2.alloc (Obj.cells #[.int .i64 0, .int .i64 0, .int .i64 0, .int .i64 0, .int .i64 0, .int .i64 0, .int .i64 0, .int .i64 0, .int .i64 0, .int .i64 0, .int .i64 0, .int .i64 0, .int .i64 0, .int .i64 0, .int .i64 0, .int .i64 0] 46))) := hide (HB2.alloc HB2.size _)
  have hz16 : Hid (z16.length = 16) := hide rfl
  have hb2 : b ≤ w2.heap.size := by have := HB2.size; omega
  clear hw HB1 HR1 HM01 HB2
  obtain ⟨a5, a6⟩ := hf.inP (x := 0) (by omega)
  obtain ⟨a7, a8⟩ := hf.inP (x := 1) (by omega)
  have HI0' : inP p 0 (pad S) = inP p 0 S := inP_pad (by omega) hlh.out
  have HI1' : inP p 1 (pad S) = inP p 1 S := inP_pad (by omega) hlh.out
  have HIA : Hid (inAll p S = inP p 0 S + inP p 1 S) := hide rfl
  obtain ⟨i0, hi0⟩ : ∃ i0, inP p 0 S = i0 := ⟨_, rfl⟩
  obtain ⟨i1, hi1⟩ : ∃ i1, inP p 1 S = i1 := ⟨_, rfl⟩
  rw [hi0] at HI0' HIA a5 a6
  rw [hi1] at HI1' HIA a7 a8
  have HI0 := hide HI0'
  have HI1 := hide HI1'
  clear HI0' HI1' hi0 hi1
  go_upto_region 4 with (first | (refine wpList_store_bd rfl _ _ rfl w2.heap.size (bdL (pad S) p u) z16 HBL.out hz16.out rfl rfl HZ0.out ?_; intro w3 hb3 hk3))
  have HB4 := hide (HB3.out.trans (hk3.below HB3.out.size (fun k hk e => by have := HB3.out.size; simp at this; omega)))
  have HK4 := hide hb3
  clear HZ0 HB3 hb3 hk3
  obtain ⟨s, hs⟩ : ∃ s, w2.heap.size = s := ⟨_, rfl⟩
  rw [hs] at HK4 hb2 ⊢
  clear hs
  refine wp_region_held (S := fun W => Below w3.heap.size w3 W) (by kernel_rfl) ?_
  change wpAnyH _ _ _ _ _ _ _ _ (World.drew _)
  have SW : Below w3.heap.size w3 w3.drew := (Below.refl _ w3).drew
  refine wpAnyH_take (i := 0) (v := .agg (ivs (bdL (pad S) p u)).toArray) rfl (by kernel_rfl) (by kernel_rfl) (by kernel_rfl) (fun _ _ _ h => h) (yieldsIf_load_mid (by rfl) 46 _ rfl s 0 (by rfl) (ivs (bdL (pad S) p u)) _ (fun W hW => (HK4.out.below hW HK4.out.lt).range) Try.underlying46 rfl (by rw [ivs_length, HBL.out]; exact size46)) SW ?_
  go_simp
  refine wpAnyH_take (i := 2) (v := .agg (ivs (bdL (pad S) p u)).toArray) rfl (by kernel_rfl) (by kernel_rfl) (by kernel_rfl) (fun _ _ _ h => h) (yieldsIf_load_mid (by rfl) 46 _ rfl s 0 (by rfl) (ivs (bdL (pad S) p u)) _ (fun W hW => (HK4.out.below hW HK4.out.lt).range) Try.underlying46 rfl (by rw [ivs_length, HBL.out]; exact size46)) SW ?_
  go_simp
  refine wpAnyH_ready (rs := [1]) (by kernel_rfl) (by simp) ?_
  refine AllReadyH.cons rfl (fun K1 hK1 => ?_) AllReadyH.nil
  go_simp
  refine (inPits_any (pad S) HP.out p u 0 hp (by omega) HFP.out _).mono ?_
  rintro e w5 ⟨rfl, hw⟩
  refine hK1.out _ _ (SW.trans (hw.mono SW.size)) (fun SW1 => ?_)
  clear hK1 K1 SW hw
  have SW := SW1
  clear SW1
  rw [HI0.out]
  go_simp
  refine wpAnyH_ready (rs := [3]) (by kernel_rfl) (by simp) ?_
  refine AllReadyH.cons rfl (fun K1 hK1 => ?_) AllReadyH.nil
  go_simp
  refine (inPits_any (pad S) HP.out p u 1 hp (by omega) HFP.out _).mono ?_
  rintro e w5 ⟨rfl, hw⟩
  refine hK1.out _ _ (SW.trans (hw.mono SW.size)) (fun SW1 => ?_)
  clear hK1 K1 SW hw
  have SW := SW1
  clear SW1
  rw [HI1.out]
  go_simp
  refine wpAnyH_take (i := 4) (v := .int .i64 (i0 + i1)) rfl (by kernel_rfl) (by kernel_rfl) (by kernel_rfl) (fun _ _ _ h => h) (Or.inl ⟨by rfl, ?_⟩) SW ?_
  · intro W hW
    go_simp <;> first | done | rfl | (rw [IntKind.wrap_i64]; omega) | (intro hh; exfalso; omega)
  go_simp
  refine wpAnyH_take (i := 5) (v := .bool (decide (4 < i0 + i1))) rfl (by kernel_rfl) (by kernel_rfl) (by kernel_rfl) (fun _ _ _ h => h) (Or.inl ⟨by rfl, ?_⟩) SW ?_
  · intro W hW
    go_simp <;> first | done | rfl | (rw [IntKind.wrap_i64]; omega) | (intro hh; exfalso; omega)
  go_simp
  refine wpAnyH_done (by kernel_rfl) ?_ _
  have HB5 := hide (HB4.out.trans (SW.mono HB4.out.size))
  have HK5 := hide (HK4.out.below SW HK4.out.lt)
  clear SW HB4 HK4
  have h4' : ¬ 4 < i0 + i1 := by have := hq.out; rw [HIA.out] at this; omega
  have h4 : decide (4 < i0 + i1) = false := by simp; omega
  have MM : Mp (w5.alloc (.map #[] 0)) w5.heap.size := Mp.made w5
  have AB := (Below.refl w5.heap.size w5).alloc (Nat.le_refl _) (Obj.map #[] 0)
  have HK6 := hide (HK5.out.below AB HK5.out.lt)
  have HB6 := hide (HB5.out.trans (AB.mono HB5.out.size))
  have HMM := hide MM
  have hbm : b ≤ w5.heap.size := by have := HB5.out.size; omega
  have hmm := @run_makeMap Try.prog
  clear MM AB HB5 HK5
  go_wp2_with (first | refine wpList_load_bd rfl _ rfl s rfl (bdL (pad S) p u) HBL.out HK6.out ?_)
  refine (of_any p _ u S HBD.out (Nat.lt_succ_self _) _ _ HMM.out).mono ?_
  rintro e w7 ⟨rfl, -, hk7⟩
  rw [HVV.out]
  have HB7 := hide (HB6.out.trans (hk7.below HB6.out.size (fun k hk e => by omega)))
  clear hk7 HB6 HK6 HMM
  have OC : Blk (w7.alloc (Obj.cells #[.int .i64 vv.1, .int .i64 vv.2] 56)) w7.heap.size 56 [vv.1, vv.2] := Blk.new w7 56 [vv.1, vv.2] _ rfl
  have d0 := OC.cell (i := 0) (by simp)
  have d1 := OC.cell (i := 1) (by simp)
  simp only [List.getD_cons_zero, List.getD_cons_succ] at d0 d1
  have HB8 := hide (HB7.out.alloc HB7.out.size (Obj.cells #[.int .i64 vv.1, .int .i64 vv.2] 56))
  clear OC HB7
  go_upto_region 7 with fail
  obtain ⟨w8, hw8⟩ : ∃ w8, w7.alloc (Obj.cells #[.int .i64 vv.1, .int .i64 vv.2] 56) = w8 := ⟨_, rfl⟩
  rw [hw8] at d0 d1 HB8 ⊢
  clear hw8
  go_quiet (fail)
  go_wp2_with fail
  have HB9 := hide (HB8.out.trans (drewN_below _ w8 nq))
  exact bodyPost_ret (v := .tuple #[.int .i64 vv.1, .int .i64 vv.2, .int .i64 0]) (by simp [results, Try.results16, go_sem]) rfl ⟨rfl, by first | exact HB9.out | (rw [← hbe]; exact HB9.out)⟩

end Go.Proofs.Ytmdnoiebodaikaa
