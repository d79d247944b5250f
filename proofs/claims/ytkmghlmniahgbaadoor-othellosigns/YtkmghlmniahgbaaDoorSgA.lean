/-
  The law on signs, where nothing can be put. No conditions beyond those that each theorem bears.
-/
import Derived.Test.YtkmghlmniahgbaaDoorSgD
namespace Go.Proofs.YtkmghlmniahgbaaDoor
open Go.RowKit

attribute [local irreducible] sps pz st0 mirL mir tc

set_option maxRecDepth 100000 in
set_option maxHeartbeats 16000000 in
theorem signs_short (W H : Int) (a : Option Addr) (n c : Nat) (zs : List Int) (who pick : Int) (w : World) (hTT : DTab w ∧ TzT w) (h : Rd w a n c zs) (E : Int) (hE : E = 4 ∨ E = 12)
    (HPL0 : ∀ W1, DTab W1 → TzT W1 → Rd W1 a n c zs → Calls Tryd.prog 9 #[.agg (gdA W H a n c), .int .i64 who] W1 fun e w' => ∃ la lc, e = .returned (.tuple #[.slice la 0 lc, .int .i64 E]) ∧ Below W1.heap.size W1 w') :
    Calls Tryd.prog 6 #[.agg (gdA W H a n c), .int .i64 who, .int .i64 pick] w fun e w' => e = .returned (.bool true) ∧ Below w.heap.size w w' := by
  obtain ⟨w1, hw1⟩ : ∃ w1, w.alloc (.cells (gdA W H a n c) 24) = w1 := ⟨_, rfl⟩
  have HB1 : Hid (Below w.heap.size w w1) := hide (by rw [← hw1]; exact (Below.refl _ _).alloc (Nat.le_refl _) _)
  have HG1 : Hid (Gd w1 w.heap.size W H a n c) := hide (by rw [← hw1]; exact Gd.new _ _ _ _ _ _)
  have HR1 := hide (h.mono HB1.out)
  have HD1 := hide (hTT.1.mono HB1.out)
  have HTZ1 := hide (hTT.2.mono HB1.out)
  have HPL := hide HPL0
  clear h hTT HPL0
  rcases hE with rfl | rfl
  · go_enter Tryd.func6, Tryd.ntmps6
    go_upto_region 1 with fail
    clear hw1
    go_wp2_with fail
    refine (New_four _).mono ?_
    rintro r w2 ⟨cb0, cc0, rfl, hO, hb⟩
    have HN2 : Hid (Rd w2 (some ⟨cb0, 0, none⟩) 16 cc0 (st0 2 2)) := hide (Rd.of_own (own_base hO (Nat.zero_le _)))
    clear hO
    have HB2 := hide (HB1.out.trans (hb.mono HB1.out.size))
    have HG2 := hide (HG1.out.below hb HG1.out.lt)
    have HR2 := hide (HR1.out.mono hb)
    have HD2 := hide (HD1.out.mono hb)
    have HTZ2 := hide (HTZ1.out.mono hb)
    clear hb HB1 HG1 HR1 HD1 HTZ1
    have KZ := Gd.new w2 0 0 none 0 0
    go_upto_region 2 with (refine wpList_store_gd rfl (.tmp 7) (.tmp 23) rfl w2.heap.size rfl rfl KZ ?_; intro w3 S3 kk3)
    have hb : Below w2.heap.size w2 w3 := (((Keeps.refl (fun k => k = w2.heap.size) w2).alloc _).trans kk3).below (Nat.le_refl _) (fun k hk e => by omega)
    have HS3 := hide S3
    clear S3 KZ kk3
    have HB3 := hide (HB2.out.trans (hb.mono HB2.out.size))
    have HG3 := hide (HG2.out.below hb HG2.out.lt)
    have HR3 := hide (HR2.out.mono hb)
    have HD3 := hide (HD2.out.mono hb)
    have HTZ3 := hide (HTZ2.out.mono hb)
    have HN3 := hide (HN2.out.mono hb)
    clear hb HB2 HG2 HR2 HD2 HTZ2 HN2
    have HC3 := hide (Places_four cb0 cc0 w3 HD3.out HTZ3.out HN3.out)
    go_wp2_with (refine wpList_load_gd rfl (.tmp 7) rfl w2.heap.size rfl HS3.out ?_)
    refine HC3.out.mono ?_
    rintro r w4 ⟨a4, c4, rfl, hR4, hb⟩
    clear HC3 HS3 HN3
    have HB4 := hide (HB3.out.trans (hb.mono HB3.out.size))
    have HG4 := hide (HG3.out.below hb HG3.out.lt)
    have HR4 := hide (HR3.out.mono hb)
    have HD4 := hide (HD3.out.mono hb)
    have HTZ4 := hide (HTZ3.out.mono hb)
    clear hb HB3 HG3 HR3 HD3 HTZ3
    have hm4 := hR4.max
    unfold maxLen at hm4
    have hc4 := hR4.cap
    have B45 : Below w4.heap.size w4 (w4.alloc (.cells #[.int .i64 1, .int .i64 4, .int .i64 11, .int .i64 14] 3)) := (Below.refl _ w4).alloc (Nat.le_refl _) _
    have HSM := hide (keepSame_any a4 (some ⟨w4.heap.size, 0, none⟩) 4 c4 4 4 [1, 4, 11, 14] [1, 4, 11, 14] (w4.alloc (.cells #[.int .i64 1, .int .i64 4, .int .i64 11, .int .i64 14] 3)) (hR4.mono B45) (Rd.of_blk (Blk.new w4 3 [1, 4, 11, 14] _ rfl) rfl (by decide)))
    rw [decide_eq_true rfl] at HSM
    have HB45 := hide B45
    clear hR4 B45
    go_wp2_with fail
    refine HSM.out.mono ?_
    rintro r w5' ⟨rfl, q, rfl⟩
    obtain ⟨w5, hw5⟩ : ∃ w5, (World.alloc w4 (.cells #[.int .i64 1, .int .i64 4, .int .i64 11, .int .i64 14] 3)).drewN q = w5 := ⟨_, rfl⟩
    have hb : Below w4.heap.size w4 w5 := by rw [← hw5]; exact HB45.out.trans (drewN_below _ _ _)
    rw [hw5]
    clear hw5 HSM HB45
    have HB5 := hide (HB4.out.trans (hb.mono HB4.out.size))
    have HG5 := hide (HG4.out.below hb HG4.out.lt)
    have HR5 := hide (HR4.out.mono hb)
    have HD5 := hide (HD4.out.mono hb)
    have HTZ5 := hide (HTZ4.out.mono hb)
    clear hb HB4 HG4 HR4 HD4 HTZ4
    go_wp2_with (refine wpList_load_gd rfl (.tmp 3) rfl w.heap.size rfl HG5.out ?_)
    refine (HPL.out w5 HD5.out HTZ5.out HR5.out).mono ?_
    rintro r w6 ⟨la, lc, rfl, hb⟩
    have HB6 := hide (HB5.out.trans (hb.mono HB5.out.size))
    have HG6 := hide (HG5.out.below hb HG5.out.lt)
    have HR6 := hide (HR5.out.mono hb)
    have HD6 := hide (HD5.out.mono hb)
    have HTZ6 := hide (HTZ5.out.mono hb)
    clear hb HB5 HG5 HR5 HD5 HTZ5
    go_wp2_with fail
    go_ret
    exact ⟨rfl, HB6.out⟩
  · go_enter Tryd.func6, Tryd.ntmps6
    go_upto_region 1 with fail
    clear hw1
    go_wp2_with fail
    refine (New_four _).mono ?_
    rintro r w2 ⟨cb0, cc0, rfl, hO, hb⟩
    have HN2 : Hid (Rd w2 (some ⟨cb0, 0, none⟩) 16 cc0 (st0 2 2)) := hide (Rd.of_own (own_base hO (Nat.zero_le _)))
    clear hO
    have HB2 := hide (HB1.out.trans (hb.mono HB1.out.size))
    have HG2 := hide (HG1.out.below hb HG1.out.lt)
    have HR2 := hide (HR1.out.mono hb)
    have HD2 := hide (HD1.out.mono hb)
    have HTZ2 := hide (HTZ1.out.mono hb)
    clear hb HB1 HG1 HR1 HD1 HTZ1
    have KZ := Gd.new w2 0 0 none 0 0
    go_upto_region 2 with (refine wpList_store_gd rfl (.tmp 7) (.tmp 23) rfl w2.heap.size rfl rfl KZ ?_; intro w3 S3 kk3)
    have hb : Below w2.heap.size w2 w3 := (((Keeps.refl (fun k => k = w2.heap.size) w2).alloc _).trans kk3).below (Nat.le_refl _) (fun k hk e => by omega)
    have HS3 := hide S3
    clear S3 KZ kk3
    have HB3 := hide (HB2.out.trans (hb.mono HB2.out.size))
    have HG3 := hide (HG2.out.below hb HG2.out.lt)
    have HR3 := hide (HR2.out.mono hb)
    have HD3 := hide (HD2.out.mono hb)
    have HTZ3 := hide (HTZ2.out.mono hb)
    have HN3 := hide (HN2.out.mono hb)
    clear hb HB2 HG2 HR2 HD2 HTZ2 HN2
    have HC3 := hide (Places_four cb0 cc0 w3 HD3.out HTZ3.out HN3.out)
    go_wp2_with (refine wpList_load_gd rfl (.tmp 7) rfl w2.heap.size rfl HS3.out ?_)
    refine HC3.out.mono ?_
    rintro r w4 ⟨a4, c4, rfl, hR4, hb⟩
    clear HC3 HS3 HN3
    have HB4 := hide (HB3.out.trans (hb.mono HB3.out.size))
    have HG4 := hide (HG3.out.below hb HG3.out.lt)
    have HR4 := hide (HR3.out.mono hb)
    have HD4 := hide (HD3.out.mono hb)
    have HTZ4 := hide (HTZ3.out.mono hb)
    clear hb HB3 HG3 HR3 HD3 HTZ3
    have hm4 := hR4.max
    unfold maxLen at hm4
    have hc4 := hR4.cap
    have B45 : Below w4.heap.size w4 (w4.alloc (.cells #[.int .i64 1, .int .i64 4, .int .i64 11, .int .i64 14] 3)) := (Below.refl _ w4).alloc (Nat.le_refl _) _
    have HSM := hide (keepSame_any a4 (some ⟨w4.heap.size, 0, none⟩) 4 c4 4 4 [1, 4, 11, 14] [1, 4, 11, 14] (w4.alloc (.cells #[.int .i64 1, .int .i64 4, .int .i64 11, .int .i64 14] 3)) (hR4.mono B45) (Rd.of_blk (Blk.new w4 3 [1, 4, 11, 14] _ rfl) rfl (by decide)))
    rw [decide_eq_true rfl] at HSM
    have HB45 := hide B45
    clear hR4 B45
    go_wp2_with fail
    refine HSM.out.mono ?_
    rintro r w5' ⟨rfl, q, rfl⟩
    obtain ⟨w5, hw5⟩ : ∃ w5, (World.alloc w4 (.cells #[.int .i64 1, .int .i64 4, .int .i64 11, .int .i64 14] 3)).drewN q = w5 := ⟨_, rfl⟩
    have hb : Below w4.heap.size w4 w5 := by rw [← hw5]; exact HB45.out.trans (drewN_below _ _ _)
    rw [hw5]
    clear hw5 HSM HB45
    have HB5 := hide (HB4.out.trans (hb.mono HB4.out.size))
    have HG5 := hide (HG4.out.below hb HG4.out.lt)
    have HR5 := hide (HR4.out.mono hb)
    have HD5 := hide (HD4.out.mono hb)
    have HTZ5 := hide (HTZ4.out.mono hb)
    clear hb HB4 HG4 HR4 HD4 HTZ4
    go_wp2_with (refine wpList_load_gd rfl (.tmp 3) rfl w.heap.size rfl HG5.out ?_)
    refine (HPL.out w5 HD5.out HTZ5.out HR5.out).mono ?_
    rintro r w6 ⟨la, lc, rfl, hb⟩
    have HB6 := hide (HB5.out.trans (hb.mono HB5.out.size))
    have HG6 := hide (HG5.out.below hb HG5.out.lt)
    have HR6 := hide (HR5.out.mono hb)
    have HD6 := hide (HD5.out.mono hb)
    have HTZ6 := hide (HTZ5.out.mono hb)
    clear hb HB5 HG5 HR5 HD5 HTZ5
    go_wp2_with fail
    go_ret
    exact ⟨rfl, HB6.out⟩

set_option maxRecDepth 100000 in
set_option maxHeartbeats 16000000 in
theorem signs_none (gW gH : Nat) (a : Option Addr) (n c : Nat) (zs : List Int) (m : Nat) (pick : Int) (w : World) (hTT : DTab w ∧ TzT w) (h : Rd w a n c zs) (b : Og gW gH n zs) (hm : m = 1 ∨ m = 2) (hs : sps gW gH zs m = []) :
    Calls Tryd.prog 6 #[.agg (gdA gW gH a n c), .int .i64 (m : Nat), .int .i64 pick] w fun e w' => e = .returned (.bool true) ∧ Below w.heap.size w w' := by
  have hn64 := b.n64
  have hcm := h.max
  unfold maxLen at hcm
  have hcc := h.cap
  have hWd := b.wd
  have HPL := hide (fun W1 h1 h2 (h3 : Rd W1 a n c zs) => Places_yes gW gH a n c zs m W1 h1 h2 h3 b hm)
  have HMI := hide (fun W1 (h3 : Rd W1 a n c zs) => mirrored_any gW gH a n c zs W1 h3 (by omega) (by have := b.ht; omega) b.mul)
  have HPM := hide (fun a' c' W1 h1 h2 (h3 : Rd W1 a' n c' (mirL gW zs)) => Places_yes gW gH a' n c' (mirL gW zs) m W1 h1 h2 h3 (mirL_og b) hm)
  have hle := sps_mlen (W := gW) (H := gH) (Z := zs) (m := m) (by omega) (by rw [b.len, b.mul])
  rw [hle] at HPM
  obtain ⟨w1, hw1⟩ : ∃ w1, w.alloc (.cells (gdA gW gH a n c) 24) = w1 := ⟨_, rfl⟩
  have HB1 : Hid (Below w.heap.size w w1) := hide (by rw [← hw1]; exact (Below.refl _ _).alloc (Nat.le_refl _) _)
  have HG1 : Hid (Gd w1 w.heap.size gW gH a n c) := hide (by rw [← hw1]; exact Gd.new _ _ _ _ _ _)
  have HR1 := hide (h.mono HB1.out)
  have HD1 := hide (hTT.1.mono HB1.out)
  have HTZ1 := hide (hTT.2.mono HB1.out)
  have hz0 : (sps gW gH zs m).length = 0 := by rw [hs]; rfl
  rw [hz0] at HPL HPM
  have hzz : (((0 : Nat) : Int) != ((0 : Nat) : Int)) = false := by rfl
  clear h hTT b hm hs hle hz0
  go_enter Tryd.func6, Tryd.ntmps6
  go_upto_region 1 with fail
  clear hw1
  go_wp2_with fail
  refine (New_four _).mono ?_
  rintro r w2 ⟨cb0, cc0, rfl, hO, hb⟩
  have HN2 : Hid (Rd w2 (some ⟨cb0, 0, none⟩) 16 cc0 (st0 2 2)) := hide (Rd.of_own (own_base hO (Nat.zero_le _)))
  clear hO
  have HB2 := hide (HB1.out.trans (hb.mono HB1.out.size))
  have HG2 := hide (HG1.out.below hb HG1.out.lt)
  have HR2 := hide (HR1.out.mono hb)
  have HD2 := hide (HD1.out.mono hb)
  have HTZ2 := hide (HTZ1.out.mono hb)
  clear hb HB1 HG1 HR1 HD1 HTZ1
  have KZ := Gd.new w2 0 0 none 0 0
  go_upto_region 2 with (refine wpList_store_gd rfl (.tmp 7) (.tmp 23) rfl w2.heap.size rfl rfl KZ ?_; intro w3 S3 kk3)
  have hb : Below w2.heap.size w2 w3 := (((Keeps.refl (fun k => k = w2.heap.size) w2).alloc _).trans kk3).below (Nat.le_refl _) (fun k hk e => by omega)
  have HS3 := hide S3
  clear S3 KZ kk3
  have HB3 := hide (HB2.out.trans (hb.mono HB2.out.size))
  have HG3 := hide (HG2.out.below hb HG2.out.lt)
  have HR3 := hide (HR2.out.mono hb)
  have HD3 := hide (HD2.out.mono hb)
  have HTZ3 := hide (HTZ2.out.mono hb)
  have HN3 := hide (HN2.out.mono hb)
  clear hb HB2 HG2 HR2 HD2 HTZ2 HN2
  have HC3 := hide (Places_four cb0 cc0 w3 HD3.out HTZ3.out HN3.out)
  go_wp2_with (refine wpList_load_gd rfl (.tmp 7) rfl w2.heap.size rfl HS3.out ?_)
  refine HC3.out.mono ?_
  rintro r w4 ⟨a4, c4, rfl, hR4, hb⟩
  clear HC3 HS3 HN3
  have HB4 := hide (HB3.out.trans (hb.mono HB3.out.size))
  have HG4 := hide (HG3.out.below hb HG3.out.lt)
  have HR4 := hide (HR3.out.mono hb)
  have HD4 := hide (HD3.out.mono hb)
  have HTZ4 := hide (HTZ3.out.mono hb)
  clear hb HB3 HG3 HR3 HD3 HTZ3
  have hm4 := hR4.max
  unfold maxLen at hm4
  have hc4 := hR4.cap
  have B45 : Below w4.heap.size w4 (w4.alloc (.cells #[.int .i64 1, .int .i64 4, .int .i64 11, .int .i64 14] 3)) := (Below.refl _ w4).alloc (Nat.le_refl _) _
  have HSM := hide (keepSame_any a4 (some ⟨w4.heap.size, 0, none⟩) 4 c4 4 4 [1, 4, 11, 14] [1, 4, 11, 14] (w4.alloc (.cells #[.int .i64 1, .int .i64 4, .int .i64 11, .int .i64 14] 3)) (hR4.mono B45) (Rd.of_blk (Blk.new w4 3 [1, 4, 11, 14] _ rfl) rfl (by decide)))
  rw [decide_eq_true rfl] at HSM
  have HB45 := hide B45
  clear hR4 B45
  go_wp2_with fail
  refine HSM.out.mono ?_
  rintro r w5' ⟨rfl, q, rfl⟩
  obtain ⟨w5, hw5⟩ : ∃ w5, (World.alloc w4 (.cells #[.int .i64 1, .int .i64 4, .int .i64 11, .int .i64 14] 3)).drewN q = w5 := ⟨_, rfl⟩
  have hb : Below w4.heap.size w4 w5 := by rw [← hw5]; exact HB45.out.trans (drewN_below _ _ _)
  rw [hw5]
  clear hw5 HSM HB45
  have HB5 := hide (HB4.out.trans (hb.mono HB4.out.size))
  have HG5 := hide (HG4.out.below hb HG4.out.lt)
  have HR5 := hide (HR4.out.mono hb)
  have HD5 := hide (HD4.out.mono hb)
  have HTZ5 := hide (HTZ4.out.mono hb)
  clear hb HB4 HG4 HR4 HD4 HTZ4
  go_wp2_with (refine wpList_load_gd rfl (.tmp 3) rfl w.heap.size rfl HG5.out ?_)
  refine (HPL.out w5 HD5.out HTZ5.out HR5.out).mono ?_
  rintro r w6 ⟨la, lc, rfl, hO, hb⟩
  have HL6 := hide (Rd.of_own hO)
  clear hO HPL
  have HB6 := hide (HB5.out.trans (hb.mono HB5.out.size))
  have HG6 := hide (HG5.out.below hb HG5.out.lt)
  have HR6 := hide (HR5.out.mono hb)
  have HD6 := hide (HD5.out.mono hb)
  have HTZ6 := hide (HTZ5.out.mono hb)
  clear hb HB5 HG5 HR5 HD5 HTZ5
  have hlm := HL6.out.max
  unfold maxLen at hlm
  have hlc := HL6.out.cap
  have HC6 := hide (HMI.out w6 HR6.out)
  go_wp2_with (refine wpList_load_gd rfl (.tmp 3) rfl w.heap.size rfl HG6.out ?_)
  refine HC6.out.mono ?_
  rintro r w7 ⟨ma, mc, rfl, hR7, hb⟩
  have HM7 := hide hR7
  clear hR7 HC6 HMI
  have HB7 := hide (HB6.out.trans (hb.mono HB6.out.size))
  have HG7 := hide (HG6.out.below hb HG6.out.lt)
  have HR7 := hide (HR6.out.mono hb)
  have HD7 := hide (HD6.out.mono hb)
  have HTZ7 := hide (HTZ6.out.mono hb)
  have HL7 := hide (HL6.out.mono hb)
  clear hb HB6 HG6 HR6 HD6 HTZ6 HL6
  have HC7 := hide (HPM.out ma mc w7 HD7.out HTZ7.out HM7.out)
  go_wp2_with fail
  refine HC7.out.mono ?_
  rintro r w8 ⟨ka, kc, rfl, hO, hb⟩
  have HK8 := hide (Rd.of_own hO)
  clear hO HC7 HM7 HPM
  have HB8 := hide (HB7.out.trans (hb.mono HB7.out.size))
  have HG8 := hide (HG7.out.below hb HG7.out.lt)
  have HR8 := hide (HR7.out.mono hb)
  have HD8 := hide (HD7.out.mono hb)
  have HTZ8 := hide (HTZ7.out.mono hb)
  have HL8 := hide (HL7.out.mono hb)
  clear hb HB7 HG7 HR7 HD7 HTZ7 HL7
  have hkm := HK8.out.max
  unfold maxLen at hkm
  have hkc := HK8.out.cap
  go_wp2_with fail
  refine wp_loop_rounds 1 ?_
  rw [rounds_succ]
  go_wp2_with fail
  go_ret
  exact ⟨rfl, HB8.out⟩

end Go.Proofs.YtkmghlmniahgbaaDoor
