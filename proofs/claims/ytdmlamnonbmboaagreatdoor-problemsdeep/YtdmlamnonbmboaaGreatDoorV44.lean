/-
  Chess problems: the face Best, walked. No conditions beyond those that each theorem bears.
-/
import Derived.Test.YtdmlamnonbmboaaGreatDoorV43
namespace Go.Proofs.YtdmlamnonbmboaaGreatDoor
open Go.RowKit Go.Shelf

theorem results_trt {fn : Func} {t u x : Tmp} {ty : TypeId} (h : fn.results = #[.tmp t, .cell u ty, .tmp x]) (tmps : Array Value) (w : World) (b : Nat) (hb : tmps.getD u undef = .pointer (some ⟨b, 0, none⟩)) {v y z : Value} (hu : tmps.getD t undef = y) (hx : tmps.getD x undef = z)
    (hr : (loadVar ty ⟨b, 0, none⟩).run Tryz.prog w = .ok v w) :
    (results fn tmps).run Tryz.prog w = .ok (.tuple #[y, v, z]) w := by
  have hb' : tmps[u]?.getD undef = .pointer (some ⟨b, 0, none⟩) := by simpa using hb
  have hu' : tmps[t]?.getD undef = y := by simpa using hu
  have hx' : tmps[x]?.getD undef = z := by simpa using hx
  simp [results, h, hb', hu', hx', asAddr, hr]

attribute [local irreducible] mvs nxP mtP skP ckP mS pci bG
attribute [local go_sem] Oper.semAt_some wide_fn wide_fn0 wide_depth

section
variable (a : Option Addr) (n c : Nat) (Z : List Int) (t k e h f : Int) (he1 : -9223372036854775808 ≤ e) (he2 : e ≤ 9223372036854775807) (w : World) (hz : Rd w a n c Z) (hT : Tabs w)
include he1 he2 hz hT
set_option maxRecDepth 100000 in
set_option maxHeartbeats 1000000 in
theorem Best_no (x : Int) (hM : ¬ MayC Z t k e h f) :
    Calls Tryz.prog 7 #[.agg (chA a n c t k e h f), .int .i64 x] w fun r w' => r = .returned (.tuple #[.int .i64 0, .agg (mvC (0, 0, 0)).toArray, .int .i64 12]) ∧ Below w.heap.size w w' := by
  obtain ⟨g, hg⟩ : ∃ g, w.heap.size = g := ⟨_, rfl⟩
  obtain ⟨w1, hw1⟩ : ∃ w1, (w.alloc (.cells (chA a n c t k e h f) 24)).alloc (.cells #[.int .i64 0, .int .i64 0, .int .i64 0] 32) = w1 := ⟨_, rfl⟩
  have B1 : Below w.heap.size w w1 := by rw [← hw1]; exact ((Below.refl _ w).alloc (Nat.le_refl _) _).alloc (by simp) _
  have C1 : Ch w1 g a n c t k e h f := by rw [← hw1, ← hg]; exact (Ch.new w a n c t k e h f).old _
  have M1 : Vb w1 (g + 1) 32 (mvC (0, 0, 0)) := by
    rw [← hw1, ← hg]
    have h := Vb.new (w.alloc (.cells (chA a n c t k e h f) 24)) 32 [.int .i64 0, .int .i64 0, .int .i64 0]
    rw [World.size_alloc] at h
    exact h
  have HMY := hide (May_any a n c Z t k e h f he1 he2 w1 (hz.mono B1) (hT.mono B1))
  rw [dB_f hM] at HMY
  have HB1 := hide B1
  have HM1 := hide M1
  have HG := hide hg
  clear B1 hz hT M1
  go_enter Tryz.func7, Tryz.ntmps7
  go_upto_region 1 with fail
  try rw [hg]
  clear hw1 hg
  go_wp2_with (refine wpList_load_ch rfl (.tmp 2) rfl g rfl C1 ?_)
  refine HMY.out.mono ?_
  rintro r w2 ⟨rfl, hb2⟩
  have V2 := HM1.out.mono hb2
  have HB2 := hide (HB1.out.trans (hb2.mono HB1.out.size))
  clear hb2
  go_wp2_with (refine wpList_store_vb rfl 32 (.tmp 5) (.tmp 12) rfl (g + 1) (mvC (0, 0, 0)) _ (by simp [Act.eval]) rfl V2 rfl row26 (mvC_one _) ?_; intro w3 V3 K3)
  have HBW := hide (HB2.out.trans (K3.below HB2.out.size (fun j hj e => by have := HG.out; omega)))
  clear K3 V2
  try simp only [Exit.inBlock, Exit.then]
  refine bodyPost_ret (results_trt rfl _ _ (g + 1) rfl rfl rfl (load_mv V3)) rfl ?_
  exact ⟨rfl, HBW.out⟩

set_option maxRecDepth 100000 in
set_option maxHeartbeats 1000000 in
theorem Best_range (x : Int) (hM : MayC Z t k e h f) (hx : x < 0 ∨ 2 < x) :
    Calls Tryz.prog 7 #[.agg (chA a n c t k e h f), .int .i64 x] w fun r w' => r = .returned (.tuple #[.int .i64 0, .agg (mvC (0, 0, 0)).toArray, .int .i64 3]) ∧ Below w.heap.size w w' := by
  obtain ⟨g, hg⟩ : ∃ g, w.heap.size = g := ⟨_, rfl⟩
  obtain ⟨w1, hw1⟩ : ∃ w1, (w.alloc (.cells (chA a n c t k e h f) 24)).alloc (.cells #[.int .i64 0, .int .i64 0, .int .i64 0] 32) = w1 := ⟨_, rfl⟩
  have B1 : Below w.heap.size w w1 := by rw [← hw1]; exact ((Below.refl _ w).alloc (Nat.le_refl _) _).alloc (by simp) _
  have C1 : Ch w1 g a n c t k e h f := by rw [← hw1, ← hg]; exact (Ch.new w a n c t k e h f).old _
  have M1 : Vb w1 (g + 1) 32 (mvC (0, 0, 0)) := by
    rw [← hw1, ← hg]
    have h := Vb.new (w.alloc (.cells (chA a n c t k e h f) 24)) 32 [.int .i64 0, .int .i64 0, .int .i64 0]
    rw [World.size_alloc] at h
    exact h
  have HMY := hide (May_any a n c Z t k e h f he1 he2 w1 (hz.mono B1) (hT.mono B1))
  rw [dB_t hM] at HMY
  have HB1 := hide B1
  have HM1 := hide M1
  have HG := hide hg
  clear B1 hz hT M1
  go_enter Tryz.func7, Tryz.ntmps7
  go_upto_region 1 with fail
  try rw [hg]
  clear hw1 hg
  go_wp2_with (refine wpList_load_ch rfl (.tmp 2) rfl g rfl C1 ?_)
  refine HMY.out.mono ?_
  rintro r w2 ⟨rfl, hb2⟩
  have V2 := HM1.out.mono hb2
  have HB2 := hide (HB1.out.trans (hb2.mono HB1.out.size))
  clear hb2
  rcases (show x < 0 ∨ (¬ x < 0 ∧ 2 < x) by omega) with h1 | ⟨h1, h2⟩
  · have e1 : decide (x < 0) = true := by simp [h1]
    go_wp2_with (refine wpList_store_vb rfl 32 (.tmp 5) (.tmp 19) rfl (g + 1) (mvC (0, 0, 0)) _ (by simp [Act.eval]) rfl V2 rfl row26 (mvC_one _) ?_; intro w3 V3 K3)
    have HBW := hide (HB2.out.trans (K3.below HB2.out.size (fun j hj e => by have := HG.out; omega)))
    clear K3 V2
    try simp only [Exit.inBlock, Exit.then]
    refine bodyPost_ret (results_trt rfl _ _ (g + 1) rfl rfl rfl (load_mv V3)) rfl ?_
    exact ⟨rfl, HBW.out⟩
  · have e1 : decide (x < 0) = false := by simp [h1]
    have e2 : decide (2 < x) = true := by simp [h2]
    go_wp2_with (refine wpList_store_vb rfl 32 (.tmp 5) (.tmp 19) rfl (g + 1) (mvC (0, 0, 0)) _ (by simp [Act.eval]) rfl V2 rfl row26 (mvC_one _) ?_; intro w3 V3 K3)
    have HBW := hide (HB2.out.trans (K3.below HB2.out.size (fun j hj e => by have := HG.out; omega)))
    clear K3 V2
    try simp only [Exit.inBlock, Exit.then]
    refine bodyPost_ret (results_trt rfl _ _ (g + 1) rfl rfl rfl (load_mv V3)) rfl ?_
    exact ⟨rfl, HBW.out⟩
end

set_option maxRecDepth 100000 in
set_option maxHeartbeats 4000000 in
theorem Best_yes (a : Option Addr) (c : Nat) (p : Ps) (hM : MayP p) (x : Nat) (hx : x ≤ 2) (he1 : -9223372036854775808 ≤ p.e) (he2 : p.e ≤ 9223372036854775807) (w : World) (hz : Rd w a 64 c p.Z) (hT : Tabs w) (hW : TabW w) :
    Calls Tryz.prog 7 #[.agg (chA a 64 c (p.t : Nat) (p.k : Nat) p.e (p.h : Nat) (p.f : Nat)), .int .i64 (x : Nat)] w fun r w' => r = .returned (.tuple #[.int .i64 (bG (-1001) x 0 p).1, .agg (mvC (bG (-1001) x 0 p).2).toArray, .int .i64 0]) ∧ Below w.heap.size w w' := by
  obtain ⟨g, hg⟩ : ∃ g, w.heap.size = g := ⟨_, rfl⟩
  obtain ⟨w1, hw1⟩ : ∃ w1, (w.alloc (.cells (chA a 64 c (p.t : Nat) (p.k : Nat) p.e (p.h : Nat) (p.f : Nat)) 24)).alloc (.cells #[.int .i64 0, .int .i64 0, .int .i64 0] 32) = w1 := ⟨_, rfl⟩
  have B1 : Below w.heap.size w w1 := by rw [← hw1]; exact ((Below.refl _ w).alloc (Nat.le_refl _) _).alloc (by simp) _
  have C1 : Ch w1 g a 64 c (p.t : Nat) (p.k : Nat) p.e (p.h : Nat) (p.f : Nat) := by rw [← hw1, ← hg]; exact (Ch.new w a 64 c _ _ _ _ _).old _
  have M1 : Vb w1 (g + 1) 32 (mvC (0, 0, 0)) := by
    rw [← hw1, ← hg]
    have h := Vb.new (w.alloc (.cells (chA a 64 c (p.t : Nat) (p.k : Nat) p.e (p.h : Nat) (p.f : Nat)) 24)) 32 [.int .i64 0, .int .i64 0, .int .i64 0]
    rw [World.size_alloc] at h
    exact h
  have s1 : w1.heap.size = g + 2 := by rw [← hw1, ← hg]; simp
  have HMY := hide (May_any a 64 c p.Z (p.t : Nat) (p.k : Nat) p.e (p.h : Nat) (p.f : Nat) he1 he2 w1 (hz.mono B1) (hT.mono B1))
  rw [dB_t (show MayC p.Z (p.t : Nat) (p.k : Nat) p.e (p.h : Nat) (p.f : Nat) from hM)] at HMY
  have HCH : Hid (∀ W, Below w1.heap.size w1 W → Ch W g a 64 c (p.t : Nat) (p.k : Nat) p.e (p.h : Nat) (p.f : Nat)) := hide (fun W hb => C1.below hb C1.lt)
  have HSE : Hid (∀ W, Below w1.heap.size w1 W → Calls Tryz.prog 16 #[.agg (chA a 64 c (p.t : Nat) (p.k : Nat) p.e (p.h : Nat) (p.f : Nat))] W fun r w' => r = .returned (.agg (ivs (stP p)).toArray) ∧ Below W.heap.size W w') := hide (fun W hb => seen_any a c p.Z _ _ _ _ _ W ((hz.mono B1).mono hb))
  have HTW : Hid (∀ W, Below w1.heap.size w1 W → Tabs W ∧ TabW W) := hide (fun W hb => ⟨(hT.mono B1).mono hb, (hW.mono B1).mono hb⟩)
  have HBE := hide (fun W (h1 : TabS W) h2 h3 => best_any x (by omega) p hM 0 (by omega) (by omega) W h1 h2 h3)
  have HB1 := hide B1
  have HM1 := hide M1
  have HG := hide hg
  have HS1 := hide s1
  clear B1 hz hT hW hM M1 s1
  obtain ⟨r1, hr1⟩ : ∃ r1, (bG (-1001) x 0 p).1 = r1 := ⟨_, rfl⟩
  obtain ⟨r2, hr2⟩ : ∃ r2, (bG (-1001) x 0 p).2 = r2 := ⟨_, rfl⟩
  rw [hr1, hr2] at HBE ⊢
  clear hr1 hr2
  go_enter Tryz.func7, Tryz.ntmps7
  go_upto_region 1 with fail
  try rw [hg]
  clear hw1 hg
  go_wp2_with (refine wpList_load_ch rfl (.tmp 2) rfl g rfl C1 ?_)
  refine HMY.out.mono ?_
  rintro r w2 ⟨rfl, hb2⟩
  have HB2 : Hid (Below w1.heap.size w1 w2) := hide hb2
  have C2 := HCH.out w2 hb2
  clear hb2 C1
  have q1 : decide ((x : Int) < 0) = false := by simp
  have q2 : decide ((2 : Int) < (x : Int)) = false := by simp; omega
  go_wp2_with (refine wpList_load_ch rfl (.tmp 2) rfl g rfl C2 ?_)
  refine (HSE.out w2 HB2.out).mono ?_
  rintro r w3 ⟨rfl, hb3⟩
  have HB3 : Hid (Below w1.heap.size w1 w3) := hide (HB2.out.trans (hb3.mono HB2.out.size))
  clear hb3 C2 q1 q2
  go_wp2_with fail
  obtain ⟨t1, t2⟩ := HTW.out w3 HB3.out
  refine (HBE.out w3 t1.1 t1.2 t2).mono ?_
  rintro r w4 ⟨rfl, hb4⟩
  have HB4 : Hid (Below w1.heap.size w1 w4) := hide (HB3.out.trans (hb4.mono HB3.out.size))
  clear hb4 t1 t2
  obtain ⟨d, hd⟩ : ∃ d, w4.heap.size = d := ⟨_, rfl⟩
  have VD : Vb (w4.alloc (.cells #[.int .i64 0, .int .i64 0, .int .i64 0] 32)) d 32 [.int .i64 0, .int .i64 0, .int .i64 0] := by rw [← hd]; exact Vb.new w4 32 _
  have HD : Hid (g + 2 ≤ d) := hide (by rw [← hd]; have := HB4.out.size; have := HS1.out; omega)
  have b5 : Below w4.heap.size w4 (w4.alloc (.cells #[.int .i64 0, .int .i64 0, .int .i64 0] 32)) := (Below.refl _ _).alloc (Nat.le_refl _) _
  go_upto_region 6 with (refine wpList_store_vb rfl 32 (.tmp 8) (.tmp 26) rfl d (mvC r2) _ (by simp [Act.eval]) rfl VD rfl row26 (mvC_one _) ?_; intro w6 V6 K6)
  have b6 : Below w4.heap.size w4 w6 := b5.trans (K6.below b5.size (fun j hj e => by omega))
  have HB6 : Hid (Below w1.heap.size w1 w6) := hide (HB4.out.trans (b6.mono HB4.out.size))
  have HV6 := hide V6
  have HM6 := hide (HM1.out.mono HB6.out)
  try rw [hd]
  clear VD b5 K6 b6 V6 hd
  refine wp_region_held (S := fun W5 => Keeps (fun j => j = g + 1) w6 W5) (by kernel_rfl) ?_
  change wpAnyH _ _ _ _ _ _ _ _ (World.drew _)
  have SW : Keeps (fun j => j = g + 1) w6 w6.drew := (Keeps.refl _ w6).drew
  have DS : Hid (∀ W, Keeps (fun j => j = g + 1) w6 W → Vb W d 32 (mvC r2)) := hide (fun W hk => HV6.out.keeps hk (fun e => by have := HD.out; omega))
  have HMd : Hid (Vb w6.drew (g + 1) 32 (mvC (0, 0, 0))) := hide (HM6.out.mono (drewN_below _ _ 1))
  generalize hwd : w6.drew = wd at SW HMd ⊢
  clear hwd
  refine wpAnyH_take (i := 0) (v := .int .i64 r1) rfl (by kernel_rfl) (by kernel_rfl) (by kernel_rfl) (fun _ _ _ h => h) (Or.inl ⟨by rfl, ?_⟩) SW ?_
  · intro W5 hW5
    go_simp <;> first | done | rfl | (rw [IntKind.wrap_i64]; omega) | omega
  go_simp
  refine wpAnyH_take (i := 1) (v := .agg (mvC r2).toArray) rfl (by kernel_rfl) (by kernel_rfl) (by kernel_rfl) (fun _ _ _ h => h) (Or.inl ⟨by rfl, ?_⟩) SW ?_
  · intro W5 hW5
    have y0 := (DS.out W5 hW5).cell (i := 0) rfl
    have y1 := (DS.out W5 hW5).cell (i := 1) rfl
    have y2 := (DS.out W5 hW5).cell (i := 2) rfl
    go_simp <;> first | done | rfl | (rw [IntKind.wrap_i64]; omega) | omega
  go_simp
  refine wpAnyH_take (i := 2) (v := .int .i64 r1) rfl (by kernel_rfl) (by kernel_rfl) (by kernel_rfl) (fun _ _ _ h => h) (Or.inl ⟨by rfl, ?_⟩) SW ?_
  · intro W5 hW5
    go_simp <;> first | done | rfl | (rw [IntKind.wrap_i64]; omega) | omega
  go_simp
  refine wpAnyH_ready (rs := [3]) (by kernel_rfl) (by simp) ?_
  refine AllReadyH.cons rfl (fun K1 hK1 => ?_) AllReadyH.nil
  refine wp_store_mv (.tmp 5) (.tmp 28) rfl (g + 1) rfl rfl HMd.out ?_
  intro wc VC kk
  have SWb := SW.trans kk
  refine hK1.out _ _ SWb (fun SW => ?_)
  clear hK1 K1 SWb kk
  go_simp
  refine wpAnyH_take (i := 4) (v := .int .i64 0) rfl (by kernel_rfl) (by kernel_rfl) (by kernel_rfl) (fun _ _ _ h => h) (Or.inl ⟨by rfl, ?_⟩) SW ?_
  · intro W5 hW5
    go_simp <;> first | done | rfl | (rw [IntKind.wrap_i64]; omega) | omega
  go_simp
  refine wpAnyH_done (by kernel_rfl) ?_ _
  have b2 : Below w.heap.size w w6 := HB1.out.trans (HB6.out.mono HB1.out.size)
  have HBW := hide (b2.trans (SW.below b2.size (fun j hj e => by have := HG.out; omega)))
  clear b2 SW
  go_wp2_with fail
  try simp only [Exit.inBlock, Exit.then]
  refine bodyPost_ret (results_trt rfl _ _ (g + 1) rfl rfl rfl (load_mv VC)) rfl ?_
  exact ⟨rfl, HBW.out⟩

end Go.Proofs.YtdmlamnonbmboaaGreatDoor
