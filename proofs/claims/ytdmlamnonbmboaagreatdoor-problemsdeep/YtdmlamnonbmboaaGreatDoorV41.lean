/-
  Chess: the faces All and Do, walked. No conditions beyond those that each theorem bears.
-/
import Derived.Test.YtdmlamnonbmboaaGreatDoorV40
namespace Go.Proofs.YtdmlamnonbmboaaGreatDoor
open Go.RowKit Go.Shelf

theorem hasB_mem {l : List (Nat × Nat × Nat)} {x y z : Int} (h : hasB l x y z = true) : ∃ m ∈ l, x = (m.1 : Nat) ∧ y = (m.2.1 : Nat) ∧ z = (m.2.2 : Nat) := by
  unfold hasB at h
  rw [List.any_eq_true] at h
  obtain ⟨m, hm, he⟩ := h
  unfold eq3 at he
  simp only [Bool.and_eq_true, beq_iff_eq] at he
  exact ⟨m, hm, he.1.symm, he.2.1.symm, he.2.2.symm⟩
theorem hasB_of {l : List (Nat × Nat × Nat)} {m : Nat × Nat × Nat} (h : m ∈ l) : hasB l (m.1 : Nat) (m.2.1 : Nat) (m.2.2 : Nat) = true := by
  unfold hasB
  rw [List.any_eq_true]
  exact ⟨m, h, by unfold eq3; simp⟩
theorem results_cht {fn : Func} {t u : Tmp} (h : fn.results = #[.cell t 24, .tmp u]) (tmps : Array Value) (w : World) (b : Nat) (hb : tmps.getD t undef = .pointer (some ⟨b, 0, none⟩)) {y : Value} (hu : tmps.getD u undef = y)
    {ad : Option Addr} {n c : Nat} {t' k e hh f : Int} (hc : Ch w b ad n c t' k e hh f) : (results fn tmps).run Tryz.prog w = .ok (.tuple #[.agg (chA ad n c t' k e hh f), y]) w :=
  results_rt h tmps w b hb hu (run_loadVar_row _ _ 24 24 _ (0, 0) _ hc Tryz.underlying24 rfl size24)

attribute [local irreducible] mvs hasB

section
variable (a : Option Addr) (n c : Nat) (Z : List Int) (t k e h f : Int) (he1 : -9223372036854775808 ≤ e) (he2 : e ≤ 9223372036854775807) (w : World) (hz : Rd w a n c Z) (hT : Tabs w)
include he1 he2 hz hT
set_option maxRecDepth 100000 in
set_option maxHeartbeats 1000000 in
theorem All_no (hM : ¬ MayC Z t k e h f) :
    Calls Tryz.prog 13 #[.agg (chA a n c t k e h f)] w fun r w' => r = .returned (.tuple #[.slice none 0 0, .int .i64 12]) ∧ Below w.heap.size w w' := by
  obtain ⟨w1, hw1⟩ : ∃ w1, w.alloc (.cells (chA a n c t k e h f) 24) = w1 := ⟨_, rfl⟩
  have B1 : Below w.heap.size w w1 := by rw [← hw1]; exact (Below.refl _ w).alloc (Nat.le_refl _) _
  have C1 : Ch w1 w.heap.size a n c t k e h f := by rw [← hw1]; exact Ch.new w a n c t k e h f
  have HMY := hide (May_any a n c Z t k e h f he1 he2 w1 (hz.mono B1) (hT.mono B1))
  rw [dB_f hM] at HMY
  have HB1 := hide B1
  clear B1 hz hT
  go_enter Tryz.func13, Tryz.ntmps13
  go_upto_region 1 with fail
  clear hw1
  go_wp2_with (refine wpList_load_ch rfl (.tmp 1) rfl w.heap.size rfl C1 ?_)
  refine HMY.out.mono ?_
  rintro r w2 ⟨rfl, hb2⟩
  have HB2 := hide (HB1.out.trans (hb2.mono HB1.out.size))
  clear hb2
  go_wp2_with fail
  go_ret2
  exact ⟨rfl, HB2.out⟩

set_option maxRecDepth 100000 in
set_option maxHeartbeats 2000000 in
theorem Do_no (x y z : Int) (hM : ¬ MayC Z t k e h f) :
    Calls Tryz.prog 9 #[.agg (chA a n c t k e h f), m3 x y z] w fun r w' => r = .returned (.tuple #[.agg (chA none 0 0 0 0 0 0 0), .int .i64 12]) ∧ Below w.heap.size w w' := by
  obtain ⟨g, hg⟩ : ∃ g, w.heap.size = g := ⟨_, rfl⟩
  obtain ⟨w1, hw1⟩ : ∃ w1, ((w.alloc (.cells (chA a n c t k e h f) 24)).alloc (.cells #[.int .i64 x, .int .i64 y, .int .i64 z] 32)).alloc (.cells (chA none 0 0 0 0 0 0 0) 24) = w1 := ⟨_, rfl⟩
  have B1 : Below w.heap.size w w1 := by rw [← hw1]; exact (((Below.refl _ w).alloc (Nat.le_refl _) _).alloc (by simp) _).alloc (by simp; omega) _
  have C1 : Ch w1 g a n c t k e h f := by rw [← hw1, ← hg]; exact ((Ch.new w a n c t k e h f).old _).old _
  have R1 : Ch w1 (g + 2) none 0 0 0 0 0 0 0 := by
    rw [← hw1, ← hg]
    have := Ch.new ((w.alloc (.cells (chA a n c t k e h f) 24)).alloc (.cells #[.int .i64 x, .int .i64 y, .int .i64 z] 32)) none 0 0 0 0 0 0 0
    rw [World.size_alloc, World.size_alloc] at this
    exact this
  have HG := hide hg
  have HMY := hide (May_any a n c Z t k e h f he1 he2 w1 (hz.mono B1) (hT.mono B1))
  rw [dB_f hM] at HMY
  have HB1 := hide B1
  have HR1 : Hid (∀ W, Below w1.heap.size w1 W → Ch W (g + 2) none 0 0 0 0 0 0 0) := hide (fun W hb => R1.below hb R1.lt)
  clear B1 hz hT R1
  try rw [hg]
  go_enter Tryz.func9, Tryz.ntmps9
  go_upto_region 1 with fail
  try rw [hg]
  clear hw1
  go_wp2_with (refine wpList_load_ch rfl (.tmp 2) rfl g rfl C1 ?_)
  refine HMY.out.mono ?_
  rintro r w2 ⟨rfl, hb2⟩
  have HB2 := hide (HB1.out.trans (hb2.mono HB1.out.size))
  have R2 := HR1.out w2 hb2
  clear hb2
  go_wp2_with (refine wpList_store_ch rfl (.tmp 4) (.tmp 11) rfl (g + 2) rfl rfl R2 ?_; intro w6 k6 kk6)
  refine bodyPost_ret (results_cht rfl _ _ (g + 2) rfl rfl k6) rfl ⟨rfl, ?_⟩
  exact HG.out ▸ HB2.out.trans (kk6.below HB2.out.size (fun j hj e => by have := HG.out; omega))
end

section
variable (a : Option Addr) (c : Nat) (p : Ps) (hM : MayP p) (w : World) (hz : Rd w a 64 c p.Z) (hT : Tabs w)
include hM hz hT
set_option maxRecDepth 100000 in
set_option maxHeartbeats 2000000 in
theorem All_yes :
    Calls Tryz.prog 13 #[.agg (chP a c p)] w fun r w' => ∃ v, r = .returned (.tuple #[v, .int .i64 0]) ∧ w'.ownsRow w.heap.size 32 3 v (mvs p).length (flM (mvs p)) ∧ Below w.heap.size w w' := by
  obtain ⟨w1, hw1⟩ : ∃ w1, w.alloc (.cells (chP a c p) 24) = w1 := ⟨_, rfl⟩
  have B1 : Below w.heap.size w w1 := by rw [← hw1]; exact (Below.refl _ w).alloc (Nat.le_refl _) _
  have C1 : Ch w1 w.heap.size a 64 c (p.t : Nat) (p.k : Nat) p.e (p.h : Nat) (p.f : Nat) := by rw [← hw1]; exact Ch.new w a 64 c _ _ _ _ _
  have HMY := hide (May_any a 64 c p.Z (p.t : Nat) (p.k : Nat) p.e (p.h : Nat) (p.f : Nat) hM.eb.1 hM.eb.2 w1 (hz.mono B1) (hT.mono B1))
  rw [dB_t (show MayC p.Z (p.t : Nat) (p.k : Nat) p.e (p.h : Nat) (p.f : Nat) from hM)] at HMY
  have HCH : Hid (∀ W, Below w1.heap.size w1 W → Ch W w.heap.size a 64 c (p.t : Nat) (p.k : Nat) p.e (p.h : Nat) (p.f : Nat)) := hide (fun W hb => C1.below hb C1.lt)
  have HSE : Hid (∀ W, Below w1.heap.size w1 W → Calls Tryz.prog 16 #[.agg (chP a c p)] W fun r w' => r = .returned (.agg (ivs (stP p)).toArray) ∧ Below W.heap.size W w') := hide (fun W hb => seen_any a c p.Z _ _ _ _ _ W ((hz.mono B1).mono hb))
  have HTW : Hid (∀ W, Below w1.heap.size w1 W → Tabs W) := hide (fun W hb => (hT.mono B1).mono hb)
  have HPL : Hid ((ivs (stP p)).length = 69) := hide (stL_len hM.st.1 _ _ _ _ _)
  have HZL : Hid (p.Z.length = 64) := hide hM.st.1
  have HCL := hide (fun sb b W h => collect_any sb b p hM W h)
  have HB1 := hide B1
  clear B1 hz hT hM
  go_enter Tryz.func13, Tryz.ntmps13
  go_upto_region 1 with fail
  clear hw1
  go_wp2_with (refine wpList_load_ch rfl (.tmp 1) rfl w.heap.size rfl C1 ?_)
  refine HMY.out.mono ?_
  rintro r w2 ⟨rfl, hb2⟩
  have HB2 : Hid (Below w1.heap.size w1 w2) := hide hb2
  have C2 := HCH.out w2 hb2
  clear hb2 C1
  go_wp2_with (refine wpList_load_ch rfl (.tmp 1) rfl w.heap.size rfl C2 ?_)
  refine (HSE.out w2 HB2.out).mono ?_
  rintro r w3 ⟨rfl, hb3⟩
  have HB3 : Hid (Below w1.heap.size w1 w3) := hide (HB2.out.trans (hb3.mono HB2.out.size))
  clear hb3 C2
  obtain ⟨d, hd⟩ : ∃ d, w3.heap.size = d := ⟨_, rfl⟩
  obtain ⟨w4, hw4⟩ : ∃ w4, w3.alloc (.cells Tryz.zeroCells48 48) = w4 := ⟨_, rfl⟩
  have V4 : Vb w4 d 48 (ivs (stL zr64 0 0 0 0 0)) := by rw [← hw4, ← hd]; exact zr69_new w3
  have B4 : Below w3.heap.size w3 w4 := by rw [← hw4]; exact (Below.refl _ _).alloc (Nat.le_refl _) _
  have HB4 : Hid (Below w1.heap.size w1 w4) := hide (HB3.out.trans (B4.mono HB3.out.size))
  have HD : Hid (w1.heap.size ≤ d) := hide (by rw [← hd]; exact HB3.out.size)
  clear B4
  go_upto_region 4 with (refine wpList_store_vb rfl 48 (.tmp 4) (.tmp 9) rfl d (ivs (stP p)) _ (by simp [Act.eval]) rfl V4 (by rw [stL_len zr64_len, HPL.out]) (by rw [HPL.out]; exact row53) (by simpa using ivs_one _) ?_; intro w5 V5 K5)
  have HB5 : Hid (Below w1.heap.size w1 w5) := hide (HB4.out.trans (K5.below HB4.out.size (fun j hj e => by have := HD.out; omega)))
  have HS5 : Hid (Sp w5 d p) := hide ⟨HZL.out, V5⟩
  clear hw4 V4 K5 V5
  try rw [hd]
  go_wp2_with fail
  refine (moves_any d _).mono ?_
  rintro r w6 ⟨rfl, hw6⟩
  have HB6 : Hid (Below w1.heap.size w1 w6) := hide (HB5.out.trans ((show Below w5.heap.size w5 w6 by rw [hw6]; exact (Below.refl _ _).alloc (Nat.le_refl _) _).mono HB5.out.size))
  have HR6 := hide (MlR.new HS5.out (HTW.out _ HB5.out).s (HTW.out _ HB5.out).d)
  rw [← hw6] at HR6
  clear hw6
  go_wp2_with fail
  refine (HCL.out _ _ _ HR6.out).mono ?_
  rintro r w7 ⟨v, rfl, hO, hb7⟩
  have HB7 : Hid (Below w1.heap.size w1 w7) := hide (HB6.out.trans (hb7.mono HB6.out.size))
  have HO := hide hO
  clear hO hb7
  go_wp2_with fail
  go_ret2
  exact ⟨v, rfl, own_base HO.out (Nat.le_trans HB1.out.size HB6.out.size), HB1.out.trans (HB7.out.mono HB1.out.size)⟩

set_option maxRecDepth 100000 in
set_option maxHeartbeats 4000000 in
theorem Do_rule (x y z : Int) (hh : hasB (mvs p) x y z = false) :
    Calls Tryz.prog 9 #[.agg (chP a c p), m3 x y z] w fun r w' => r = .returned (.tuple #[.agg (chA none 0 0 0 0 0 0 0), .int .i64 8]) ∧ Below w.heap.size w w' := by
  obtain ⟨g, hg⟩ : ∃ g, w.heap.size = g := ⟨_, rfl⟩
  obtain ⟨w1, hw1⟩ : ∃ w1, ((w.alloc (.cells (chP a c p) 24)).alloc (.cells #[.int .i64 x, .int .i64 y, .int .i64 z] 32)).alloc (.cells (chA none 0 0 0 0 0 0 0) 24) = w1 := ⟨_, rfl⟩
  have B1 : Below w.heap.size w w1 := by rw [← hw1]; exact (((Below.refl _ w).alloc (Nat.le_refl _) _).alloc (by simp) _).alloc (by simp; omega) _
  have C1 : Ch w1 g a 64 c (p.t : Nat) (p.k : Nat) p.e (p.h : Nat) (p.f : Nat) := by rw [← hw1, ← hg]; exact ((Ch.new w a 64 c _ _ _ _ _).old _).old _
  have M1 : Vb w1 (g + 1) 32 [.int .i64 x, .int .i64 y, .int .i64 z] := by
    rw [← hw1, ← hg]
    have := (Vb.new (w.alloc (.cells (chP a c p) 24)) 32 [.int .i64 x, .int .i64 y, .int .i64 z]).old (.cells (chA none 0 0 0 0 0 0 0) 24)
    rw [World.size_alloc] at this
    exact this
  have R1 : Ch w1 (g + 2) none 0 0 0 0 0 0 0 := by
    rw [← hw1, ← hg]
    have := Ch.new ((w.alloc (.cells (chP a c p) 24)).alloc (.cells #[.int .i64 x, .int .i64 y, .int .i64 z] 32)) none 0 0 0 0 0 0 0
    rw [World.size_alloc, World.size_alloc] at this
    exact this
  have HMY := hide (May_any a 64 c p.Z (p.t : Nat) (p.k : Nat) p.e (p.h : Nat) (p.f : Nat) hM.eb.1 hM.eb.2 w1 (hz.mono B1) (hT.mono B1))
  rw [dB_t (show MayC p.Z (p.t : Nat) (p.k : Nat) p.e (p.h : Nat) (p.f : Nat) from hM)] at HMY
  have HCH : Hid (∀ W, Below w1.heap.size w1 W → Ch W g a 64 c (p.t : Nat) (p.k : Nat) p.e (p.h : Nat) (p.f : Nat)) := hide (fun W hb => C1.below hb C1.lt)
  have HMV : Hid (∀ W, Below w1.heap.size w1 W → Vb W (g + 1) 32 [.int .i64 x, .int .i64 y, .int .i64 z]) := hide (fun W hb => M1.mono hb)
  have HR1 : Hid (∀ W, Below w1.heap.size w1 W → Ch W (g + 2) none 0 0 0 0 0 0 0) := hide (fun W hb => R1.below hb R1.lt)
  have HSE : Hid (∀ W, Below w1.heap.size w1 W → Calls Tryz.prog 16 #[.agg (chP a c p)] W fun r w' => r = .returned (.agg (ivs (stP p)).toArray) ∧ Below W.heap.size W w') := hide (fun W hb => seen_any a c p.Z _ _ _ _ _ W ((hz.mono B1).mono hb))
  have HTW : Hid (∀ W, Below w1.heap.size w1 W → Tabs W) := hide (fun W hb => (hT.mono B1).mono hb)
  have HPL : Hid ((ivs (stP p)).length = 69) := hide (stL_len hM.st.1 _ _ _ _ _)
  have HZL : Hid (p.Z.length = 64) := hide hM.st.1
  have HHA := hide (fun b W h1 h2 h3 => has_any b p hM x y z W h1 h2 h3)
  rw [hh] at HHA
  have HG := hide hg
  have HB1 := hide B1
  clear B1 hz hT hM M1 R1
  try rw [hg]
  go_enter Tryz.func9, Tryz.ntmps9
  go_upto_region 1 with fail
  try rw [hg]
  clear hw1
  go_wp2_with (refine wpList_load_ch rfl (.tmp 2) rfl g rfl C1 ?_)
  refine HMY.out.mono ?_
  rintro r w2 ⟨rfl, hb2⟩
  have HB2 : Hid (Below w1.heap.size w1 w2) := hide hb2
  have C2 := HCH.out w2 hb2
  clear hb2 C1
  go_wp2_with (refine wpList_load_ch rfl (.tmp 2) rfl g rfl C2 ?_)
  refine (HSE.out w2 HB2.out).mono ?_
  rintro r w3 ⟨rfl, hb3⟩
  have HB3 : Hid (Below w1.heap.size w1 w3) := hide (HB2.out.trans (hb3.mono HB2.out.size))
  clear hb3 C2
  obtain ⟨d, hd⟩ : ∃ d, w3.heap.size = d := ⟨_, rfl⟩
  obtain ⟨w4, hw4⟩ : ∃ w4, w3.alloc (.cells Tryz.zeroCells48 48) = w4 := ⟨_, rfl⟩
  have V4 : Vb w4 d 48 (ivs (stL zr64 0 0 0 0 0)) := by rw [← hw4, ← hd]; exact zr69_new w3
  have B4 : Below w3.heap.size w3 w4 := by rw [← hw4]; exact (Below.refl _ _).alloc (Nat.le_refl _) _
  have HB4 : Hid (Below w1.heap.size w1 w4) := hide (HB3.out.trans (B4.mono HB3.out.size))
  have HD : Hid (w1.heap.size ≤ d) := hide (by rw [← hd]; exact HB3.out.size)
  clear B4
  go_upto_region 4 with (refine wpList_store_vb rfl 48 (.tmp 6) (.tmp 13) rfl d (ivs (stP p)) _ (by simp [Act.eval]) rfl V4 (by rw [stL_len zr64_len, HPL.out]) (by rw [HPL.out]; exact row53) (by simpa using ivs_one _) ?_; intro w5 V5 K5)
  have HB5 : Hid (Below w1.heap.size w1 w5) := hide (HB4.out.trans (K5.below HB4.out.size (fun j hj e => by have := HD.out; omega)))
  have HS5 : Hid (Sp w5 d p) := hide ⟨HZL.out, V5⟩
  clear hw4 V4 K5 V5
  try rw [hd]
  have n0 := (HMV.out w5 HB5.out).cell (i := 0) rfl
  have n1 := (HMV.out w5 HB5.out).cell (i := 1) rfl
  have n2 := (HMV.out w5 HB5.out).cell (i := 2) rfl
  go_wp2_with fail
  refine (HHA.out d _ HS5.out (HTW.out _ HB5.out).s (HTW.out _ HB5.out).d).mono ?_
  rintro r w6 ⟨rfl, hb6⟩
  have HB6 : Hid (Below w1.heap.size w1 w6) := hide (HB5.out.trans (hb6.mono HB5.out.size))
  have HS6 : Hid (Sp w6 d p) := hide (HS5.out.mono hb6)
  clear hb6 n0 n1 n2
  have R6 := HR1.out w6 HB6.out
  go_wp2_with (refine wpList_store_ch rfl (.tmp 4) (.tmp 17) rfl (g + 2) rfl rfl R6 ?_; intro w7 k7 kk7)
  refine bodyPost_ret (results_cht rfl _ _ (g + 2) rfl rfl k7) rfl ⟨rfl, ?_⟩
  have hb7 := HB1.out.trans (HB6.out.mono HB1.out.size)
  exact HG.out ▸ hb7.trans (kk7.below hb7.size (fun j hj e => by have := HG.out; omega))

set_option maxRecDepth 100000 in
set_option maxHeartbeats 4000000 in
theorem Do_yes (m : Nat × Nat × Nat) (hm : m ∈ mvs p) :
    Calls Tryz.prog 9 #[.agg (chP a c p), m3 (m.1 : Nat) (m.2.1 : Nat) (m.2.2 : Nat)] w fun r w' => ∃ a' c', r = .returned (.tuple #[.agg (chP a' c' (nxP p m)), .int .i64 0]) ∧ Rd w' a' 64 c' (nxP p m).Z ∧ Below w.heap.size w w' := by
  obtain ⟨g, hg⟩ : ∃ g, w.heap.size = g := ⟨_, rfl⟩
  obtain ⟨w1, hw1⟩ : ∃ w1, ((w.alloc (.cells (chP a c p) 24)).alloc (.cells #[.int .i64 (m.1 : Nat), .int .i64 (m.2.1 : Nat), .int .i64 (m.2.2 : Nat)] 32)).alloc (.cells (chA none 0 0 0 0 0 0 0) 24) = w1 := ⟨_, rfl⟩
  have B1 : Below w.heap.size w w1 := by rw [← hw1]; exact (((Below.refl _ w).alloc (Nat.le_refl _) _).alloc (by simp) _).alloc (by simp; omega) _
  have C1 : Ch w1 g a 64 c (p.t : Nat) (p.k : Nat) p.e (p.h : Nat) (p.f : Nat) := by rw [← hw1, ← hg]; exact ((Ch.new w a 64 c _ _ _ _ _).old _).old _
  have M1 : Vb w1 (g + 1) 32 [.int .i64 (m.1 : Nat), .int .i64 (m.2.1 : Nat), .int .i64 (m.2.2 : Nat)] := by
    rw [← hw1, ← hg]
    have := (Vb.new (w.alloc (.cells (chP a c p) 24)) 32 [.int .i64 (m.1 : Nat), .int .i64 (m.2.1 : Nat), .int .i64 (m.2.2 : Nat)]).old (.cells (chA none 0 0 0 0 0 0 0) 24)
    rw [World.size_alloc] at this
    exact this
  have R1 : Ch w1 (g + 2) none 0 0 0 0 0 0 0 := by
    rw [← hw1, ← hg]
    have := Ch.new ((w.alloc (.cells (chP a c p) 24)).alloc (.cells #[.int .i64 (m.1 : Nat), .int .i64 (m.2.1 : Nat), .int .i64 (m.2.2 : Nat)] 32)) none 0 0 0 0 0 0 0
    rw [World.size_alloc, World.size_alloc] at this
    exact this
  have HMY := hide (May_any a 64 c p.Z (p.t : Nat) (p.k : Nat) p.e (p.h : Nat) (p.f : Nat) hM.eb.1 hM.eb.2 w1 (hz.mono B1) (hT.mono B1))
  rw [dB_t (show MayC p.Z (p.t : Nat) (p.k : Nat) p.e (p.h : Nat) (p.f : Nat) from hM)] at HMY
  have HCH : Hid (∀ W, Below w1.heap.size w1 W → Ch W g a 64 c (p.t : Nat) (p.k : Nat) p.e (p.h : Nat) (p.f : Nat)) := hide (fun W hb => C1.below hb C1.lt)
  have HMV : Hid (∀ W, Below w1.heap.size w1 W → Vb W (g + 1) 32 [.int .i64 (m.1 : Nat), .int .i64 (m.2.1 : Nat), .int .i64 (m.2.2 : Nat)]) := hide (fun W hb => M1.mono hb)
  have HR1 : Hid (∀ W, Below w1.heap.size w1 W → Ch W (g + 2) none 0 0 0 0 0 0 0) := hide (fun W hb => R1.below hb R1.lt)
  have HSE : Hid (∀ W, Below w1.heap.size w1 W → Calls Tryz.prog 16 #[.agg (chP a c p)] W fun r w' => r = .returned (.agg (ivs (stP p)).toArray) ∧ Below W.heap.size W w') := hide (fun W hb => seen_any a c p.Z _ _ _ _ _ W ((hz.mono B1).mono hb))
  have HTW : Hid (∀ W, Below w1.heap.size w1 W → Tabs W) := hide (fun W hb => (hT.mono B1).mono hb)
  have HPL : Hid ((ivs (stP p)).length = 69) := hide (stL_len hM.st.1 _ _ _ _ _)
  have HZL : Hid (p.Z.length = 64) := hide hM.st.1
  have HHA := hide (fun b W h1 h2 h3 => has_any b p hM (m.1 : Nat) (m.2.1 : Nat) (m.2.2 : Nat) W h1 h2 h3)
  have HAF := hide (fun b W h => after_any b p hM m (mvs_ok hM hm).1 W h)
  have HNX := hide (may_nx hM hm)
  have HPN : Hid ((ivs (stP (nxP p m))).length = 69) := hide (stL_len (may_nx hM hm).st.1 _ _ _ _ _)
  rw [hasB_of hm] at HHA
  have HG := hide hg
  have HB1 := hide B1
  clear B1 hz hT hM M1 R1
  try rw [hg]
  go_enter Tryz.func9, Tryz.ntmps9
  go_upto_region 1 with fail
  try rw [hg]
  clear hw1
  go_wp2_with (refine wpList_load_ch rfl (.tmp 2) rfl g rfl C1 ?_)
  refine HMY.out.mono ?_
  rintro r w2 ⟨rfl, hb2⟩
  have HB2 : Hid (Below w1.heap.size w1 w2) := hide hb2
  have C2 := HCH.out w2 hb2
  clear hb2 C1
  go_wp2_with (refine wpList_load_ch rfl (.tmp 2) rfl g rfl C2 ?_)
  refine (HSE.out w2 HB2.out).mono ?_
  rintro r w3 ⟨rfl, hb3⟩
  have HB3 : Hid (Below w1.heap.size w1 w3) := hide (HB2.out.trans (hb3.mono HB2.out.size))
  clear hb3 C2
  obtain ⟨d, hd⟩ : ∃ d, w3.heap.size = d := ⟨_, rfl⟩
  obtain ⟨w4, hw4⟩ : ∃ w4, w3.alloc (.cells Tryz.zeroCells48 48) = w4 := ⟨_, rfl⟩
  have V4 : Vb w4 d 48 (ivs (stL zr64 0 0 0 0 0)) := by rw [← hw4, ← hd]; exact zr69_new w3
  have B4 : Below w3.heap.size w3 w4 := by rw [← hw4]; exact (Below.refl _ _).alloc (Nat.le_refl _) _
  have HB4 : Hid (Below w1.heap.size w1 w4) := hide (HB3.out.trans (B4.mono HB3.out.size))
  have HD : Hid (w1.heap.size ≤ d) := hide (by rw [← hd]; exact HB3.out.size)
  clear B4
  go_upto_region 4 with (refine wpList_store_vb rfl 48 (.tmp 6) (.tmp 13) rfl d (ivs (stP p)) _ (by simp [Act.eval]) rfl V4 (by rw [stL_len zr64_len, HPL.out]) (by rw [HPL.out]; exact row53) (by simpa using ivs_one _) ?_; intro w5 V5 K5)
  have HB5 : Hid (Below w1.heap.size w1 w5) := hide (HB4.out.trans (K5.below HB4.out.size (fun j hj e => by have := HD.out; omega)))
  have HS5 : Hid (Sp w5 d p) := hide ⟨HZL.out, V5⟩
  clear hw4 V4 K5 V5
  try rw [hd]
  have n0 := (HMV.out w5 HB5.out).cell (i := 0) rfl
  have n1 := (HMV.out w5 HB5.out).cell (i := 1) rfl
  have n2 := (HMV.out w5 HB5.out).cell (i := 2) rfl
  go_wp2_with fail
  refine (HHA.out d _ HS5.out (HTW.out _ HB5.out).s (HTW.out _ HB5.out).d).mono ?_
  rintro r w6 ⟨rfl, hb6⟩
  have HB6 : Hid (Below w1.heap.size w1 w6) := hide (HB5.out.trans (hb6.mono HB5.out.size))
  have HS6 : Hid (Sp w6 d p) := hide (HS5.out.mono hb6)
  clear hb6 n0 n1 n2
  have n0 := (HMV.out w6 HB6.out).cell (i := 0) rfl
  have n1 := (HMV.out w6 HB6.out).cell (i := 1) rfl
  have n2 := (HMV.out w6 HB6.out).cell (i := 2) rfl
  go_wp2_with fail
  refine (HAF.out d _ HS6.out).mono ?_
  rintro r w7 ⟨rfl, hb7⟩
  have HB7 : Hid (Below w1.heap.size w1 w7) := hide (HB6.out.trans (hb7.mono HB6.out.size))
  clear hb7 n0 n1 n2
  obtain ⟨d2, hd2⟩ : ∃ d2, w7.heap.size = d2 := ⟨_, rfl⟩
  obtain ⟨w8, hw8⟩ : ∃ w8, w7.alloc (.cells Tryz.zeroCells48 48) = w8 := ⟨_, rfl⟩
  have V8 : Vb w8 d2 48 (ivs (stL zr64 0 0 0 0 0)) := by rw [← hw8, ← hd2]; exact zr69_new w7
  have B8 : Below w7.heap.size w7 w8 := by rw [← hw8]; exact (Below.refl _ _).alloc (Nat.le_refl _) _
  have HB8 : Hid (Below w1.heap.size w1 w8) := hide (HB7.out.trans (B8.mono HB7.out.size))
  have HD2 : Hid (w1.heap.size ≤ d2) := hide (by rw [← hd2]; exact HB7.out.size)
  clear B8
  go_upto_region 7 with (refine wpList_store_vb rfl 48 (.tmp 7) (.tmp 19) rfl d2 (ivs (stP (nxP p m))) _ (by simp [Act.eval]) rfl V8 (by rw [stL_len zr64_len, HPN.out]) (by rw [HPN.out]; exact row53) (by simpa using ivs_one _) ?_; intro w9 V9 K9)
  have HB9 : Hid (Below w1.heap.size w1 w9) := hide (HB8.out.trans (K9.below HB8.out.size (fun j hj e => by have := HD2.out; omega)))
  have HS9 : Hid (Sp w9 d2 (nxP p m)) := hide ⟨HNX.out.st.1, V9⟩
  clear hw8 V8 K9 V9
  try rw [hd2]
  go_wp2_with fail
  refine (told_any d2 _ _ _ _ _ _ _ HS9.out).mono ?_
  rintro r wA ⟨a', c', rfl, hOA, hbA⟩
  have HBA : Hid (Below w1.heap.size w1 wA) := hide (HB9.out.trans (hbA.mono HB9.out.size))
  have RA := HR1.out wA HBA.out
  have HOA := hide hOA
  have HZG : Hid (g + 2 < w9.heap.size) := hide (by have := (HR1.out w9 HB9.out).lt; omega)
  clear hbA hOA
  go_wp2_with (refine wpList_store_ch rfl (.tmp 4) (.tmp 20) rfl (g + 2) rfl rfl RA ?_; intro wB kB kkB)
  refine bodyPost_ret (results_cht rfl _ _ (g + 2) rfl rfl kB) rfl ⟨a', c', rfl, ?_, ?_⟩
  · exact Rd.of_own (own_keeps HOA.out kkB HZG.out)
  · have hb7 := HB1.out.trans (HBA.out.mono HB1.out.size)
    exact HG.out ▸ hb7.trans (kkB.below hb7.size (fun j hj e => by have := HG.out; omega))
end

end Go.Proofs.YtdmlamnonbmboaaGreatDoor
