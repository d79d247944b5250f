/-
  Chess problems: the face Rows, walked. No conditions beyond those that each theorem bears.
  Chess problems: the best value and its first move, as the program finds them, walked. No conditions beyond those that each theorem bears.
-/
import Derived.Test.YtdmlamnonbmboaaDoorQ44
import Derived.Test.YtdmlamnonbmboaaDoorQ14
import Derived.Test.YtdmlamnonbmboaaDoorQ35
import Derived.Test.YtdmlamnonbmboaaDoorQ43
namespace Go.Proofs.YtdmlamnonbmboaaDoor
open Go.RowKit Go.Shelf

attribute [local irreducible] mvs nxP rwN mtP skP ckP
attribute [local go_sem] Oper.semAt_some wide_fn wide_fn0 wide_depth

theorem wrap_is (x : Int) : IntKind.i64.wrap x = wrap64 x := by
  rw [IntKind.wrap_i64]
  try unfold wrap64
  try omega

set_option maxRecDepth 100000 in
set_option maxHeartbeats 2000000 in
theorem rows1_any (p : Ps) (hM : MayP p) (w : World) (hT : TabS w) (hZ : TzT w) : Calls Tryd.prog 32 #[.agg (ivs (stP p)).toArray] w fun r w' => r = .returned (.bool (mtP p)) ∧ Below w.heap.size w w' := by
  have HMT := hide (fun b W (h1 : Sp W b p) h2 h3 => mated_any b p hM W h1 h2 h3)
  obtain ⟨g, hg⟩ : ∃ g, w.heap.size = g := ⟨_, rfl⟩
  obtain ⟨w1, hw1⟩ : ∃ w1, w.alloc (.cells (ivs (stP p)).toArray 51) = w1 := ⟨_, rfl⟩
  have B1 : Below w.heap.size w w1 := by rw [← hw1]; exact (Below.refl _ _).alloc (Nat.le_refl _) _
  have S1 : Sp w1 g p := by rw [← hw1, ← hg]; exact Sp.box p hM w
  have HC := hide (HMT.out g w1 S1 (hT.mono B1) (hZ.mono B1))
  have HB1 := hide B1
  generalize mtP p = mb at *
  clear B1 S1 hT hZ HMT
  go_enter Tryd.func32, Tryd.ntmps32
  go_upto_region 1 with fail
  try rw [hg]
  clear hw1 hg
  go_wp2_with fail
  refine HC.out.mono ?_
  rintro r w2 ⟨rfl, hb2⟩
  have HB2 := hide (HB1.out.trans (hb2.mono HB1.out.size))
  clear hb2
  go_wp2_with fail
  go_ret
  exact ⟨rfl, HB2.out⟩
set_option maxRecDepth 100000 in
set_option maxHeartbeats 2000000 in
theorem rows2_any (p : Ps) (hM : MayP p) (w : World) (hT : TabS w) (hZ : TzT w) : Calls Tryd.prog 34 #[.agg (ivs (stP p)).toArray] w fun r w' => r = .returned (.bool (skP p)) ∧ Below w.heap.size w w' := by
  have HMT := hide (fun b W (h1 : Sp W b p) h2 h3 => stuck_any b p hM W h1 h2 h3)
  obtain ⟨g, hg⟩ : ∃ g, w.heap.size = g := ⟨_, rfl⟩
  obtain ⟨w1, hw1⟩ : ∃ w1, w.alloc (.cells (ivs (stP p)).toArray 51) = w1 := ⟨_, rfl⟩
  have B1 : Below w.heap.size w w1 := by rw [← hw1]; exact (Below.refl _ _).alloc (Nat.le_refl _) _
  have S1 : Sp w1 g p := by rw [← hw1, ← hg]; exact Sp.box p hM w
  have HC := hide (HMT.out g w1 S1 (hT.mono B1) (hZ.mono B1))
  have HB1 := hide B1
  generalize skP p = mb at *
  clear B1 S1 hT hZ HMT
  go_enter Tryd.func34, Tryd.ntmps34
  go_upto_region 1 with fail
  try rw [hg]
  clear hw1 hg
  go_wp2_with fail
  refine HC.out.mono ?_
  rintro r w2 ⟨rfl, hb2⟩
  have HB2 := hide (HB1.out.trans (hb2.mono HB1.out.size))
  clear hb2
  go_wp2_with fail
  go_ret
  exact ⟨rfl, HB2.out⟩

set_option maxRecDepth 100000 in
set_option maxHeartbeats 4000000 in
theorem countW_any (F : Nat) (q : Ps → Bool) (hF : F = 32 ∨ F = 34)
    (hq : ∀ p, MayP p → ∀ w, TabS w → TzT w → Calls Tryd.prog F #[.agg (ivs (stP p)).toArray] w fun r w' => r = .returned (.bool (q p)) ∧ Below w.heap.size w w')
    (n : Nat) (hn : n ≤ 9) (p : Ps) (hM : MayP p) (w : World) (hT : TabS w) (hZ : TzT w) :
    Calls Tryd.prog 31 #[.agg (ivs (stP p)).toArray, .int .i64 (n : Nat), .func (.func F) #[] #[]] w fun r w' => r = .returned (.int .i64 (IntKind.i64.wrap (rwN q n p : Nat))) ∧ Below w.heap.size w w' := by
  obtain ⟨g, hg⟩ : ∃ g, w.heap.size = g := ⟨_, rfl⟩
  obtain ⟨w1, hw1⟩ : ∃ w1, (w.alloc (.cells (ivs (stP p)).toArray 51)).alloc (.cells #[.func (.func F) #[] #[]] 69) = w1 := ⟨_, rfl⟩
  have B1 : Below w.heap.size w w1 := by rw [← hw1]; exact ((Below.refl _ _).alloc (Nat.le_refl _) _).alloc (by simp) _
  have s1 : w1.heap.size = g + 2 := by rw [← hw1, ← hg]; simp
  have V1 : Vb w1 g 51 (ivs (stP p)) := by rw [← hw1, ← hg]; exact (Vb.new w 51 _).mono ((Below.refl _ _).alloc (Nat.le_refl _) _)
  have o1 : w1.cell? ⟨g + 1, 0, none⟩ = some (.func (.func F) #[] #[]) := by
    rw [← hw1, ← hg]
    have := new_cell (w.alloc (.cells (ivs (stP p)).toArray 51)) (.func (.func F) #[] #[]) 69
    rwa [World.size_alloc] at this
  have HCT := hide (fun ob nb rb (h : nb ≠ 0 ∧ nb ≠ 2 ∧ nb ≠ ob ∧ nb ≠ rb) W h1 h2 => ctw_any F q hF hq n hn p hM ob nb rb h 0 W h1 h2)
  have HPL : Hid ((ivs (stP p)).length = 69) := hide (stL_len hM.st.1 _ _ _ _ _)
  have HB1 := hide B1
  have HT1 := hide (hT.mono B1)
  have HZ1 := hide (hZ.mono B1)
  have HBL : Hid (0 < g ∧ 2 < g) := hide (by have := hT.lt; have := hZ.lt; omega)
  have HV1 := hide V1
  have HO1 := hide o1
  have HS1 := hide s1
  have HG := hide hg
  clear hT hZ hM B1 V1 o1 s1 hq hF
  go_enter Tryd.func31, Tryd.ntmps31
  go_upto_region 1 with fail
  try rw [hg]
  clear hw1
  go_upto_region 2 with fail
  rw [HS1.out]
  clear hg
  go_upto_region 4 with fail
  rw [HS1.out]
  obtain ⟨w3, hw3⟩ : ∃ w3, (w1.alloc (.cells #[.int .i64 0] 3)).alloc (.cells #[.func (.func 59) #[] #[.pointer (some ⟨g + 1, 0, none⟩), .pointer (some ⟨g + 2, 0, none⟩), .pointer (some ⟨g + 2 + 1, 0, none⟩)]] 88) = w3 := ⟨_, rfl⟩
  rw [hw3]
  have B3 : Below w1.heap.size w1 w3 := by rw [← hw3]; exact ((Below.refl _ _).alloc (Nat.le_refl _) _).alloc (by simp) _
  have N3 : Vb w3 (g + 2) 3 [.int .i64 (IntKind.i64.wrap 0)] := by
    rw [← hw3]
    have h := (Vb.new w1 3 [.int .i64 0]).mono ((Below.refl _ _).alloc (Nat.le_refl _) (.cells #[.func (.func 59) #[] #[.pointer (some ⟨g + 1, 0, none⟩), .pointer (some ⟨g + 2, 0, none⟩), .pointer (some ⟨g + 2 + 1, 0, none⟩)]] 88))
    rw [HS1.out] at h
    exact h
  have r3 : w3.cell? ⟨g + 2 + 1, 0, none⟩ = some (.func (.func 59) #[] #[.pointer (some ⟨g + 1, 0, none⟩), .pointer (some ⟨g + 2, 0, none⟩), .pointer (some ⟨g + 2 + 1, 0, none⟩)]) := by
    rw [← hw3]
    have h := new_cell (w1.alloc (.cells #[.int .i64 0] 3)) (.func (.func 59) #[] #[.pointer (some ⟨g + 1, 0, none⟩), .pointer (some ⟨g + 2, 0, none⟩), .pointer (some ⟨g + 2 + 1, 0, none⟩)]) 88
    rw [World.size_alloc, HS1.out] at h
    exact h
  have o3 : w3.cell? ⟨g + 1, 0, none⟩ = some (.func (.func F) #[] #[]) := (B3.cell (p := ⟨g + 1, 0, none⟩) (by show g + 1 < _; rw [HS1.out]; omega)).trans HO1.out
  have C3 : CtR F (g + 1) (g + 2) (g + 2 + 1) w3 := ⟨o3, r3, HT1.out.mono B3, HZ1.out.mono B3⟩
  have V3 := HV1.out.mono B3
  have HB3 : Hid (Below w.heap.size w w3) := hide (HB1.out.trans (B3.mono HB1.out.size))
  have hrow : RowT 51 (ivs (stP p)).length := by rw [HPL.out]; exact row53
  have HC := hide (HCT.out (g + 1) (g + 2) (g + 2 + 1) (by have := HBL.out; omega) w3 C3 N3)
  clear hw3 B3 N3 o3 C3 HCT
  go_wp2_with (refine wpList_load_vb rfl 51 (.tmp 3) rfl g rfl hrow V3 ?_)
  refine HC.out.mono ?_
  rintro r w4 ⟨⟨x, rfl⟩, hv4, hk4⟩
  have c4 := hv4.cell (i := 0) rfl
  have HB4 : Hid (Below w.heap.size w w4) := hide (HB3.out.trans (hk4.below HB3.out.size (fun j hj e => by have := HG.out; omega)))
  clear hv4 hk4 V3 hrow r3
  go_wp2_with fail
  go_ret
  refine ⟨?_, HB4.out⟩
  rw [wrap_is]
  rfl

/-- What Rows tells. -/
def rvR (p : Ps) (x : Nat) (y : Int) : Int := if y = 1 then IntKind.i64.wrap (rwN mtP x p : Nat) else if y = 2 then IntKind.i64.wrap (rwN skP x p : Nat) else 0
def reR (y : Int) : Int := if y = 1 ∨ y = 2 then 0 else 4

section
variable (a : Option Addr) (n c : Nat) (Z : List Int) (t k e h f : Int) (he1 : -9223372036854775808 ≤ e) (he2 : e ≤ 9223372036854775807) (w : World) (hz : Rd w a n c Z) (hT : Tabs w)
include he1 he2 hz hT
set_option maxRecDepth 100000 in
set_option maxHeartbeats 1000000 in
theorem Rows_no (x y : Int) (hM : ¬ MayC Z t k e h f) :
    Calls Tryd.prog 13 #[.agg (chA a n c t k e h f), .int .i64 x, .int .i64 y] w fun r w' => r = .returned (.tuple #[.int .i64 0, .int .i64 12]) ∧ Below w.heap.size w w' := by
  obtain ⟨w1, hw1⟩ : ∃ w1, w.alloc (.cells (chA a n c t k e h f) 24) = w1 := ⟨_, rfl⟩
  have B1 : Below w.heap.size w w1 := by rw [← hw1]; exact (Below.refl _ w).alloc (Nat.le_refl _) _
  have C1 : Ch w1 w.heap.size a n c t k e h f := by rw [← hw1]; exact Ch.new w a n c t k e h f
  have HMY := hide (May_any a n c Z t k e h f he1 he2 w1 (hz.mono B1) (hT.mono B1))
  rw [dB_f hM] at HMY
  have HB1 := hide B1
  clear B1 hz hT
  go_enter Tryd.func13, Tryd.ntmps13
  go_upto_region 1 with fail
  clear hw1
  go_wp2_with (refine wpList_load_ch rfl (.tmp 3) rfl w.heap.size rfl C1 ?_)
  refine HMY.out.mono ?_
  rintro r w2 ⟨rfl, hb2⟩
  have HB2 := hide (HB1.out.trans (hb2.mono HB1.out.size))
  clear hb2
  go_wp2_with fail
  try simp only [Exit.inBlock, Exit.then]
  refine bodyPost_ret (results_tmp2 rfl _ _ _) rfl ?_
  exact ⟨rfl, HB2.out⟩

set_option maxRecDepth 100000 in
set_option maxHeartbeats 1000000 in
theorem Rows_range (x y : Int) (hM : MayC Z t k e h f) (hx : x < 0 ∨ 3 < x) :
    Calls Tryd.prog 13 #[.agg (chA a n c t k e h f), .int .i64 x, .int .i64 y] w fun r w' => r = .returned (.tuple #[.int .i64 0, .int .i64 3]) ∧ Below w.heap.size w w' := by
  obtain ⟨w1, hw1⟩ : ∃ w1, w.alloc (.cells (chA a n c t k e h f) 24) = w1 := ⟨_, rfl⟩
  have B1 : Below w.heap.size w w1 := by rw [← hw1]; exact (Below.refl _ w).alloc (Nat.le_refl _) _
  have C1 : Ch w1 w.heap.size a n c t k e h f := by rw [← hw1]; exact Ch.new w a n c t k e h f
  have HMY := hide (May_any a n c Z t k e h f he1 he2 w1 (hz.mono B1) (hT.mono B1))
  rw [dB_t hM] at HMY
  have HB1 := hide B1
  clear B1 hz hT
  go_enter Tryd.func13, Tryd.ntmps13
  go_upto_region 1 with fail
  clear hw1
  go_wp2_with (refine wpList_load_ch rfl (.tmp 3) rfl w.heap.size rfl C1 ?_)
  refine HMY.out.mono ?_
  rintro r w2 ⟨rfl, hb2⟩
  have HB2 := hide (HB1.out.trans (hb2.mono HB1.out.size))
  clear hb2
  rcases (show x < 0 ∨ (¬ x < 0 ∧ 3 < x) by omega) with h1 | ⟨h1, h2⟩
  · have e1 : decide (x < 0) = true := by simp [h1]
    go_wp2_with fail
    try simp only [Exit.inBlock, Exit.then]
    refine bodyPost_ret (results_tmp2 rfl _ _ _) rfl ?_
    exact ⟨rfl, HB2.out⟩
  · have e1 : decide (x < 0) = false := by simp [h1]
    have e2 : decide (3 < x) = true := by simp [h2]
    go_wp2_with fail
    try simp only [Exit.inBlock, Exit.then]
    refine bodyPost_ret (results_tmp2 rfl _ _ _) rfl ?_
    exact ⟨rfl, HB2.out⟩
end

set_option maxRecDepth 100000 in
set_option maxHeartbeats 4000000 in
theorem Rows_yes (a : Option Addr) (c : Nat) (p : Ps) (hM : MayP p) (x : Nat) (hx : x ≤ 3) (y : Int) (he1 : -9223372036854775808 ≤ p.e) (he2 : p.e ≤ 9223372036854775807) (w : World) (hz : Rd w a 64 c p.Z) (hT : Tabs w) :
    Calls Tryd.prog 13 #[.agg (chA a 64 c (p.t : Nat) (p.k : Nat) p.e (p.h : Nat) (p.f : Nat)), .int .i64 (x : Nat), .int .i64 y] w fun r w' => r = .returned (.tuple #[.int .i64 (rvR p x y), .int .i64 (reR y)]) ∧ Below w.heap.size w w' := by
  obtain ⟨w1, hw1⟩ : ∃ w1, w.alloc (.cells (chA a 64 c (p.t : Nat) (p.k : Nat) p.e (p.h : Nat) (p.f : Nat)) 24) = w1 := ⟨_, rfl⟩
  have B1 : Below w.heap.size w w1 := by rw [← hw1]; exact (Below.refl _ w).alloc (Nat.le_refl _) _
  have C1 : Ch w1 w.heap.size a 64 c (p.t : Nat) (p.k : Nat) p.e (p.h : Nat) (p.f : Nat) := by rw [← hw1]; exact Ch.new w a 64 c _ _ _ _ _
  have HMY := hide (May_any a 64 c p.Z (p.t : Nat) (p.k : Nat) p.e (p.h : Nat) (p.f : Nat) he1 he2 w1 (hz.mono B1) (hT.mono B1))
  rw [dB_t (show MayC p.Z (p.t : Nat) (p.k : Nat) p.e (p.h : Nat) (p.f : Nat) from hM)] at HMY
  have HCH : Hid (∀ W, Below w1.heap.size w1 W → Ch W w.heap.size a 64 c (p.t : Nat) (p.k : Nat) p.e (p.h : Nat) (p.f : Nat)) := hide (fun W hb => C1.below hb C1.lt)
  have HSE : Hid (∀ W, Below w1.heap.size w1 W → Calls Tryd.prog 18 #[.agg (chA a 64 c (p.t : Nat) (p.k : Nat) p.e (p.h : Nat) (p.f : Nat))] W fun r w' => r = .returned (.agg (ivs (stP p)).toArray) ∧ Below W.heap.size W w') := hide (fun W hb => seen_any a c p.Z _ _ _ _ _ W ((hz.mono B1).mono hb))
  have HTW : Hid (∀ W, Below w1.heap.size w1 W → Tabs W) := hide (fun W hb => (hT.mono B1).mono hb)
  have HPL : Hid ((ivs (stP p)).length = 69) := hide (stL_len hM.st.1 _ _ _ _ _)
  have HC1 := hide (fun W (h1 : TabS W) h2 => countW_any 32 mtP (.inl rfl) rows1_any x (by omega) p hM W h1 h2)
  have HC2 := hide (fun W (h1 : TabS W) h2 => countW_any 34 skP (.inr rfl) rows2_any x (by omega) p hM W h1 h2)
  have HB1 := hide B1
  clear B1 hz hT hM
  go_enter Tryd.func13, Tryd.ntmps13
  go_upto_region 1 with fail
  clear hw1
  go_wp2_with (refine wpList_load_ch rfl (.tmp 3) rfl w.heap.size rfl C1 ?_)
  refine HMY.out.mono ?_
  rintro r w2 ⟨rfl, hb2⟩
  have HB2 : Hid (Below w1.heap.size w1 w2) := hide hb2
  have C2 := HCH.out w2 hb2
  clear hb2 C1
  have q1 : decide ((x : Int) < 0) = false := by simp
  have q2 : decide ((3 : Int) < (x : Int)) = false := by simp; omega
  go_wp2_with (refine wpList_load_ch rfl (.tmp 3) rfl w.heap.size rfl C2 ?_)
  refine (HSE.out w2 HB2.out).mono ?_
  rintro r w3 ⟨rfl, hb3⟩
  have HB3 : Hid (Below w1.heap.size w1 w3) := hide (HB2.out.trans (hb3.mono HB2.out.size))
  clear hb3 C2
  obtain ⟨d, hd⟩ : ∃ d, w3.heap.size = d := ⟨_, rfl⟩
  obtain ⟨w4, hw4⟩ : ∃ w4, w3.alloc (.cells Tryd.zeroCells51 51) = w4 := ⟨_, rfl⟩
  have V4 : Vb w4 d 51 (ivs (stL zr64 0 0 0 0 0)) := by rw [← hw4, ← hd]; exact zr69_new w3
  have B4 : Below w3.heap.size w3 w4 := by rw [← hw4]; exact (Below.refl _ _).alloc (Nat.le_refl _) _
  have HB4 : Hid (Below w1.heap.size w1 w4) := hide (HB3.out.trans (B4.mono HB3.out.size))
  have HD : Hid (w1.heap.size ≤ d) := hide (by rw [← hd]; exact HB3.out.size)
  clear B4
  go_upto_region 6 with (refine wpList_store_vb rfl 51 (.tmp 8) (.tmp 19) rfl d (ivs (stP p)) _ (by simp [Act.eval]) rfl V4 (by rw [stL_len zr64_len, HPL.out]) (by rw [HPL.out]; exact row53) (by simpa using ivs_one _) ?_; intro w5 V5 K5)
  have HB5 : Hid (Below w1.heap.size w1 w5) := hide (HB4.out.trans (K5.below HB4.out.size (fun j hj e => by have := HD.out; omega)))
  clear hw4 V4 K5 q1 q2
  try rw [hd]
  clear hd
  have hrow : RowT 51 (ivs (stP p)).length := by rw [HPL.out]; exact row53
  have HT5 := hide (HTW.out w5 HB5.out)
  by_cases y1 : y = 1
  · subst y1
    go_wp2_with (refine wpList_load_vb rfl 51 (.tmp 8) rfl d rfl hrow V5 ?_)
    refine (HC1.out w5 HT5.out.1 HT5.out.2).mono ?_
    rintro r w6 ⟨rfl, hb6⟩
    have HB6 := hide (HB1.out.trans ((HB5.out.trans (hb6.mono HB5.out.size)).mono HB1.out.size))
    clear hb6
    go_wp2_with fail
    try simp only [Exit.inBlock, Exit.then]
    refine bodyPost_ret (results_tmp2 rfl _ _ _) rfl ?_
    refine ⟨?_, HB6.out⟩
    unfold rvR reR
    rw [if_pos rfl, if_pos (Or.inl rfl)]
    rfl
  · have y1b : (y == 1) = false := by simp [y1]
    by_cases y2 : y = 2
    · subst y2
      go_wp2_with (refine wpList_load_vb rfl 51 (.tmp 8) rfl d rfl hrow V5 ?_)
      refine (HC2.out w5 HT5.out.1 HT5.out.2).mono ?_
      rintro r w6 ⟨rfl, hb6⟩
      have HB6 := hide (HB1.out.trans ((HB5.out.trans (hb6.mono HB5.out.size)).mono HB1.out.size))
      clear hb6
      go_wp2_with fail
      try simp only [Exit.inBlock, Exit.then]
      refine bodyPost_ret (results_tmp2 rfl _ _ _) rfl ?_
      refine ⟨?_, HB6.out⟩
      unfold rvR reR
      rw [if_neg (by decide), if_pos rfl, if_pos (Or.inr rfl)]
      rfl
    · have y2b : (y == 2) = false := by simp [y2]
      have HB6 := hide (HB1.out.trans (HB5.out.mono HB1.out.size))
      go_wp2_with fail
      try simp only [Exit.inBlock, Exit.then]
      refine bodyPost_ret (results_tmp2 rfl _ _ _) rfl ?_
      refine ⟨?_, HB6.out⟩
      unfold rvR reR
      rw [if_neg y1, if_neg y2, if_neg (by rintro (e | e) <;> contradiction)]
      rfl

end Go.Proofs.YtdmlamnonbmboaaDoor

namespace Go.Proofs.YtdmlamnonbmboaaDoor
open Go.RowKit Go.Shelf

theorem results_tr {fn : Func} {t u : Tmp} {ty : TypeId} (h : fn.results = #[.tmp t, .cell u ty]) (tmps : Array Value) (w : World) (b : Nat) (hb : tmps.getD u undef = .pointer (some ⟨b, 0, none⟩)) {v y : Value} (hu : tmps.getD t undef = y)
    (hr : (loadVar ty ⟨b, 0, none⟩).run Tryd.prog w = .ok v w) :
    (results fn tmps).run Tryd.prog w = .ok (.tuple #[y, v]) w := by
  have hb' : tmps[u]?.getD undef = .pointer (some ⟨b, 0, none⟩) := by simpa using hb
  have hu' : tmps[t]?.getD undef = y := by simpa using hu
  simp [results, h, hb', hu', asAddr, hr]
theorem size42 : (Tryd.prog.info? 42).map (·.size) = some 3 := by kernel_rfl
theorem load_mv {w : World} {b : Nat} {m : Nat × Nat × Nat} (h : Vb w b 42 (mvC m)) : (loadVar 42 ⟨b, 0, none⟩).run Tryd.prog w = .ok (.agg (mvC m).toArray) w :=
  run_loadVar_row _ _ 42 42 _ (0, 0) _ h Tryd.underlying42 rfl size42

theorem wp_store_mv {o : Oper} {a : Act} {w : World} {K : Act → World → Prop} {Q : Exit → Act → World → Prop} (x y : Operand) (ho : o.op = .store 42 x y)
    (b : Nat) {m m' : Nat × Nat × Nat} (hx : a.eval x = .pointer (some ⟨b, 0, none⟩)) (hy : a.eval y = .agg (mvC m).toArray) (hb : Vb w b 42 (mvC m'))
    (hK : ∀ w', Vb w' b 42 (mvC m) → Keeps (fun k => k = b) w w' → K (a.put o.dst undef) w') : o.wp Tryd.prog a w K Q := by
  have hb' : w.heap[b]? = _ := hb
  refine wp_store_row 42 x y ho b (mvC m).toArray hx hy 42 _ hb' size42 rfl (by simp [Value.oneCell']) ?_
  refine hK _ ?_ ?_
  · simp [Vb, World.setRow, Array.getElem?_modify, hb']
  · exact ⟨rfl, rfl, rfl, by simp [World.setRow], fun k _ hk => by simp [World.setRow, Array.getElem?_modify, show ¬ b = k from fun e => hk e.symm]⟩

attribute [local irreducible] mvs nxP mtP skP ckP mS pci bG
attribute [local go_sem] Oper.semAt_some wide_fn wide_fn0 wide_depth

set_option maxRecDepth 100000 in
set_option maxHeartbeats 4000000 in
theorem best_over (p : Ps) (hM : MayP p) (made : Int) (hm0 : 0 ≤ made) (hm1 : made ≤ 900) (lv : Int) (w : World) (hT : TabS w) (hZ : TzT w) (ho : mtP p = true ∨ skP p = true) :
    Calls Tryd.prog 36 #[.agg (ivs (stP p)).toArray, .int .i64 made, .int .i64 lv] w fun r w' => r = .returned (.tuple #[.int .i64 (if mtP p = true then made - 1000 else 0), .agg (mvC (0, 0, 0)).toArray]) ∧ Below w.heap.size w w' := by
  obtain ⟨g, hg⟩ : ∃ g, w.heap.size = g := ⟨_, rfl⟩
  obtain ⟨w1, hw1⟩ : ∃ w1, (((w.alloc (.cells (ivs (stP p)).toArray 51)).alloc (.cells #[.int .i64 made] 3)).alloc (.cells #[.int .i64 lv] 3)).alloc (.cells #[.int .i64 0, .int .i64 0, .int .i64 0] 42) = w1 := ⟨_, rfl⟩
  have B1 : Below w.heap.size w w1 := by rw [← hw1]; exact ((((Below.refl _ _).alloc (Nat.le_refl _) _).alloc (by simp) _).alloc (by simp; omega) _).alloc (by simp; omega) _
  have s1 : w1.heap.size = g + 4 := by rw [← hw1, ← hg]; simp
  have S1 : Sp w1 g p := by
    rw [← hw1, ← hg]
    exact (((Sp.box p hM w).mono ((Below.refl _ _).alloc (Nat.le_refl _) _)).mono ((Below.refl _ _).alloc (Nat.le_refl _) _)).mono ((Below.refl _ _).alloc (Nat.le_refl _) _)
  have N1 : Vb w1 (g + 1) 3 [.int .i64 made] := by
    rw [← hw1, ← hg]
    have h := Vb.new (w.alloc (.cells (ivs (stP p)).toArray 51)) 3 [.int .i64 made]
    rw [World.size_alloc] at h
    exact Vb.mono (Vb.mono (show Vb _ (w.heap.size + 1) 3 [.int .i64 made] from h) ((Below.refl _ _).alloc (Nat.le_refl _) _)) ((Below.refl _ _).alloc (Nat.le_refl _) _)
  have L1 : Vb w1 (g + 2) 3 [.int .i64 lv] := by
    rw [← hw1, ← hg]
    have h := Vb.new ((w.alloc (.cells (ivs (stP p)).toArray 51)).alloc (.cells #[.int .i64 made] 3)) 3 [.int .i64 lv]
    rw [World.size_alloc, World.size_alloc] at h
    exact Vb.mono (show Vb _ (w.heap.size + 2) 3 [.int .i64 lv] from h) ((Below.refl _ _).alloc (Nat.le_refl _) _)
  have M1 : Vb w1 (g + 3) 42 (mvC (0, 0, 0)) := by
    rw [← hw1, ← hg]
    have h := Vb.new (((w.alloc (.cells (ivs (stP p)).toArray 51)).alloc (.cells #[.int .i64 made] 3)).alloc (.cells #[.int .i64 lv] 3)) 42 [.int .i64 0, .int .i64 0, .int .i64 0]
    rw [World.size_alloc, World.size_alloc, World.size_alloc] at h
    exact h
  have HB1 := hide B1
  have HS1 := hide S1
  have HN1 := hide N1
  have HL1 := hide L1
  have HM1 := hide M1
  have HT1 := hide (hT.mono B1)
  have HZ1 := hide (hZ.mono B1)
  have HG := hide hg
  have HSZ := hide s1
  have HMT := hide (fun b W (h1 : Sp W b p) h2 h3 => mated_any b p hM W h1 h2 h3)
  have HSK := hide (fun b W (h1 : Sp W b p) h2 h3 => stuck_any b p hM W h1 h2 h3)
  obtain ⟨mt, hmt⟩ : ∃ mt, mtP p = mt := ⟨_, rfl⟩
  obtain ⟨sk, hsk⟩ : ∃ sk, skP p = sk := ⟨_, rfl⟩
  rw [hmt] at HMT ho ⊢
  rw [hsk] at HSK ho
  clear B1 s1 S1 N1 L1 M1 hT hZ hM hmt hsk
  go_enter Tryd.func36, Tryd.ntmps36
  go_upto_region 1 with fail
  try rw [hg]
  clear hw1 hg
  go_wp2_with fail
  refine (HMT.out g w1 HS1.out HT1.out HZ1.out).mono ?_
  rintro r w2 ⟨rfl, hb2⟩
  have HB2 := hide hb2
  clear hb2
  cases mt with
  | true =>
    have n2 := (HN1.out.mono HB2.out).cell (i := 0) rfl
    have V2 := HM1.out.mono HB2.out
    go_wp2_with (refine wpList_store_vb rfl 42 (.tmp 7) (.tmp 17) rfl (g + 3) (mvC (0, 0, 0)) _ (by simp [Act.eval]) rfl V2 rfl row26 (mvC_one _) ?_; intro w3 V3 K3)
    have b2 : Below w.heap.size w w2 := HB1.out.trans (HB2.out.mono HB1.out.size)
    have HBW := hide (b2.trans (K3.below b2.size (fun j hj e => by have := HG.out; omega)))
    clear b2 K3 V2
    try simp only [Exit.inBlock, Exit.then]
    refine bodyPost_ret (results_tr rfl _ _ (g + 3) rfl rfl (load_mv V3)) rfl ?_
    exact ⟨rfl, HBW.out⟩
  | false =>
    obtain rfl : sk = true := by simpa using ho
    go_wp2_with fail
    refine (HSK.out g w2 (HS1.out.mono HB2.out) (HT1.out.mono HB2.out) (HZ1.out.mono HB2.out)).mono ?_
    rintro r w3 ⟨rfl, hb3⟩
    have HB3 : Hid (Below w1.heap.size w1 w3) := hide (HB2.out.trans (hb3.mono HB2.out.size))
    clear hb3
    have V2 := HM1.out.mono HB3.out
    go_wp2_with (refine wpList_store_vb rfl 42 (.tmp 7) (.tmp 20) rfl (g + 3) (mvC (0, 0, 0)) _ (by simp [Act.eval]) rfl V2 rfl row26 (mvC_one _) ?_; intro w4 V4 K4)
    have b2 : Below w.heap.size w w3 := HB1.out.trans (HB3.out.mono HB1.out.size)
    have HBW := hide (b2.trans (K4.below b2.size (fun j hj e => by have := HG.out; omega)))
    clear b2 K4 V2
    try simp only [Exit.inBlock, Exit.then]
    refine bodyPost_ret (results_tr rfl _ _ (g + 3) rfl rfl (load_mv V4)) rfl ?_
    exact ⟨rfl, HBW.out⟩

set_option maxRecDepth 100000 in
set_option maxHeartbeats 4000000 in
theorem best_end (p : Ps) (hM : MayP p) (made : Int) (w : World) (hT : TabS w) (hZ : TzT w) (hW : TabW w) (hm : mtP p = false) (hs : skP p = false) :
    Calls Tryd.prog 36 #[.agg (ivs (stP p)).toArray, .int .i64 made, .int .i64 0] w fun r w' => r = .returned (.tuple #[.int .i64 (pci p.t (mS p.Z 64)), .agg (mvC (0, 0, 0)).toArray]) ∧ Below w.heap.size w w' := by
  obtain ⟨g, hg⟩ : ∃ g, w.heap.size = g := ⟨_, rfl⟩
  obtain ⟨w1, hw1⟩ : ∃ w1, (((w.alloc (.cells (ivs (stP p)).toArray 51)).alloc (.cells #[.int .i64 made] 3)).alloc (.cells #[.int .i64 0] 3)).alloc (.cells #[.int .i64 0, .int .i64 0, .int .i64 0] 42) = w1 := ⟨_, rfl⟩
  have B1 : Below w.heap.size w w1 := by rw [← hw1]; exact ((((Below.refl _ _).alloc (Nat.le_refl _) _).alloc (by simp) _).alloc (by simp; omega) _).alloc (by simp; omega) _
  have s1 : w1.heap.size = g + 4 := by rw [← hw1, ← hg]; simp
  have S1 : Sp w1 g p := by
    rw [← hw1, ← hg]
    exact (((Sp.box p hM w).mono ((Below.refl _ _).alloc (Nat.le_refl _) _)).mono ((Below.refl _ _).alloc (Nat.le_refl _) _)).mono ((Below.refl _ _).alloc (Nat.le_refl _) _)
  have N1 : Vb w1 (g + 1) 3 [.int .i64 made] := by
    rw [← hw1, ← hg]
    have h := Vb.new (w.alloc (.cells (ivs (stP p)).toArray 51)) 3 [.int .i64 made]
    rw [World.size_alloc] at h
    exact Vb.mono (Vb.mono (show Vb _ (w.heap.size + 1) 3 [.int .i64 made] from h) ((Below.refl _ _).alloc (Nat.le_refl _) _)) ((Below.refl _ _).alloc (Nat.le_refl _) _)
  have L1 : Vb w1 (g + 2) 3 [.int .i64 0] := by
    rw [← hw1, ← hg]
    have h := Vb.new ((w.alloc (.cells (ivs (stP p)).toArray 51)).alloc (.cells #[.int .i64 made] 3)) 3 [.int .i64 0]
    rw [World.size_alloc, World.size_alloc] at h
    exact Vb.mono (show Vb _ (w.heap.size + 2) 3 [.int .i64 0] from h) ((Below.refl _ _).alloc (Nat.le_refl _) _)
  have M1 : Vb w1 (g + 3) 42 (mvC (0, 0, 0)) := by
    rw [← hw1, ← hg]
    have h := Vb.new (((w.alloc (.cells (ivs (stP p)).toArray 51)).alloc (.cells #[.int .i64 made] 3)).alloc (.cells #[.int .i64 0] 3)) 42 [.int .i64 0, .int .i64 0, .int .i64 0]
    rw [World.size_alloc, World.size_alloc, World.size_alloc] at h
    exact h
  have HB1 := hide B1
  have HS1 := hide S1
  have HN1 := hide N1
  have HL1 := hide L1
  have HM1 := hide M1
  have HT1 := hide (hT.mono B1)
  have HZ1 := hide (hZ.mono B1)
  have HG := hide hg
  have HSZ := hide s1
  have HMT := hide (fun b W (h1 : Sp W b p) h2 h3 => mated_any b p hM W h1 h2 h3)
  have HSK := hide (fun b W (h1 : Sp W b p) h2 h3 => stuck_any b p hM W h1 h2 h3)
  rw [hm] at HMT
  rw [hs] at HSK
  have hbd := mS_bd hM.st.pz 64
  have HLE := hide (fun W (h : Sp W g p) hW => lead_any (some ⟨g, 0, none⟩) 64 p.Z hM.st.pz W h.rd hW)
  have HOF := hide (fun w => of_any p.t (mS p.Z 64) (by omega) (by omega) w)
  have HW1 := hide (hW.mono B1)
  have HGW : Hid (1 < g) := hide (by rw [← hg]; exact hW.lt)
  clear B1 s1 S1 N1 L1 M1 hT hZ hM hm hs hW hbd
  obtain ⟨ms, hms⟩ : ∃ ms, mS p.Z 64 = ms := ⟨_, rfl⟩
  rw [hms] at HLE HOF ⊢
  clear hms
  obtain ⟨pv, hpv⟩ : ∃ pv, pci p.t ms = pv := ⟨_, rfl⟩
  rw [hpv] at HOF ⊢
  clear hpv
  go_enter Tryd.func36, Tryd.ntmps36
  go_upto_region 1 with fail
  try rw [hg]
  clear hw1 hg
  go_wp2_with fail
  refine (HMT.out g w1 HS1.out HT1.out HZ1.out).mono ?_
  rintro r w2 ⟨rfl, hb2⟩
  have HB2 := hide hb2
  clear hb2
  go_wp2_with fail
  refine (HSK.out g w2 (HS1.out.mono HB2.out) (HT1.out.mono HB2.out) (HZ1.out.mono HB2.out)).mono ?_
  rintro r w3 ⟨rfl, hb3⟩
  have HB3 : Hid (Below w1.heap.size w1 w3) := hide (HB2.out.trans (hb3.mono HB2.out.size))
  clear hb3
  have l3 := (HL1.out.mono HB3.out).cell (i := 0) rfl
  have HM3 := hide (HM1.out.mono HB3.out)
  go_upto_region 6 with fail
  clear l3
  refine wp_region_held (S := fun W5 => Keeps (fun j => j = g + 3) w3 W5) (by kernel_rfl) ?_
  change wpAnyH _ _ _ _ _ _ _ _ (World.drew _)
  have SW : Keeps (fun j => j = g + 3) w3 w3.drew := (Keeps.refl _ w3).drew
  have DS : Hid (∀ W, Keeps (fun j => j = g + 3) w3 W → Sp W g p ∧ TabW W) := hide (fun W hk => ⟨(HS1.out.mono HB3.out).keeps hk (fun e => by omega), fun i hi => hk.cell ((HW1.out.mono HB3.out) i hi) (fun e => by have := HGW.out; dsimp only at e; omega)⟩)
  have HMd : Hid (Vb w3.drew (g + 3) 42 (mvC (0, 0, 0))) := hide (HM3.out.mono (drewN_below _ _ 1))
  generalize w3.drew = wd at *
  refine wpAnyH_take (i := 0) (v := .pointer (some ⟨g, 64, none⟩)) rfl (by kernel_rfl) (by kernel_rfl) (by kernel_rfl) (fun _ _ _ h => h) (Or.inl ⟨by rfl, ?_⟩) SW ?_
  · intro W5 hW5
    go_simp <;> first | done | rfl | (rw [IntKind.wrap_i64]; omega) | omega
  go_simp
  refine wpAnyH_take (i := 1) (v := .int .i64 (p.t : Nat)) rfl (by kernel_rfl) (by kernel_rfl) (by kernel_rfl) (fun _ _ _ h => h) (Or.inl ⟨by rfl, ?_⟩) SW ?_
  · intro W5 hW5
    have y0 := (DS.out W5 hW5).1.ends.1
    go_simp <;> first | done | rfl | (rw [IntKind.wrap_i64]; omega) | omega
  go_simp
  refine wpAnyH_take (i := 2) (v := .pointer (some ⟨g, 0, none⟩)) rfl (by kernel_rfl) (by kernel_rfl) (by kernel_rfl) (fun _ _ _ h => h) (Or.inl ⟨by rfl, ?_⟩) SW ?_
  · intro W5 hW5
    go_simp <;> first | done | rfl | (rw [IntKind.wrap_i64]; omega) | omega
  go_simp
  refine wpAnyH_take (i := 3) (v := .slice (some ⟨g, 0, none⟩) 64 64) rfl (by kernel_rfl) (by kernel_rfl) (by kernel_rfl) (fun _ _ _ h => h) (Or.inl ⟨by rfl, ?_⟩) SW ?_
  · intro W5 hW5
    go_simp <;> first | done | rfl | (rw [IntKind.wrap_i64]; omega) | omega
  go_simp
  refine wpAnyH_take (i := 6) (v := .agg (mvC (0, 0, 0)).toArray) rfl (by kernel_rfl) (by kernel_rfl) (by kernel_rfl) (fun _ _ _ h => h) (Or.inl ⟨by rfl, ?_⟩) SW ?_
  · intro W5 hW5
    go_simp <;> first | done | rfl | (rw [IntKind.wrap_i64]; omega) | omega
  go_simp
  refine wpAnyH_ready (rs := [4]) (by kernel_rfl) (by simp) ?_
  refine AllReadyH.cons rfl (fun K1 hK1 => ?_) AllReadyH.nil
  go_simp
  refine (HLE.out _ (DS.out _ SW).1 (DS.out _ SW).2).mono ?_
  rintro r w9 ⟨rfl, hw⟩
  subst w9
  refine hK1.out _ _ SW (fun SW => ?_)
  clear hK1 K1
  go_simp
  refine wpAnyH_ready (rs := [5]) (by kernel_rfl) (by simp) ?_
  refine AllReadyH.cons rfl (fun K1 hK1 => ?_) AllReadyH.nil
  go_simp
  refine (HOF.out _).mono ?_
  rintro r w9 ⟨rfl, hw⟩
  subst w9
  refine hK1.out _ _ SW (fun SW => ?_)
  clear hK1 K1
  go_simp
  refine wpAnyH_take (i := 7) (v := .int .i64 pv) rfl (by kernel_rfl) (by kernel_rfl) (by kernel_rfl) (fun _ _ _ h => h) (Or.inl ⟨by rfl, ?_⟩) SW ?_
  · intro W5 hW5
    go_simp <;> first | done | rfl | (rw [IntKind.wrap_i64]; omega) | omega
  go_simp
  refine wpAnyH_ready (rs := [8]) (by kernel_rfl) (by simp) ?_
  refine AllReadyH.cons rfl (fun K1 hK1 => ?_) AllReadyH.nil
  refine wp_store_mv (.tmp 7) (.tmp 30) rfl (g + 3) rfl rfl HMd.out ?_
  intro wc VC kk
  have SWb := SW.trans kk
  refine hK1.out _ _ SWb (fun SW => ?_)
  clear hK1 K1 SWb kk
  go_simp
  refine wpAnyH_done (by kernel_rfl) ?_ _
  have b2 : Below w.heap.size w w3 := HB1.out.trans (HB3.out.mono HB1.out.size)
  have HBW := hide (b2.trans (SW.below b2.size (fun j hj e => by have := HG.out; omega)))
  clear b2 SW
  go_wp2_with fail
  try simp only [Exit.inBlock, Exit.then]
  refine bodyPost_ret (results_tr rfl _ _ (g + 3) rfl rfl (load_mv VC)) rfl ?_
  exact ⟨rfl, HBW.out⟩

end Go.Proofs.YtdmlamnonbmboaaDoor
