/-
  Chess: the faces Attackers, Check and Material, walked. No conditions beyond those that each theorem bears.
-/
import Derived.Test.YtdblmcihklcenaaDoorMy
import Derived.Test.YtdblmcihklcenaaDoorMt
namespace Go.Proofs.YtdblmcihklcenaaDoor
open Go.RowKit Go.Shelf

set_option maxHeartbeats 4000000 in
theorem ChessOf_any (a : Option Addr) (n c : Nat) (Z : List Int) (t k e h f : Int) (w : World) (hz : Rd w a n c Z) (hr : n * 8 ≤ 140737488351232) :
    Calls Tryd.prog 5 #[.agg (chA a n c t k e h f)] w fun r w' => ∃ a' c', r = .returned (.agg (chA a' n c' t k e h f)) ∧ Rd w' a' n c' Z ∧ Below w.heap.size w w' := by
  go_enter Tryd.func5, Tryd.ntmps5
  go_upto_region 1 with fail
  obtain ⟨w1, hw1⟩ : ∃ w1, (w.alloc (Obj.cells (chA a n c t k e h f) 24)).alloc (Obj.cells #[.slice none 0 0, .int .i64 0, .int .i64 0, .int .i64 0, .int .i64 0, .int .i64 0] 24) = w1 := ⟨_, rfl⟩
  rw [hw1]
  have K1 : Ch w1 w.heap.size a n c t k e h f := by rw [← hw1]; exact (Ch.new w a n c t k e h f).old _
  have K2 : Ch w1 (w.heap.size + 1) none 0 0 0 0 0 0 0 := by
    rw [← hw1]
    have := Ch.new (w.alloc (Obj.cells (chA a n c t k e h f) 24)) none 0 0 0 0 0 0 0
    rw [World.size_alloc] at this
    exact this
  have hs1 : w1.heap.size = w.heap.size + 1 + 1 := by rw [← hw1]; simp
  have B1 : Below w.heap.size w w1 := by rw [← hw1]; exact ((Below.refl _ w).alloc (Nat.le_refl _) _).alloc (by simp) _
  clear hw1
  have HS := hide hs1
  have CALL := hide (ints_own a n c Z w1 (hz.mono B1) hr)
  rw [hs1] at CALL
  clear hs1
  obtain ⟨g0, -⟩ := K1.cells
  go_wp2_with fail
  refine CALL.out.mono ?_
  rintro r w2 ⟨a', c', rfl, hO, hb⟩
  have K12 := K1.below (C := w.heap.size + 1 + 1) hb (by omega)
  have K22 := K2.below (C := w.heap.size + 1 + 1) hb (by omega)
  have B2 := B1.trans (hb.mono (by omega))
  clear K1 K2 B1 g0 CALL hb
  obtain ⟨g0, -⟩ := K12.cells
  have f0 := K12.frozen 0
  have HO := hide hO
  clear hO
  go_upto_region 2 with fail
  have K13 := K12.setP a' n c'
  have K23 := K22.other (show w.heap.size + 1 ≠ w.heap.size by omega) 0 (.slice a' n c')
  have B3 := B2.setCell (p := ⟨w.heap.size, 0, none⟩) (Nat.le_refl _) (.slice a' n c')
  have O3 := hide (own_keeps HO.out (Keeps.set1 w2 w.heap.size 0 (.slice a' n c')) (by omega))
  generalize w2.setCell ⟨w.heap.size, 0, none⟩ (.slice a' n c') = w3 at *
  clear K12 K22 B2 g0 f0 HO
  go_wp2_with (first
    | refine wpList_load_ch rfl (.tmp 1) rfl w.heap.size rfl K13 ?_
    | (refine wpList_store_ch rfl (.tmp 2) (.tmp 7) rfl (w.heap.size + 1) rfl rfl K23 ?_; intro w6 k6 kk6))
  refine bodyPost_ret (results_ch rfl _ _ (w.heap.size + 1) rfl k6) rfl ⟨a', c', rfl, ?_, ?_⟩
  · exact Rd.of_own (own_keeps O3.out kk6 (by omega))
  · exact B3.trans ((kk6.mono (Y := fun k => w.heap.size ≤ k) (fun k _ e => by omega)).below (by have := B3.size; omega) (fun k hk e => by omega))

attribute [local irreducible] mS tl

section
variable (a : Option Addr) (n c : Nat) (Z : List Int) (t k e h f : Int) (he1 : -9223372036854775808 ≤ e) (he2 : e ≤ 9223372036854775807) (w : World) (hz : Rd w a n c Z) (hT : Tabs w)
include he1 he2 hz hT

set_option maxRecDepth 100000 in
theorem Attackers_no (at1 by1 : Int) (hM : ¬ MayC Z t k e h f) :
    Calls Tryd.prog 4 #[.agg (chA a n c t k e h f), .int .i64 at1, .int .i64 by1] w fun r w' => r = .returned (.tuple #[.slice none 0 0, .int .i64 12]) ∧ Below w.heap.size w w' := by
  obtain ⟨w1, hw1⟩ : ∃ w1, w.alloc (.cells (chA a n c t k e h f) 24) = w1 := ⟨_, rfl⟩
  have B1 : Below w.heap.size w w1 := by rw [← hw1]; exact (Below.refl _ w).alloc (Nat.le_refl _) _
  have C1 : Ch w1 w.heap.size a n c t k e h f := by rw [← hw1]; exact Ch.new w a n c t k e h f
  have HMY := hide (May_any a n c Z t k e h f he1 he2 w1 (hz.mono B1) (hT.mono B1))
  rw [dB_f hM] at HMY
  have HB1 := hide B1
  clear B1 hz hT
  go_enter Tryd.func4, Tryd.ntmps4
  go_upto_region 1 with fail
  clear hw1
  go_wp2_with (refine wpList_load_ch rfl (.tmp 3) rfl w.heap.size rfl C1 ?_)
  refine HMY.out.mono ?_
  rintro r w2 ⟨rfl, hb2⟩
  have HB2 := hide (HB1.out.trans (hb2.mono HB1.out.size))
  clear hb2
  go_wp2_with fail
  go_ret2
  exact ⟨rfl, HB2.out⟩

set_option maxRecDepth 100000 in
theorem Check_no (hM : ¬ MayC Z t k e h f) :
    Calls Tryd.prog 6 #[.agg (chA a n c t k e h f)] w fun r w' => r = .returned (.tuple #[.bool false, .int .i64 12]) ∧ Below w.heap.size w w' := by
  obtain ⟨w1, hw1⟩ : ∃ w1, w.alloc (.cells (chA a n c t k e h f) 24) = w1 := ⟨_, rfl⟩
  have B1 : Below w.heap.size w w1 := by rw [← hw1]; exact (Below.refl _ w).alloc (Nat.le_refl _) _
  have C1 : Ch w1 w.heap.size a n c t k e h f := by rw [← hw1]; exact Ch.new w a n c t k e h f
  have HMY := hide (May_any a n c Z t k e h f he1 he2 w1 (hz.mono B1) (hT.mono B1))
  rw [dB_f hM] at HMY
  have HB1 := hide B1
  clear B1 hz hT
  go_enter Tryd.func6, Tryd.ntmps6
  go_upto_region 1 with fail
  clear hw1
  go_wp2_with (refine wpList_load_ch rfl (.tmp 1) rfl w.heap.size rfl C1 ?_)
  refine HMY.out.mono ?_
  rintro r w2 ⟨rfl, hb2⟩
  have HB2 := hide (HB1.out.trans (hb2.mono HB1.out.size))
  clear hb2
  go_wp2_with fail
  go_ret2
  exact ⟨rfl, HB2.out⟩

set_option maxRecDepth 100000 in
theorem Material_no (hM : ¬ MayC Z t k e h f) :
    Calls Tryd.prog 7 #[.agg (chA a n c t k e h f)] w fun r w' => r = .returned (.tuple #[.int .i64 0, .bool false, .int .i64 12]) ∧ Below w.heap.size w w' := by
  obtain ⟨w1, hw1⟩ : ∃ w1, w.alloc (.cells (chA a n c t k e h f) 24) = w1 := ⟨_, rfl⟩
  have B1 : Below w.heap.size w w1 := by rw [← hw1]; exact (Below.refl _ w).alloc (Nat.le_refl _) _
  have C1 : Ch w1 w.heap.size a n c t k e h f := by rw [← hw1]; exact Ch.new w a n c t k e h f
  have HMY := hide (May_any a n c Z t k e h f he1 he2 w1 (hz.mono B1) (hT.mono B1))
  rw [dB_f hM] at HMY
  have HB1 := hide B1
  clear B1 hz hT
  go_enter Tryd.func7, Tryd.ntmps7
  go_upto_region 1 with fail
  clear hw1
  go_wp2_with (refine wpList_load_ch rfl (.tmp 1) rfl w.heap.size rfl C1 ?_)
  refine HMY.out.mono ?_
  rintro r w2 ⟨rfl, hb2⟩
  have HB2 := hide (HB1.out.trans (hb2.mono HB1.out.size))
  clear hb2
  go_wp2_with fail
  go_ret3
  exact ⟨rfl, HB2.out⟩

set_option maxRecDepth 100000 in
theorem Attackers_range (at1 by1 : Int) (hM : MayC Z t k e h f) (hR : ¬ (0 ≤ at1 ∧ at1 ≤ 63 ∧ (by1 = 0 ∨ by1 = 1))) :
    Calls Tryd.prog 4 #[.agg (chA a n c t k e h f), .int .i64 at1, .int .i64 by1] w fun r w' => r = .returned (.tuple #[.slice none 0 0, .int .i64 3]) ∧ Below w.heap.size w w' := by
  obtain ⟨w1, hw1⟩ : ∃ w1, w.alloc (.cells (chA a n c t k e h f) 24) = w1 := ⟨_, rfl⟩
  have B1 : Below w.heap.size w w1 := by rw [← hw1]; exact (Below.refl _ w).alloc (Nat.le_refl _) _
  have C1 : Ch w1 w.heap.size a n c t k e h f := by rw [← hw1]; exact Ch.new w a n c t k e h f
  have HMY := hide (May_any a n c Z t k e h f he1 he2 w1 (hz.mono B1) (hT.mono B1))
  rw [dB_t hM] at HMY
  have HB1 := hide B1
  have hn : n = 64 := by have := hz.len; have := hM.std.1; omega
  subst hn
  have HCH : Hid (∀ W, Below w1.heap.size w1 W → Ch W w.heap.size a 64 c t k e h f) := hide (fun W hb => C1.below hb C1.lt)
  have HZW : Hid (∀ W, Below w1.heap.size w1 W → Rd W a 64 c Z) := hide (fun W hb => (hz.mono B1).mono hb)
  have HTW : Hid (∀ W, Below w1.heap.size w1 W → Tabs W) := hide (fun W hb => (hT.mono B1).mono hb)
  clear B1 hz hT
  have HIS := hide (isSide_any by1)
  have hR3 : at1 < 0 ∨ (¬ at1 < 0 ∧ 64 ≤ at1) ∨ (¬ at1 < 0 ∧ ¬ 64 ≤ at1 ∧ ¬ (by1 = 0 ∨ by1 = 1)) := by omega
  clear hR
  go_enter Tryd.func4, Tryd.ntmps4
  go_upto_region 1 with fail
  clear hw1
  go_wp2_with (refine wpList_load_ch rfl (.tmp 3) rfl w.heap.size rfl C1 ?_)
  refine HMY.out.mono ?_
  rintro r w2 ⟨rfl, hb2⟩
  obtain ⟨g0, g1, -, -, -, -⟩ := (HCH.out w2 hb2).cells
  have HB2 := hide hb2
  clear hb2
  rcases hR3 with q | ⟨q, q2⟩ | ⟨q, q2, q3⟩
  · go_wp2_with fail
    go_ret2
    exact ⟨rfl, HB1.out.trans (HB2.out.mono HB1.out.size)⟩
  · go_wp2_with fail
    go_ret2
    exact ⟨rfl, HB1.out.trans (HB2.out.mono HB1.out.size)⟩
  · rw [decide_eq_false q3] at HIS
    clear q3
    go_wp2_with (go_at_call 14; refine (HIS.out _).mono ?_; rintro r w5 ⟨rfl, hw⟩; subst w5)
    go_ret2
    exact ⟨rfl, HB1.out.trans (HB2.out.mono HB1.out.size)⟩

set_option maxRecDepth 100000 in
theorem Attackers_yes (at1 by1 : Nat) (hM : MayC Z t k e h f) (ha : at1 < 64) (hb : by1 ≤ 1) :
    Calls Tryd.prog 4 #[.agg (chA a n c t k e h f), .int .i64 at1, .int .i64 by1] w fun r w' => ∃ a' m c', r = .returned (.tuple #[.slice a' m c', .int .i64 0]) ∧ Rd w' a' m c' (toI (atL Z at1 by1)) ∧ Below w.heap.size w w' := by
  obtain ⟨w1, hw1⟩ : ∃ w1, w.alloc (.cells (chA a n c t k e h f) 24) = w1 := ⟨_, rfl⟩
  have B1 : Below w.heap.size w w1 := by rw [← hw1]; exact (Below.refl _ w).alloc (Nat.le_refl _) _
  have C1 : Ch w1 w.heap.size a n c t k e h f := by rw [← hw1]; exact Ch.new w a n c t k e h f
  have HMY := hide (May_any a n c Z t k e h f he1 he2 w1 (hz.mono B1) (hT.mono B1))
  rw [dB_t hM] at HMY
  have HB1 := hide B1
  have hn : n = 64 := by have := hz.len; have := hM.std.1; omega
  subst hn
  have HCH : Hid (∀ W, Below w1.heap.size w1 W → Ch W w.heap.size a 64 c t k e h f) := hide (fun W hb => C1.below hb C1.lt)
  have HZW : Hid (∀ W, Below w1.heap.size w1 W → Rd W a 64 c Z) := hide (fun W hb => (hz.mono B1).mono hb)
  have HTW : Hid (∀ W, Below w1.heap.size w1 W → Tabs W) := hide (fun W hb => (hT.mono B1).mono hb)
  clear B1 hz hT
  have HIS := hide (isSide_any (by1 : Int))
  rw [decide_eq_true (show (by1 : Int) = 0 ∨ (by1 : Int) = 1 by omega)] at HIS
  have HAT := hide (fun w => attackers_any a c at1 by1 w)
  have HSO := hide (fun bb ab eb lb W hR => sorted_any bb ab eb lb by1 at1 a c Z ha (by omega) hM.std.pz W hR)
  clear hM
  go_enter Tryd.func4, Tryd.ntmps4
  go_upto_region 1 with fail
  clear hw1
  go_wp2_with (refine wpList_load_ch rfl (.tmp 3) rfl w.heap.size rfl C1 ?_)
  refine HMY.out.mono ?_
  rintro r w2 ⟨rfl, hb2⟩
  obtain ⟨g0, g1, -, -, -, -⟩ := (HCH.out w2 hb2).cells
  have HB2 := hide hb2
  clear hb2
  go_wp2_with (go_at_call 14; refine (HIS.out _).mono ?_; rintro r w5 ⟨rfl, hw⟩; subst w5)
  refine (HAT.out _).mono ?_
  rintro r w3 ⟨rfl, hw3⟩
  have R3 := AkR.new at1 by1 (HZW.out w2 HB2.out) (HTW.out w2 HB2.out).s
  rw [← hw3] at R3
  have B3 : Below w2.heap.size w2 w3 := by
    rw [hw3]; exact ((((Below.refl w2.heap.size w2).alloc (Nat.le_refl _) _).alloc (by simp) _).alloc (by simp; omega) _).alloc (by simp; omega) _
  have HB3 : Hid (Below w1.heap.size w1 w3) := hide (HB2.out.trans (B3.mono HB2.out.size))
  have HS3 := hide (HSO.out _ _ _ _ w3 R3)
  clear hw3 R3 B3 HSO HAT
  go_wp2_with fail
  refine HS3.out.mono ?_
  rintro r w4 ⟨a', m, c', rfl, hR4, hb4⟩
  have HR4 := hide hR4
  have HB4 : Hid (Below w1.heap.size w1 w4) := hide (HB3.out.trans (hb4.mono HB3.out.size))
  clear hR4 hb4 HS3
  go_wp2_with fail
  go_ret2
  exact ⟨a', m, c', rfl, HR4.out, HB1.out.trans (HB4.out.mono HB1.out.size)⟩

set_option maxRecDepth 100000 in
theorem Check_yes (tn : Nat) (htn : t = (tn : Int)) (htb : tn ≤ 1) (hM : MayC Z t k e h f) :
    Calls Tryd.prog 6 #[.agg (chA a n c t k e h f)] w fun r w' => r = .returned (.tuple #[.bool (chk Z tn), .int .i64 0]) ∧ Below w.heap.size w w' := by
  obtain ⟨w1, hw1⟩ : ∃ w1, w.alloc (.cells (chA a n c t k e h f) 24) = w1 := ⟨_, rfl⟩
  have B1 : Below w.heap.size w w1 := by rw [← hw1]; exact (Below.refl _ w).alloc (Nat.le_refl _) _
  have C1 : Ch w1 w.heap.size a n c t k e h f := by rw [← hw1]; exact Ch.new w a n c t k e h f
  have HMY := hide (May_any a n c Z t k e h f he1 he2 w1 (hz.mono B1) (hT.mono B1))
  rw [dB_t hM] at HMY
  have HB1 := hide B1
  have hn : n = 64 := by have := hz.len; have := hM.std.1; omega
  subst hn
  have HCH : Hid (∀ W, Below w1.heap.size w1 W → Ch W w.heap.size a 64 c t k e h f) := hide (fun W hb => C1.below hb C1.lt)
  have HZW : Hid (∀ W, Below w1.heap.size w1 W → Rd W a 64 c Z) := hide (fun W hb => (hz.mono B1).mono hb)
  have HTW : Hid (∀ W, Below w1.heap.size w1 W → Tabs W) := hide (fun W hb => (hT.mono B1).mono hb)
  clear B1 hz hT
  have HIC : Hid (∀ W, Below w1.heap.size w1 W → Calls Tryd.prog 18 #[.slice a 64 c, .int .i64 t] W fun e w' => e = .returned (.bool (chk Z tn)) ∧ Below W.heap.size W w') := hide (fun W hb => by rw [htn]; exact inCheck_std a c Z tn htb hM.std W (HZW.out W hb) (HTW.out W hb).s)
  clear hM htn
  go_enter Tryd.func6, Tryd.ntmps6
  go_upto_region 1 with fail
  clear hw1
  go_wp2_with (refine wpList_load_ch rfl (.tmp 1) rfl w.heap.size rfl C1 ?_)
  refine HMY.out.mono ?_
  rintro r w2 ⟨rfl, hb2⟩
  obtain ⟨g0, g1, -, -, -, -⟩ := (HCH.out w2 hb2).cells
  have HB2 := hide hb2
  clear hb2
  go_wp2_with fail
  refine (HIC.out w2 HB2.out).mono ?_
  rintro r w3 ⟨rfl, hb3⟩
  have HB3 : Hid (Below w1.heap.size w1 w3) := hide (HB2.out.trans (hb3.mono HB2.out.size))
  clear hb3
  go_wp2_with fail
  go_ret2
  exact ⟨rfl, HB1.out.trans (HB3.out.mono HB1.out.size)⟩

set_option maxRecDepth 100000 in
set_option maxHeartbeats 4000000 in
theorem Material_yes (hM : MayC Z t k e h f) :
    Calls Tryd.prog 7 #[.agg (chA a n c t k e h f)] w fun r w' => r = .returned (.tuple #[.int .i64 (mS Z 64), .bool (tl Z), .int .i64 0]) ∧ Below w.heap.size w w' := by
  obtain ⟨w1, hw1⟩ : ∃ w1, w.alloc (.cells (chA a n c t k e h f) 24) = w1 := ⟨_, rfl⟩
  have B1 : Below w.heap.size w w1 := by rw [← hw1]; exact (Below.refl _ w).alloc (Nat.le_refl _) _
  have C1 : Ch w1 w.heap.size a n c t k e h f := by rw [← hw1]; exact Ch.new w a n c t k e h f
  have HMY := hide (May_any a n c Z t k e h f he1 he2 w1 (hz.mono B1) (hT.mono B1))
  rw [dB_t hM] at HMY
  have HB1 := hide B1
  have hn : n = 64 := by have := hz.len; have := hM.std.1; omega
  subst hn
  have HCH : Hid (∀ W, Below w1.heap.size w1 W → Ch W w.heap.size a 64 c t k e h f) := hide (fun W hb => C1.below hb C1.lt)
  have HZW : Hid (∀ W, Below w1.heap.size w1 W → Rd W a 64 c Z) := hide (fun W hb => (hz.mono B1).mono hb)
  have HTW : Hid (∀ W, Below w1.heap.size w1 W → Tabs W) := hide (fun W hb => (hT.mono B1).mono hb)
  clear B1 hz hT
  have HLE : Hid (∀ W, Below w1.heap.size w1 W → Calls Tryd.prog 19 #[.slice a 64 c] W fun e w' => e = .returned (.int .i64 (mS Z 64)) ∧ w' = W) := hide (fun W hb => lead_any a c Z hM.std.pz W (HZW.out W hb) (HTW.out W hb).w)
  have HTL : Hid (∀ W, Below w1.heap.size w1 W → Calls Tryd.prog 20 #[.slice a 64 c] W fun e w' => e = .returned (.bool (tl Z)) ∧ Below W.heap.size W w') := hide (fun W hb => tooLittle_any a c Z hM.std.pz W (HZW.out W hb))
  clear hM
  go_enter Tryd.func7, Tryd.ntmps7
  go_upto_region 1 with fail
  clear hw1
  go_wp2_with (refine wpList_load_ch rfl (.tmp 1) rfl w.heap.size rfl C1 ?_)
  refine HMY.out.mono ?_
  rintro r w2 ⟨rfl, hb2⟩
  obtain ⟨g0, g1, -, -, -, -⟩ := (HCH.out w2 hb2).cells
  have HB2 := hide hb2
  clear hb2
  go_upto_region 3 with fail
  refine wp_region_held (S := fun W5 => Below w1.heap.size w1 W5) (by kernel_rfl) ?_
  change wpAnyH _ _ _ _ _ _ _ _ (World.drew _)
  have SW : Below w1.heap.size w1 w2.drew := HB2.out.drew
  refine wpAnyH_take (i := 0) (v := .pointer (some ⟨w.heap.size, 0, none⟩)) rfl (by kernel_rfl) (by kernel_rfl) (by kernel_rfl) (fun _ _ _ h => h) (Or.inl ⟨by rfl, ?_⟩) SW ?_
  · intro W5 hW5
    go_simp <;> first | done | rfl
  go_simp
  refine wpAnyH_take (i := 1) (v := .slice a 64 c) rfl (by kernel_rfl) (by kernel_rfl) (by kernel_rfl) (fun _ _ _ h => h) (Or.inl ⟨by rfl, ?_⟩) SW ?_
  · intro W5 hW5
    obtain ⟨x0, -, -, -, -, -⟩ := (HCH.out W5 hW5).cells
    go_simp <;> first | done | rfl
  go_simp
  refine wpAnyH_take (i := 3) (v := .pointer (some ⟨w.heap.size, 0, none⟩)) rfl (by kernel_rfl) (by kernel_rfl) (by kernel_rfl) (fun _ _ _ h => h) (Or.inl ⟨by rfl, ?_⟩) SW ?_
  · intro W5 hW5
    go_simp <;> first | done | rfl
  go_simp
  refine wpAnyH_take (i := 4) (v := .slice a 64 c) rfl (by kernel_rfl) (by kernel_rfl) (by kernel_rfl) (fun _ _ _ h => h) (Or.inl ⟨by rfl, ?_⟩) SW ?_
  · intro W5 hW5
    obtain ⟨x0, -, -, -, -, -⟩ := (HCH.out W5 hW5).cells
    go_simp <;> first | done | rfl
  go_simp
  refine wpAnyH_ready (rs := [2]) (by kernel_rfl) (by simp) ?_
  refine AllReadyH.cons rfl (fun K1 hK1 => ?_) AllReadyH.nil
  go_simp
  refine (HLE.out _ SW).mono ?_
  rintro r w5 ⟨rfl, hw⟩
  subst w5
  refine hK1.out _ _ SW (fun SW => ?_)
  clear hK1 K1
  go_simp
  refine wpAnyH_ready (rs := [5]) (by kernel_rfl) (by simp) ?_
  refine AllReadyH.cons rfl (fun K1 hK1 => ?_) AllReadyH.nil
  go_simp
  refine (HTL.out _ SW).mono ?_
  rintro r w6 ⟨rfl, hb6⟩
  have B6 := SW.trans (hb6.mono SW.size)
  refine hK1.out _ _ B6 (fun SW => ?_)
  clear hK1 K1 hb6
  have HB6 := hide B6
  clear B6
  go_simp
  refine wpAnyH_take (i := 6) (v := .int .i64 (mS Z 64)) rfl (by kernel_rfl) (by kernel_rfl) (by kernel_rfl) (fun _ _ _ h => h) (Or.inl ⟨by rfl, ?_⟩) SW ?_
  · intro W5 hW5
    go_simp <;> first | done | rfl
  go_simp
  refine wpAnyH_take (i := 7) (v := .bool (tl Z)) rfl (by kernel_rfl) (by kernel_rfl) (by kernel_rfl) (fun _ _ _ h => h) (Or.inl ⟨by rfl, ?_⟩) SW ?_
  · intro W5 hW5
    go_simp <;> first | done | rfl
  go_simp
  refine wpAnyH_take (i := 8) (v := .int .i64 0) rfl (by kernel_rfl) (by kernel_rfl) (by kernel_rfl) (fun _ _ _ h => h) (Or.inl ⟨by rfl, ?_⟩) SW ?_
  · intro W5 hW5
    go_simp <;> first | done | rfl
  go_simp
  refine wpAnyH_done (by kernel_rfl) ?_ _
  have HBE := hide SW
  clear SW
  go_wp2_with fail
  go_ret3
  exact ⟨rfl, HB1.out.trans (HBE.out.mono HB1.out.size)⟩

end

end Go.Proofs.YtdblmcihklcenaaDoor
