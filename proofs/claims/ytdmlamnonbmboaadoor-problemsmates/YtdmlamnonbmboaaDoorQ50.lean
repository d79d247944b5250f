/-
  Chess problems: the face Covered, walked. No conditions beyond those that each theorem bears.
  Chess problems: the places that a side covers, as the document finds them, walked. No conditions beyond those that each theorem bears.
  Chess problems: Mate and Covered beside what the document says: the law, walked. No conditions beyond those that each theorem bears.
-/
import Derived.Test.YtdmlamnonbmboaaDoorQ14
import Derived.Test.YtdmlamnonbmboaaDoorQ49
import Derived.Test.YtdmlamnonbmboaaDoorQ47
import Derived.Test.YtdmlamnonbmboaaDoorQ15
import Derived.Test.YtdmlamnonbmboaaDoorQ03
import Derived.Test.YtdmlamnonbmboaaDoorQ39
namespace Go.Proofs.YtdmlamnonbmboaaDoor
open Go.RowKit Go.Shelf

attribute [local irreducible] cvL MayC
attribute [local go_sem] Oper.semAt_some wide_fn wide_fn0 wide_depth

section
variable (a : Option Addr) (n c : Nat) (Z : List Int) (t k e h f : Int) (he1 : -9223372036854775808 ≤ e) (he2 : e ≤ 9223372036854775807) (w : World) (hz : Rd w a n c Z) (hT : Tabs w)
include he1 he2 hz hT
set_option maxRecDepth 100000 in
set_option maxHeartbeats 1000000 in
theorem Covered_no (by_ : Int) (hM : ¬ MayC Z t k e h f) :
    Calls Tryd.prog 7 #[.agg (chA a n c t k e h f), .int .i64 by_] w fun r w' => r = .returned (.tuple #[.slice none 0 0, .int .i64 12]) ∧ Below w.heap.size w w' := by
  obtain ⟨w1, hw1⟩ : ∃ w1, w.alloc (.cells (chA a n c t k e h f) 24) = w1 := ⟨_, rfl⟩
  have B1 : Below w.heap.size w w1 := by rw [← hw1]; exact (Below.refl _ w).alloc (Nat.le_refl _) _
  have C1 : Ch w1 w.heap.size a n c t k e h f := by rw [← hw1]; exact Ch.new w a n c t k e h f
  have HMY := hide (May_any a n c Z t k e h f he1 he2 w1 (hz.mono B1) (hT.mono B1))
  rw [dB_f hM] at HMY
  have HB1 := hide B1
  clear B1 hz hT
  go_enter Tryd.func7, Tryd.ntmps7
  go_upto_region 1 with fail
  clear hw1
  go_wp2_with (refine wpList_load_ch rfl (.tmp 2) rfl w.heap.size rfl C1 ?_)
  refine HMY.out.mono ?_
  rintro r w2 ⟨rfl, hb2⟩
  have HB2 := hide (HB1.out.trans (hb2.mono HB1.out.size))
  clear hb2
  go_wp2_with fail
  try simp only [Exit.inBlock, Exit.then]
  refine bodyPost_ret (results_tmp2 rfl _ _ _) rfl ?_
  exact ⟨rfl, HB2.out⟩

set_option maxRecDepth 100000 in
set_option maxHeartbeats 1000000 in
theorem Covered_range (by_ : Int) (hM : MayC Z t k e h f) (hb : ¬ (by_ = 0 ∨ by_ = 1)) :
    Calls Tryd.prog 7 #[.agg (chA a n c t k e h f), .int .i64 by_] w fun r w' => r = .returned (.tuple #[.slice none 0 0, .int .i64 3]) ∧ Below w.heap.size w w' := by
  obtain ⟨w1, hw1⟩ : ∃ w1, w.alloc (.cells (chA a n c t k e h f) 24) = w1 := ⟨_, rfl⟩
  have B1 : Below w.heap.size w w1 := by rw [← hw1]; exact (Below.refl _ w).alloc (Nat.le_refl _) _
  have C1 : Ch w1 w.heap.size a n c t k e h f := by rw [← hw1]; exact Ch.new w a n c t k e h f
  have HMY := hide (May_any a n c Z t k e h f he1 he2 w1 (hz.mono B1) (hT.mono B1))
  rw [dB_t hM] at HMY
  have HSI := hide (isSide_any by_)
  rw [decide_eq_false hb] at HSI
  have HB1 := hide B1
  clear B1 hz hT hb
  go_enter Tryd.func7, Tryd.ntmps7
  go_upto_region 1 with fail
  clear hw1
  go_wp2_with (refine wpList_load_ch rfl (.tmp 2) rfl w.heap.size rfl C1 ?_)
  refine HMY.out.mono ?_
  rintro r w2 ⟨rfl, hb2⟩
  have HB2 := hide (HB1.out.trans (hb2.mono HB1.out.size))
  clear hb2
  go_wp2_with (refine (HSI.out _).mono ?_; rintro r w5 ⟨rfl, hw⟩; subst w5)
  try simp only [Exit.inBlock, Exit.then]
  refine bodyPost_ret (results_tmp2 rfl _ _ _) rfl ?_
  exact ⟨rfl, HB2.out⟩
end

set_option maxRecDepth 100000 in
set_option maxHeartbeats 1000000 in
theorem Covered_yes (a : Option Addr) (c : Nat) (Z : List Int) (t k e h f : Int) (he1 : -9223372036854775808 ≤ e) (he2 : e ≤ 9223372036854775807) (w : World) (hz : Rd w a 64 c Z) (hT : Tabs w) (b : Nat) (hb : b ≤ 1) (hM : MayC Z t k e h f) :
    Calls Tryd.prog 7 #[.agg (chA a 64 c t k e h f), .int .i64 (b : Nat)] w fun r w' => ∃ a' c', r = .returned (.tuple #[.slice a' (cvL Z b 64).length c', .int .i64 0]) ∧ Rd w' a' (cvL Z b 64).length c' (toI (cvL Z b 64)) ∧ Below w.heap.size w w' := by
  obtain ⟨w1, hw1⟩ : ∃ w1, w.alloc (.cells (chA a 64 c t k e h f) 24) = w1 := ⟨_, rfl⟩
  have B1 : Below w.heap.size w w1 := by rw [← hw1]; exact (Below.refl _ w).alloc (Nat.le_refl _) _
  have C1 : Ch w1 w.heap.size a 64 c t k e h f := by rw [← hw1]; exact Ch.new w a 64 c t k e h f
  have HMY := hide (May_any a 64 c Z t k e h f he1 he2 w1 (hz.mono B1) (hT.mono B1))
  rw [dB_t hM] at HMY
  have HSI := hide (isSide_any (b : Nat))
  rw [decide_eq_true (by omega)] at HSI
  have HCH : Hid (∀ W, Below w1.heap.size w1 W → Ch W w.heap.size a 64 c t k e h f) := hide (fun W hb => C1.below hb C1.lt)
  have HCV : Hid (∀ W, Below w1.heap.size w1 W → Calls Tryd.prog 23 #[.slice a 64 c, .int .i64 (b : Nat)] W fun r w' => ∃ a' c', r = .returned (.slice a' (cvL Z b 64).length c') ∧ Rd w' a' (cvL Z b 64).length c' (toI (cvL Z b 64)) ∧ Below W.heap.size W w') := hide (fun W hW => covered_any a c Z b hb hM.std.pz W ((hz.mono B1).mono hW) ((hT.mono B1).mono hW).1)
  have HB1 := hide B1
  clear B1 hz hT hb hM
  go_enter Tryd.func7, Tryd.ntmps7
  go_upto_region 1 with fail
  clear hw1
  go_wp2_with (refine wpList_load_ch rfl (.tmp 2) rfl w.heap.size rfl C1 ?_)
  refine HMY.out.mono ?_
  rintro r w2 ⟨rfl, hb2⟩
  have HB2 : Hid (Below w1.heap.size w1 w2) := hide hb2
  obtain ⟨y0, -, -, -, -, -⟩ := (HCH.out w2 hb2).cells
  clear hb2 C1
  go_wp2_with (first | (refine (HSI.out _).mono ?_; rintro r w5 ⟨rfl, hw⟩; subst w5) | (refine (HCV.out w2 HB2.out).mono ?_))
  rintro r w3 ⟨a', c', rfl, hr, hb3⟩
  have HB3 := hide (HB1.out.trans ((HB2.out.trans (hb3.mono HB2.out.size)).mono HB1.out.size))
  have HR3 := hide hr
  clear hb3 hr
  go_wp2_with fail
  try simp only [Exit.inBlock, Exit.then]
  refine bodyPost_ret (results_tmp2 rfl _ _ _) rfl ?_
  exact ⟨a', c', rfl, HR3.out, HB3.out⟩

end Go.Proofs.YtdmlamnonbmboaaDoor

namespace Go.Proofs.YtdmlamnonbmboaaDoor
open Go.RowKit Go.Shelf

attribute [local irreducible] cvB cvL atL

set_option maxRecDepth 100000 in
set_option maxHeartbeats 4000000 in
theorem CoveredOf_any (a : Option Addr) (c : Nat) (Z : List Int) (t k e h f : Int) (b : Nat) (hz : Pz Z) (w : World) (hR : Rd w a 64 c Z) :
    Calls Tryd.prog 10 #[.agg (chA a 64 c t k e h f), .int .i64 (b : Nat)] w fun r w' => ∃ a' c', r = .returned (.slice a' (cvL Z b 64).length c') ∧ Rd w' a' (cvL Z b 64).length c' (toI (cvL Z b 64)) ∧ Below w.heap.size w w' := by
  obtain ⟨g, hg⟩ : ∃ g, w.heap.size = g := ⟨_, rfl⟩
  obtain ⟨w1, hw1⟩ : ∃ w1, w.alloc (.cells (chA a 64 c t k e h f) 24) = w1 := ⟨_, rfl⟩
  have B1 : Below w.heap.size w w1 := by rw [← hw1]; exact (Below.refl _ w).alloc (Nat.le_refl _) _
  have C1 : Ch w1 g a 64 c t k e h f := by rw [← hw1, ← hg]; exact Ch.new w a 64 c _ _ _ _ _
  have s1 : w1.heap.size = g + 1 := by rw [← hw1, ← hg]; simp
  have R1 := hR.mono B1
  have HCH : Hid (∀ W, Below w1.heap.size w1 W → Ch W g a 64 c t k e h f) := hide (fun W hb => C1.below hb C1.lt)
  have HAO : Hid (∀ (j : Nat), j < 64 → ∀ W, Below w1.heap.size w1 W → Calls Tryd.prog 27 #[.slice a 64 c, .int .i64 j, .int .i64 b] W fun r w' => ∃ a' c', r = .returned (.slice a' (atL Z j b).length c') ∧ Below W.heap.size W w') := hide (fun j hj W hb => (AttackersOf_any a c Z j b hj hz W (R1.mono hb)).mono (fun r w' ⟨a', c', h1, _, h3⟩ => ⟨a', c', h1, h3⟩))
  have HCB : Hid (∀ j, cvB Z b j = decide (0 < (atL Z j b).length)) := hide (fun j => by
    unfold cvB
    rw [decide_eq_decide, List.length_pos_iff])
  have HB1 := hide B1
  have HS1 := hide s1
  have HG := hide hg
  clear B1 R1 hR s1
  go_enter Tryd.func10, Tryd.ntmps10
  go_upto_region 1 with fail
  try rw [hg]
  clear hw1 hg
  go_wp2_with fail
  go_loopw [5, 6] (fun u v wr => ∃ (j cp : Nat) (ad : Option Addr), v = .int .i64 j ∧ j ≤ 64 ∧ u = .slice ad (cvL Z b j).length cp ∧ Hid (wr.ownsRow w1.heap.size 3 1 (.slice ad (cvL Z b j).length cp) (cvL Z b j).length ((toI (cvL Z b j)).map (Value.int .i64))) ∧ Hid (Below w1.heap.size w1 wr)) (fun _ v _ => 64 - (intOf v).toNat)
  case atStart =>
    refine ⟨0, 0, none, rfl, by omega, ?_, ?_, hide (Below.refl _ _)⟩
    · rw [cvL_zero]; rfl
    · rw [cvL_zero]; exact hide (World.ownsRow_nil _ _ _ _)
  case round =>
    obtain ⟨j, cp, ad, rfl, hj, rfl, hO, hB⟩ := hrel
    by_cases hlt : j < 64
    · have hlt' : (j : Int) < 64 := by omega
      obtain ⟨y0, -, -, -, -, -⟩ := (HCH.out wr hB.out).cells
      have hml := cvL_len Z b j
      have HAJ := hide (HAO.out j hlt wr hB.out)
      have HI := hide (fun h => cvL_in (Z := Z) (b := b) (j := j) h)
      have HU := hide (fun h => cvL_out (Z := Z) (b := b) (j := j) h)
      have hcb := HCB.out j
      obtain ⟨M, hM⟩ : ∃ M, (atL Z j b).length = M := ⟨_, rfl⟩
      rw [hM] at hcb HAJ
      clear hM
      have HBJ := hide hB.out
      go_wp2_with (refine HAJ.out.mono ?_)
      rintro r w2 ⟨a2, c2, rfl, hb2⟩
      have HB2 : Hid (Below w1.heap.size w1 w2) := hide (HBJ.out.trans (hb2.mono HBJ.out.size))
      have HO2 : Hid (w2.ownsRow w1.heap.size 3 1 (.slice ad (cvL Z b j).length cp) (cvL Z b j).length ((toI (cvL Z b j)).map (Value.int .i64))) := hide (own_blk hO.out (fun q hq => hb2.block q (hO.out.lt q hq).2))
      have hsz := HB2.out.size
      clear hb2 hO hB HBJ
      by_cases hp : 0 < M
      · have hp' : (0 : Int) < (M : Int) := by omega
        have HE := hide (HI.out (by rw [hcb]; exact decide_eq_true hp))
        have hR1 : Rd (World.alloc w2 (.cells #[.int .i64 (j : Nat)] 3)) (some ⟨w2.heap.size, 0, none⟩) 1 1 [((j : Nat) : Int)] := Rd.of_blk (Blk.new w2 3 [((j : Nat) : Int)] _ rfl) rfl (by decide)
        have hOa := HO2.out.alloc (.cells #[.int .i64 (j : Nat)] 3)
        have hBa := HB2.out.alloc HB2.out.size (.cells #[.int .i64 (j : Nat)] 3)
        have hsa := hBa.size
        have HPL : Hid ((cvL Z b (j + 1)).length = (cvL Z b j).length + 1) := hide (by rw [HE.out]; simp)
        have HPI : Hid (toI (cvL Z b (j + 1)) = toI (cvL Z b j) ++ [((j : Nat) : Int)]) := hide (by rw [HE.out, toI_snoc])
        generalize hpl : (cvL Z b j).length = N at *
        clear hpl HI HU
        go_wp2_with (at_builtin; refine wpList_append_rd _ rfl _ _ rfl w1.heap.size _ N (toI (cvL Z b j)) rfl hOa (some ⟨w2.heap.size, 0, none⟩) 1 1 [((j : Nat) : Int)] rfl hR1 (by omega) hsa ?_)
        intro v' w6 hO6 hg6
        obtain ⟨ad6, cp6, rfl⟩ := slice_form hO6
        have HB6 := hide (hBa.grown hg6 (by omega) (fun q hq => by rcases HO2.out.2 with ⟨e, _⟩ | ⟨g', cap, cur, e, hbg, _⟩ <;> rw [e] at hq <;> simp [Value.ownBlock] at hq; omega))
        have HO6 := hide hO6
        clear hO6 hg6 hR1 hOa hBa
        go_wp2_with fail
        refine ⟨⟨j + 1, cp6, ad6, by go_num, by omega, ?_, ?_, HB6⟩, by simp [intOf]; omega⟩
        · rw [HPL.out]
        · rw [HPL.out, HPI.out, List.map_append]; exact HO6
      · have hp' : ¬ (0 : Int) < (M : Int) := by omega
        have HE := hide (HU.out (by rw [hcb]; exact decide_eq_false hp))
        clear HI HU
        go_wp2_with fail
        refine ⟨⟨j + 1, cp, ad, by go_num, by omega, ?_, ?_, HB2⟩, by simp [intOf]; omega⟩
        · rw [HE.out]
        · rw [HE.out]; exact HO2
    · obtain rfl : j = 64 := by omega
      go_wp2_with fail
      go_ret
      exact ⟨ad, cp, rfl, Rd.of_own hO.out, HB1.out.trans (hB.out.mono HB1.out.size)⟩

end Go.Proofs.YtdmlamnonbmboaaDoor

namespace Go.Proofs.YtdmlamnonbmboaaDoor
open Go.RowKit Go.Shelf

/-- What Mate has told. -/
def MtW (p : Ps) (x nv : Int) (ad : Option Addr) (N cp : Nat) (ev : Int) (W : World) : Prop := ((x < 1 ∨ 2 < x) ∧ nv = 0 ∧ N = 0 ∧ ev = 3) ∨ (∃ xn : Nat, x = (xn : Int) ∧ 1 ≤ xn ∧ xn ≤ 2 ∧ nv = ((mtR p xn).1 : Nat) ∧ ev = 0 ∧ (mtR p xn).2.length = N ∧ Rm3 W ad N cp (mtR p xn).2)
/-- What Covered has told. -/
def CvW (Z : List Int) (y : Int) (ad : Option Addr) (N cp : Nat) (fv : Int) (W : World) : Prop := ((y < 0 ∨ 1 < y) ∧ N = 0 ∧ fv = 3) ∨ (∃ b : Nat, y = (b : Int) ∧ b ≤ 1 ∧ fv = 0 ∧ Rd W ad N cp (toI (cvL Z b 64)))

attribute [local irreducible] mvs msP mtR cvL MayC MayP

theorem Mate_all (a : Option Addr) (c : Nat) (p : Ps) (hM : MayP p) (hC : MayC p.Z (p.t : Nat) (p.k : Nat) p.e (p.h : Nat) (p.f : Nat)) (x : Int) (he1 : -9223372036854775808 ≤ p.e) (he2 : p.e ≤ 9223372036854775807) (w : World) (hz : Rd w a 64 c p.Z) (hT : Tabs w) :
    Calls Tryd.prog 5 #[.agg (chA a 64 c (p.t : Nat) (p.k : Nat) p.e (p.h : Nat) (p.f : Nat)), .int .i64 x] w fun r w' => ∃ nv ad N cp ev, r = .returned (.tuple #[.int .i64 nv, .slice ad N cp, .int .i64 ev]) ∧ MtW p x nv ad N cp ev w' ∧ Below w.heap.size w w' := by
  by_cases hx : x < 1 ∨ 2 < x
  · refine (Mate_range a 64 c p.Z _ _ _ _ _ he1 he2 w hz hT x hC hx).mono ?_
    rintro r w' ⟨rfl, hb⟩
    exact ⟨0, none, 0, 0, 3, rfl, .inl ⟨hx, rfl, rfl, rfl⟩, hb⟩
  · obtain ⟨xn, rfl⟩ := Int.eq_ofNat_of_zero_le (show 0 ≤ x by omega)
    refine (Mate_yes a c p hM xn (by omega) he1 he2 w hz hT).mono ?_
    rintro r w' ⟨v, rfl, hO, hb⟩
    obtain ⟨ad, cp, rfl⟩ := own_form26 hO
    exact ⟨_, ad, _, cp, 0, rfl, .inr ⟨xn, rfl, by omega, by omega, rfl, rfl, rfl, Rm3.of (Mr.of_own hO)⟩, hb⟩

theorem Covered_all (a : Option Addr) (c : Nat) (Z : List Int) (t k e h f : Int) (he1 : -9223372036854775808 ≤ e) (he2 : e ≤ 9223372036854775807) (hM : MayC Z t k e h f) (y : Int) (w : World) (hz : Rd w a 64 c Z) (hT : Tabs w) :
    Calls Tryd.prog 7 #[.agg (chA a 64 c t k e h f), .int .i64 y] w fun r w' => ∃ ad N cp fv, r = .returned (.tuple #[.slice ad N cp, .int .i64 fv]) ∧ CvW Z y ad N cp fv w' ∧ Below w.heap.size w w' := by
  by_cases hy : y < 0 ∨ 1 < y
  · refine (Covered_range a 64 c Z t k e h f he1 he2 w hz hT y hM (by omega)).mono ?_
    rintro r w' ⟨rfl, hb⟩
    exact ⟨none, 0, 0, 3, rfl, .inl ⟨hy, rfl, rfl⟩, hb⟩
  · obtain ⟨b, rfl⟩ := Int.eq_ofNat_of_zero_le (show 0 ≤ y by omega)
    refine (Covered_yes a c Z t k e h f he1 he2 w hz hT b (by omega) hM).mono ?_
    rintro r w' ⟨ad, cp, rfl, hr, hb⟩
    exact ⟨ad, _, cp, 0, rfl, .inr ⟨b, rfl, by omega, rfl, hr⟩, hb⟩

attribute [local go_sem] Oper.semAt_some wide_fn wide_fn0 wide_depth

set_option maxRecDepth 100000 in
set_option maxHeartbeats 32000000 in
theorem mates_law (a : Option Addr) (n c : Nat) (Z : List Int) (t k e h f x y : Int) (he1 : -9223372036854775808 ≤ e) (he2 : e ≤ 9223372036854775807) (w : World) (hz : Rd w a n c Z) (hr : n * 8 ≤ 140737488351232) (hT : Tabs w) :
    Calls Tryd.prog 3 #[.agg (chA a n c t k e h f), .int .i64 x, .int .i64 y] w fun r w' => r = .returned (.bool true) ∧ Below w.heap.size w w' := by
  obtain ⟨w1, hw1⟩ : ∃ w1, w.alloc (.cells (chA a n c t k e h f) 24) = w1 := ⟨_, rfl⟩
  have B1 : Below w.heap.size w w1 := by rw [← hw1]; exact (Below.refl _ w).alloc (Nat.le_refl _) _
  have C1 : Ch w1 w.heap.size a n c t k e h f := by rw [← hw1]; exact Ch.new w a n c t k e h f
  have HB0 := hide B1
  have HCH : Hid (∀ W, Below w1.heap.size w1 W → Ch W w.heap.size a n c t k e h f) := hide (fun W hb => C1.below hb C1.lt)
  have HZW : Hid (∀ W, Below w1.heap.size w1 W → Rd W a n c Z) := hide (fun W hb => (hz.mono B1).mono hb)
  have HTW : Hid (∀ W, Below w1.heap.size w1 W → Tabs W) := hide (fun W hb => (hT.mono B1).mono hb)
  have HOF : Hid (∀ W, Below w1.heap.size w1 W → Calls Tryd.prog 6 #[.agg (chA a n c t k e h f)] W fun r w' => ∃ a' c', r = .returned (.agg (chA a' n c' t k e h f)) ∧ Rd w' a' n c' Z ∧ Below W.heap.size W w') := hide (fun W hb => ChessOf_any a n c Z t k e h f W (HZW.out W hb) hr)
  have HCM : Hid (∀ W, Below w1.heap.size w1 W → Calls Tryd.prog 8 #[.agg (chA a n c t k e h f)] W fun r w' => r = .returned (.bool (dB (MayC Z t k e h f))) ∧ Below W.heap.size W w') := hide (fun W hb => ChessMay_any a n c Z t k e h f he1 he2 W (HZW.out W hb))
  have HB1 : Hid (Below w1.heap.size w1 w1) := hide (Below.refl _ _)
  have hch := C1
  clear hz hT B1 C1
  by_cases hM : MayC Z t k e h f
  · rw [dB_t hM] at HCM
    have hn : n = 64 := by have := (HZW.out w1 HB1.out).len; have := hM.std.1; omega
    subst hn
    obtain ⟨p, hMp, rfl, rfl, rfl, rfl, rfl, rfl⟩ := ps_of hM
    have HMT := hide (fun a' c' W (hz : Rd W a' 64 c' p.Z) (hT : Tabs W) => Mate_all a' c' p hMp hM x he1 he2 W hz hT)
    have HCV := hide (fun a' c' W (hz : Rd W a' 64 c' p.Z) (hT : Tabs W) => Covered_all a' c' p.Z _ _ _ _ _ he1 he2 hM y W hz hT)
    have HMO := hide (fun xn (hx : 1 ≤ xn ∧ xn ≤ 2) W (hR : Rd W a 64 c p.Z) => MateOf_any a c p hMp xn hx W hR)
    have hpz := hM.std.pz
    have HCO := hide (fun (b : Nat) W (hR : Rd W a 64 c p.Z) => CoveredOf_any a c p.Z (p.t : Nat) (p.k : Nat) p.e (p.h : Nat) (p.f : Nat) b hpz W hR)
    clear hM hMp hpz
    go_enter Tryd.func3, Tryd.ntmps3
    go_upto_region 1 with fail
    clear hw1
    go_wp2_with (refine wpList_load_ch rfl (.tmp 3) rfl w.heap.size rfl hch ?_)
    refine (HOF.out w1 HB1.out).mono ?_
    rintro r w2 ⟨a2, c2, rfl, hR, hb⟩
    have HB2 : Hid (Below w1.heap.size w1 w2) := hide (HB1.out.trans (hb.mono HB1.out.size))
    have HR2 := hide hR
    clear hch hb hR
    go_wp2_with fail
    refine (HMT.out a2 c2 w2 HR2.out (HTW.out w2 HB2.out)).mono ?_
    rintro r w3 ⟨nv, al, NL, cl, ev, rfl, hmt, hb⟩
    have HB3 : Hid (Below w1.heap.size w1 w3) := hide (HB2.out.trans (hb.mono HB2.out.size))
    have hch := HCH.out w3 HB3.out
    have HMT3 := hide hmt
    clear hb hmt HMT
    go_wp2_with (refine wpList_load_ch rfl (.tmp 3) rfl w.heap.size rfl hch ?_)
    refine (HOF.out w3 HB3.out).mono ?_
    rintro r w4 ⟨a4, c4, rfl, hR, hb⟩
    have HB4 : Hid (Below w1.heap.size w1 w4) := hide (HB3.out.trans (hb.mono HB3.out.size))
    have HB34 : Hid (Below w3.heap.size w3 w4) := hide hb
    have HR4 := hide hR
    clear hch hb hR
    go_wp2_with fail
    refine (HCV.out a4 c4 w4 HR4.out (HTW.out w4 HB4.out)).mono ?_
    rintro r w5 ⟨ac, NC, cc, fv, rfl, hcv, hb⟩
    have HB5 : Hid (Below w1.heap.size w1 w5) := hide (HB4.out.trans (hb.mono HB4.out.size))
    have HB35 : Hid (Below w3.heap.size w3 w5) := hide (HB34.out.trans (hb.mono HB34.out.size))
    have HCV5 := hide hcv
    have hch := HCH.out w5 HB5.out
    clear hb hcv HCV HB34
    go_wp2_with (refine wpList_load_ch rfl (.tmp 3) rfl w.heap.size rfl hch ?_)
    refine (HCM.out w5 HB5.out).mono ?_
    rintro r w6 ⟨rfl, hb⟩
    have HB6 : Hid (Below w1.heap.size w1 w6) := hide (HB5.out.trans (hb.mono HB5.out.size))
    have HB36 : Hid (Below w3.heap.size w3 w6) := hide (HB35.out.trans (hb.mono HB35.out.size))
    have HB56 : Hid (Below w5.heap.size w5 w6) := hide hb
    clear hb hch HOF HCM HB35
    rcases HCV5.out with ⟨hy, rfl, rfl⟩ | ⟨b, rfl, hb1, rfl, hrd⟩
    · clear HCV5
      rcases hy with hy | hy
      · have hyn : ¬ 1 < y := by omega
        clear HB56
        rcases HMT3.out with ⟨hx, rfl, rfl, rfl⟩ | ⟨xn, rfl, hx1, hx2, rfl, rfl, hl, hrm⟩
        · rcases hx with hx | hx
          · have hxn : ¬ 2 < x := by omega
            go_wp2_with fail
            go_ret
            exact ⟨rfl, HB0.out.trans (HB6.out.mono HB0.out.size)⟩
          · have hxn : ¬ x < 1 := by omega
            go_wp2_with fail
            go_ret
            exact ⟨rfl, HB0.out.trans (HB6.out.mono HB0.out.size)⟩
        · have hx1' : ¬ (xn : Int) < 1 := by omega
          have hx2' : ¬ 2 < (xn : Int) := by omega
          have hch := HCH.out w6 HB6.out
          have HRL := hide (hrm.mono HB36.out)
          have HLL := hide hl
          have HMX := hide (HMO.out xn ⟨hx1, hx2⟩ w6 (HZW.out w6 HB6.out))
          clear HMT3 hrm hl HMO
          go_wp2_with (refine wpList_load_ch rfl (.tmp 3) rfl w.heap.size rfl hch ?_)
          refine HMX.out.mono ?_
          rintro r w9 ⟨a9, c9, rfl, hR9, hb⟩
          have HB9 : Hid (Below w1.heap.size w1 w9) := hide (HB6.out.trans (hb.mono HB6.out.size))
          have HR9 := hide hR9
          have HRL9 := hide (HRL.out.mono hb)
          rw [HLL.out] at HR9
          rw [HLL.out]
          clear hb hch hR9 HMX
          have HSM := hide (sameMoves_yes _ _ _ _ _ _ w9 HRL9.out HR9.out)
          clear HRL9 HR9 HRL
          go_wp2_with fail
          refine HSM.out.mono ?_
          rintro r w10 ⟨rfl, hb⟩
          have HB10 : Hid (Below w1.heap.size w1 w10) := hide (HB9.out.trans (hb.mono HB9.out.size))
          clear hb
          go_wp2_with fail
          go_ret
          exact ⟨rfl, HB0.out.trans (HB10.out.mono HB0.out.size)⟩
      · have hyn : ¬ y < 0 := by omega
        clear HB56
        rcases HMT3.out with ⟨hx, rfl, rfl, rfl⟩ | ⟨xn, rfl, hx1, hx2, rfl, rfl, hl, hrm⟩
        · rcases hx with hx | hx
          · have hxn : ¬ 2 < x := by omega
            go_wp2_with fail
            go_ret
            exact ⟨rfl, HB0.out.trans (HB6.out.mono HB0.out.size)⟩
          · have hxn : ¬ x < 1 := by omega
            go_wp2_with fail
            go_ret
            exact ⟨rfl, HB0.out.trans (HB6.out.mono HB0.out.size)⟩
        · have hx1' : ¬ (xn : Int) < 1 := by omega
          have hx2' : ¬ 2 < (xn : Int) := by omega
          have hch := HCH.out w6 HB6.out
          have HRL := hide (hrm.mono HB36.out)
          have HLL := hide hl
          have HMX := hide (HMO.out xn ⟨hx1, hx2⟩ w6 (HZW.out w6 HB6.out))
          clear HMT3 hrm hl HMO
          go_wp2_with (refine wpList_load_ch rfl (.tmp 3) rfl w.heap.size rfl hch ?_)
          refine HMX.out.mono ?_
          rintro r w9 ⟨a9, c9, rfl, hR9, hb⟩
          have HB9 : Hid (Below w1.heap.size w1 w9) := hide (HB6.out.trans (hb.mono HB6.out.size))
          have HR9 := hide hR9
          have HRL9 := hide (HRL.out.mono hb)
          rw [HLL.out] at HR9
          rw [HLL.out]
          clear hb hch hR9 HMX
          have HSM := hide (sameMoves_yes _ _ _ _ _ _ w9 HRL9.out HR9.out)
          clear HRL9 HR9 HRL
          go_wp2_with fail
          refine HSM.out.mono ?_
          rintro r w10 ⟨rfl, hb⟩
          have HB10 : Hid (Below w1.heap.size w1 w10) := hide (HB9.out.trans (hb.mono HB9.out.size))
          clear hb
          go_wp2_with fail
          go_ret
          exact ⟨rfl, HB0.out.trans (HB10.out.mono HB0.out.size)⟩
    · have hb0 : ¬ (b : Int) < 0 := by omega
      have hb2 : ¬ 1 < (b : Int) := by omega
      have hch := HCH.out w6 HB6.out
      have HRD := hide (hrd.mono HB56.out)
      clear HCV5 hrd HB56
      go_wp2_with (refine wpList_load_ch rfl (.tmp 3) rfl w.heap.size rfl hch ?_)
      refine (HCO.out b w6 (HZW.out w6 HB6.out)).mono ?_
      rintro r w7 ⟨a7, c7, rfl, hR7, hb⟩
      have HB7 : Hid (Below w1.heap.size w1 w7) := hide (HB6.out.trans (hb.mono HB6.out.size))
      have HB37 : Hid (Below w3.heap.size w3 w7) := hide (HB36.out.trans (hb.mono HB36.out.size))
      have hRD7 := HRD.out.mono hb
      have hsi := sameIntsL_any _ _ _ _ _ _ _ _ w7 hRD7 hR7
      rw [decide_eq_true (rfl : toI (cvL p.Z b 64) = toI (cvL p.Z b 64))] at hsi
      have HSI := hide hsi
      clear hb hch hRD7 hR7 HRD HB36 hsi
      go_wp2_with fail
      refine HSI.out.mono ?_
      rintro r w8 ⟨rfl, q, hw8⟩
      have hb : Below w7.heap.size w7 w8 := by rw [hw8]; exact drewN_below _ _ _
      have HB6 : Hid (Below w1.heap.size w1 w8) := hide (HB7.out.trans (hb.mono HB7.out.size))
      have HB36 : Hid (Below w3.heap.size w3 w8) := hide (HB37.out.trans (hb.mono HB37.out.size))
      clear hb hw8 HSI HB7 HB37
      rcases HMT3.out with ⟨hx, rfl, rfl, rfl⟩ | ⟨xn, rfl, hx1, hx2, rfl, rfl, hl, hrm⟩
      · rcases hx with hx | hx
        · have hxn : ¬ 2 < x := by omega
          go_wp2_with fail
          go_ret
          exact ⟨rfl, HB0.out.trans (HB6.out.mono HB0.out.size)⟩
        · have hxn : ¬ x < 1 := by omega
          go_wp2_with fail
          go_ret
          exact ⟨rfl, HB0.out.trans (HB6.out.mono HB0.out.size)⟩
      · have hx1' : ¬ (xn : Int) < 1 := by omega
        have hx2' : ¬ 2 < (xn : Int) := by omega
        have hch := HCH.out w8 HB6.out
        have HRL := hide (hrm.mono HB36.out)
        have HLL := hide hl
        have HMX := hide (HMO.out xn ⟨hx1, hx2⟩ w8 (HZW.out w8 HB6.out))
        clear HMT3 hrm hl HMO
        go_wp2_with (refine wpList_load_ch rfl (.tmp 3) rfl w.heap.size rfl hch ?_)
        refine HMX.out.mono ?_
        rintro r w9 ⟨a9, c9, rfl, hR9, hb⟩
        have HB9 : Hid (Below w1.heap.size w1 w9) := hide (HB6.out.trans (hb.mono HB6.out.size))
        have HR9 := hide hR9
        have HRL9 := hide (HRL.out.mono hb)
        rw [HLL.out] at HR9
        rw [HLL.out]
        clear hb hch hR9 HMX
        have HSM := hide (sameMoves_yes _ _ _ _ _ _ w9 HRL9.out HR9.out)
        clear HRL9 HR9 HRL
        go_wp2_with fail
        refine HSM.out.mono ?_
        rintro r w10 ⟨rfl, hb⟩
        have HB10 : Hid (Below w1.heap.size w1 w10) := hide (HB9.out.trans (hb.mono HB9.out.size))
        clear hb
        go_wp2_with fail
        go_ret
        exact ⟨rfl, HB0.out.trans (HB10.out.mono HB0.out.size)⟩
  · rw [dB_f hM] at HCM
    go_enter Tryd.func3, Tryd.ntmps3
    go_upto_region 1 with fail
    clear hw1
    go_wp2_with (refine wpList_load_ch rfl (.tmp 3) rfl w.heap.size rfl hch ?_)
    refine (HOF.out w1 HB1.out).mono ?_
    rintro r w2 ⟨a2, c2, rfl, hR, hb⟩
    have HB2 : Hid (Below w1.heap.size w1 w2) := hide (HB1.out.trans (hb.mono HB1.out.size))
    have HR2 := hide hR
    clear hch hb hR
    go_wp2_with fail
    refine (Mate_no a2 n c2 Z t k e h f he1 he2 w2 HR2.out (HTW.out w2 HB2.out) x hM).mono ?_
    rintro r w3 ⟨rfl, hb⟩
    have HB3 : Hid (Below w1.heap.size w1 w3) := hide (HB2.out.trans (hb.mono HB2.out.size))
    have hch := HCH.out w3 HB3.out
    clear hb
    go_wp2_with (refine wpList_load_ch rfl (.tmp 3) rfl w.heap.size rfl hch ?_)
    refine (HOF.out w3 HB3.out).mono ?_
    rintro r w4 ⟨a4, c4, rfl, hR, hb⟩
    have HB4 : Hid (Below w1.heap.size w1 w4) := hide (HB3.out.trans (hb.mono HB3.out.size))
    have HR4 := hide hR
    clear hch hb hR
    go_wp2_with fail
    refine (Covered_no a4 n c4 Z t k e h f he1 he2 w4 HR4.out (HTW.out w4 HB4.out) y hM).mono ?_
    rintro r w5 ⟨rfl, hb⟩
    have HB5 : Hid (Below w1.heap.size w1 w5) := hide (HB4.out.trans (hb.mono HB4.out.size))
    have hch := HCH.out w5 HB5.out
    clear hb
    go_wp2_with (refine wpList_load_ch rfl (.tmp 3) rfl w.heap.size rfl hch ?_)
    refine (HCM.out w5 HB5.out).mono ?_
    rintro r w6 ⟨rfl, hb⟩
    have HB6 : Hid (Below w1.heap.size w1 w6) := hide (HB5.out.trans (hb.mono HB5.out.size))
    clear hb hch
    go_wp2_with fail
    go_ret
    exact ⟨rfl, HB0.out.trans (HB6.out.mono HB0.out.size)⟩

end Go.Proofs.YtdmlamnonbmboaaDoor
