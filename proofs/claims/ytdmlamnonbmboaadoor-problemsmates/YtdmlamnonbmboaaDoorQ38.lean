/-
  Chess problems: the moves that mate, collected. No conditions beyond those that each theorem bears.
  Chess problems: the face Mate, where it refuses: walked. No conditions beyond those that each theorem bears.
  Chess problems: the face Mate, walked. No conditions beyond those that each theorem bears.
-/
import Derived.Test.YtdmlamnonbmboaaDoorQ36
import Derived.Test.YtdmlamnonbmboaaDoorQ37
import Derived.Test.YtdmlamnonbmboaaDoorQ14
namespace Go.Proofs.YtdmlamnonbmboaaDoor
open Go.RowKit Go.Shelf

theorem msP_len (n : Nat) (p : Ps) : (msP n p).length ≤ 16384 := Nat.le_trans (List.length_filter_le _ _) (mvs_len p)

attribute [local irreducible] mvs msP
attribute [local go_sem] Oper.semAt_some wide_fn wide_fn0 wide_depth

set_option maxRecDepth 100000 in
set_option maxHeartbeats 8000000 in
theorem appendMs_any (n : Nat) (hn : n ≤ 9) (sb nb : Nat) (p : Ps) (hM : MayP p) (w : World) (hR : MsR sb nb p n w) :
    Calls Tryd.prog 45 #[.slice none 0 0, .func (.func 46) #[] #[.pointer (some ⟨sb, 0, none⟩), .pointer (some ⟨nb, 0, none⟩)]] w fun e w' => ∃ v, e = .returned v ∧ w'.ownsRow w.heap.size 42 3 v (msP n p).length (flM (msP n p)) ∧ Below w.heap.size w w' := by
  have HLT := hide hR.lt
  have HSQ := hide (mates_seq n hn p hM sb nb)
  have hln := msP_len n p
  obtain ⟨XS, hXS⟩ : ∃ XS, msP n p = XS := ⟨_, rfl⟩
  rw [hXS] at HSQ hln ⊢
  clear hXS
  have HLN := hide hln
  obtain ⟨g, hg⟩ : ∃ g, w.heap.size = g := ⟨_, rfl⟩
  obtain ⟨w1, hw1⟩ : ∃ w1, w.alloc (.cells #[.slice none 0 0] 25) = w1 := ⟨_, rfl⟩
  have B1 : Below w.heap.size w w1 := by rw [← hw1]; exact (Below.refl _ w).alloc (Nat.le_refl _) _
  have s1 : w1.heap.size = g + 1 := by rw [← hw1, ← hg]; simp
  have R1 := hR.keeps (X := fun _ => False) (Keeps.of_all B1) (fun _ _ e => e)
  have HI1 : Hid (CmI g w (fun j => j = g) [] (.slice none 0 0) w1) := hide ⟨fun j => by simp [Value.ownBlock], by rw [← hw1, ← hg]; exact Vb.new w 25 [.slice none 0 0], World.ownsRow_nil _ _ _ _, B1⟩
  have HS1 := hide s1
  have HR1 := hide R1
  have HG := hide hg
  clear hR hln B1 R1
  refine (callsIn_wide (n := 3)).1 ?_
  refine callsIn_of_wp_marks Tryd.func45 rfl trivial ?_ rfl
  simp only [Tryd.ntmps45, List.size_toArray, List.length_cons, List.length_nil, Nat.reduceAdd, Nat.reduceSub, Array.replicate_succ, Array.replicate_zero, List.push_toArray, List.append_toArray, List.nil_append, List.cons_append]
  refine wpIn_wide.2 ?_
  go_upto_region 1 with fail
  try rw [hg]
  clear hw1 s1
  go_wp2_with fail
  refine (wpIn_wide (n := 1)).1 (wp_range_o (gf := 46) (lb := #[.pointer (some ⟨sb, 0, none⟩), .pointer (some ⟨nb, 0, none⟩)]) (G := MvG) (xs := XS) (R := MsR sb nb p n) (T := MsT sb nb) (by simp [Act.eval]) (enters_of Tryd.func46 (by kernel_rfl) rfl)
    HSQ.out (fun j hj => HR1.out.lt j hj) (fun A hA => HR1.out.keeps (X := fun _ => False) (Keeps.of_all hA) (fun _ _ h => h)) (fun x args W' hG => by rw [hG]; rfl)
    (fun O s W' => ∃ v, CmI g w O s v W') (fun _ _ _ => False) (fun j => j = g) ?hC ⟨_, HI1.out⟩ ?round ?done (fun _ _ _ _ _ h => h.elim))
  case hC =>
    intro d
    have z1 := HS1.out
    have zg := HG.out
    refine ⟨?_, (fun _ _ h => h.elim), ?_, (fun _ _ _ h => h.elim)⟩
    · rintro O s A ⟨v, h⟩ j hj
      rcases (h.o j).1 hj with rfl | e
      · exact ⟨h.b.lt, fun e => by have := HLT.out _ e; omega⟩
      · have := own_lt26 h.r e
        exact ⟨this.2, fun e => by have := HLT.out _ e; omega⟩
    · rintro O s A B ⟨v, h⟩ hk
      exact ⟨v, h.keeps hk (fun k e => ⟨by have := e.1; omega, e.2⟩)⟩
  case round =>
    rintro l2 O s m args W6 hl2 ⟨rec, hrec⟩ ⟨v, hI6⟩ hOl _ _ hpre hGx hsz6
    obtain rfl : args = #[mvV m] := hGx
    have hpl : s.length ≤ 16384 := by
      have h1 := hpre.length_le
      rw [List.length_append, List.length_singleton] at h1
      have h2 := HLN.out
      omega
    have HPL : Hid (s.length + 1 = (s ++ [m]).length) := hide (by simp)
    have HOL := hide hOl
    have HSZ6 := hide hsz6
    have HL2 := hide hl2
    obtain ⟨gA, hgA⟩ : ∃ gA, W6.heap.size = gA := ⟨_, rfl⟩
    obtain ⟨WB, hWB⟩ : ∃ WB, W6.alloc (.cells #[.int .i64 0, .int .i64 0, .int .i64 0] 42) = WB := ⟨_, rfl⟩
    have VB : Vb WB gA 42 [.int .i64 0, .int .i64 0, .int .i64 0] := by rw [← hWB, ← hgA]; exact Vb.new W6 42 _
    have BB : Below W6.heap.size W6 WB := by rw [← hWB]; exact (Below.refl _ _).alloc (Nat.le_refl _) _
    have HI6 := hide (hI6.keeps (X := fun _ => False) (Keeps.of_all BB) (fun _ e => e.elim))
    have HOO : Hid (∀ j, O j → j < W6.heap.size) := hide (fun j hj => by
      rcases (hI6.o j).1 hj with rfl | e
      · exact hI6.b.lt
      · exact (own_lt26 hI6.r e).2)
    have HBB := hide BB
    have HGA := hide hgA
    clear hI6 hpre hrec hOl hsz6 hl2 BB
    gi_wp2_with (refine wpListIn_store_vb rfl 42 (.tmp 5) (.tmp 7) rfl gA (mvC m) _ (by simp [Act.eval]) rfl VB rfl row26 (mvC_one m) ?_; intro WC VC KC)
    clear hWB VB
    have BC : Below W6.heap.size W6 WC := HBB.out.trans (KC.below HBB.out.size (fun j hj e => by have := HGA.out; omega))
    refine ⟨BC, ?_⟩
    intro W3 hk3
    have zl := HL2.out
    have zs := HSZ6.out
    have z1 := HS1.out
    have zg := HGA.out
    have zw := HG.out
    have K3 : Keeps (fun j => j = gA ∨ j = l2) WB W3 := (KC.mono (fun _ _ e => Or.inl e)).trans (hk3.mono (fun _ _ e => Or.inr e))
    have I3 : CmI g w O s v W3 := HI6.out.keeps K3 (fun k e => ⟨by omega, fun h => by
      rcases e with rfl | rfl
      · have := HOO.out _ h; omega
      · exact HOL.out h⟩)
    have M3 := VC.keeps hk3 (fun e => by omega)
    have HW3 : Hid (g + 3 ≤ W3.heap.size ∧ gA < W3.heap.size) := hide ⟨by have := M3.lt; omega, M3.lt⟩
    obtain ⟨a3, c3, rfl⟩ := own_form26 I3.r
    have HI3 := hide I3
    have cs := I3.b.cell (i := 0) rfl
    have mc0 := M3.cell (i := 0) rfl
    have mc1 := M3.cell (i := 1) rfl
    have mc2 := M3.cell (i := 2) rfl
    obtain ⟨d, hd⟩ : ∃ d, W3.heap.size = d := ⟨_, rfl⟩
    obtain ⟨W4, hW4⟩ : ∃ W4, W3.alloc (.cells #[.int .i64 (m.1 : Nat), .int .i64 (m.2.1 : Nat), .int .i64 (m.2.2 : Nat)] 42) = W4 := ⟨_, rfl⟩
    have V4 : Vb W4 d 42 (mvC m) := by rw [← hW4, ← hd]; exact Vb.new W3 42 _
    have B4 : Below W3.heap.size W3 W4 := by rw [← hW4]; exact (Below.refl _ _).alloc (Nat.le_refl _) _
    have I4 := I3.keeps (X := fun _ => False) (Keeps.of_all B4) (fun _ e => e.elim)
    have hrow := I4.r
    obtain ⟨nl, hk0⟩ : ∃ nl, s.length = nl := ⟨_, rfl⟩
    have HNL := hide hk0
    have HI4 := hide I4
    have HB4 := hide B4
    have hbase : g + 1 ≤ W4.heap.size := by have := HW3.out; have := B4.size; omega
    rw [hk0] at hpl HPL hrow cs
    clear hk3 HI6 I3 hk0 I4 B4 K3 BC KC VC M3 zl zs z1 zg zw HBB HGA hgA
    gi_wp2_with (gi_at_builtin; refine wpListIn_append_m _ rfl _ _ rfl (g + 1) _ nl s rfl hrow d m rfl V4 (by omega) hbase ?_)
    intro v' w4 hO4 hg4 hst
    obtain ⟨a4, c4, rfl⟩ := own_form26 hO4
    have hob : ∀ j, (Value.slice a3 nl c3).ownBlock = some j → O j := fun j hj => (HI3.out.o j).2 (Or.inr (by rw [HNL.out]; exact hj))
    have hobl : ∀ j, (Value.slice a3 nl c3).ownBlock = some j → g + 1 ≤ j := fun j hj => (own_lt26 HI3.out.r (by rw [HNL.out]; exact hj)).1
    have K34 : Keeps O W3 w4 := by
      refine (Keeps.of_all HB4.out).trans ?_
      exact ⟨hg4.os, hg4.tape, hg4.output, hg4.size, fun i hi hx => hg4.block i hi (fun e => hx (hob i e.symm))⟩
    have V5 : Vb w4 g 25 [.slice a3 nl c3] := by
      have hb := HI4.out.b.lt
      have e1 := hg4.block g hb (fun e => by have := hobl _ e.symm; omega)
      have := HI4.out.b
      rw [HNL.out] at this
      exact e1.trans this
    have cs4 := V5.cell (i := 0) rfl
    have fs4 := V5.frozen 0
    have HB5 : Hid (Below w.heap.size w w4) := hide (HI3.out.bl.trans (K34.below HI3.out.bl.size (fun j hj e => by
      have zg := HG.out
      rcases (HI3.out.o j).1 e with e | e
      · omega
      · have := hobl j (by rw [HNL.out] at e; exact e); omega)))
    have kk := Keeps.set1 w4 g 0 (.slice a4 (nl + 1) c4)
    have HO5 : Hid ((w4.setCell ⟨g, 0, none⟩ (.slice a4 (nl + 1) c4)).ownsRow (g + 1) 42 3 (.slice a4 (nl + 1) c4) (nl + 1) (flM (s ++ [m]))) := hide (own_blk26 hO4 (fun q hq => kk.block q (own_lt26 hO4 hq).2 (fun e => by have := (own_lt26 hO4 hq).1; omega)))
    have HV5 : Hid (Vb (w4.setCell ⟨g, 0, none⟩ (.slice a4 (nl + 1) c4)) g 25 [.slice a4 (nl + 1) c4]) := hide (V5.set 0 _)
    have HK5 : Hid (Keeps O W3 (w4.setCell ⟨g, 0, none⟩ (.slice a4 (nl + 1) c4))) := hide (K34.trans (kk.mono (fun j _ e => (HI3.out.o j).2 (Or.inl e))))
    have HB6 : Hid (Below w.heap.size w (w4.setCell ⟨g, 0, none⟩ (.slice a4 (nl + 1) c4))) := hide (HB5.out.trans (kk.below HB5.out.size (fun j hj e => by have := HG.out; omega)))
    have HNW : Hid (∀ k, k < W3.heap.size → (k = g ∨ (Value.slice a4 (nl + 1) c4).ownBlock = some k) → O k) := hide (fun k hk h => by
      rcases h with h | h
      · exact (HI3.out.o k).2 (Or.inl h)
      · rcases hst k h with e | e
        · exact hob k e
        · have := HB4.out.size; omega)
    clear hO4 hg4 hst K34 V5 kk hrow cs hob hobl mc0 mc1 mc2 hW4
    gi_wp2_with fail
    refine ⟨HK5.out, fun k => k = g ∨ (Value.slice a4 (nl + 1) c4).ownBlock = some k, HNW.out, .slice a4 (nl + 1) c4, fun _ => Iff.rfl, HV5.out, ?_, HB6.out⟩
    rw [← HPL.out]
    exact HO5.out
  case done =>
    rintro D O W5 hD ⟨v, hI⟩ _ hm hK
    obtain ⟨a5, c5, rfl⟩ := own_form26 hI.r
    have cs := hI.b.cell (i := 0) rfl
    have HMK : Hid (Mks O (g + 1) W5 [{ target := .collected D, args := #[] }]) := hide ⟨[D], rfl, by simp, fun E hE => by rw [List.mem_singleton.1 hE]; exact ⟨hK, by have := HS1.out; omega, fun h => by have := hm D (by omega) h; have := HS1.out; omega⟩⟩
    have HI := hide hI
    clear hI hm hK hD
    go_wp2
    refine leaves_mks HMK.out (fun w9 hk9 => ?_)
    refine ⟨_, results_tmp rfl _ _ _, _, rfl, ?_, ?_⟩
    · exact own_base (own_blk26 HI.out.r (fun q hq => hk9.block q (own_lt26 HI.out.r hq).2 (fun e => e.2 ((HI.out.o q).2 (Or.inr hq))))) (by have := HG.out; omega)
    · exact HI.out.bl.trans (hk9.below HI.out.bl.size (fun j hj e => by have := e.1; have := HG.out; omega))

theorem collectMs_any (n : Nat) (hn : n ≤ 9) (sb nb : Nat) (p : Ps) (hM : MayP p) (w : World) (hR : MsR sb nb p n w) :
    Calls Tryd.prog 19 #[.func (.func 46) #[] #[.pointer (some ⟨sb, 0, none⟩), .pointer (some ⟨nb, 0, none⟩)]] w fun e w' => ∃ v, e = .returned v ∧ w'.ownsRow w.heap.size 42 3 v (msP n p).length (flM (msP n p)) ∧ Below w.heap.size w w' := by
  have H := hide (appendMs_any n hn sb nb p hM w hR)
  clear hR
  go_enter Tryd.func19, Tryd.ntmps19
  go_wp2_with fail
  refine H.out.mono ?_
  rintro e w1 ⟨v, rfl, hO, hb⟩
  have HO := hide hO
  have HB := hide hb
  clear hO hb
  go_wp2_with fail
  go_ret
  exact ⟨v, rfl, HO.out, HB.out⟩

end Go.Proofs.YtdmlamnonbmboaaDoor

namespace Go.Proofs.YtdmlamnonbmboaaDoor
open Go.RowKit Go.Shelf

attribute [local go_sem] Oper.semAt_some wide_fn wide_fn0 wide_depth

section
variable (a : Option Addr) (n c : Nat) (Z : List Int) (t k e h f : Int) (he1 : -9223372036854775808 ≤ e) (he2 : e ≤ 9223372036854775807) (w : World) (hz : Rd w a n c Z) (hT : Tabs w)
include he1 he2 hz hT
set_option maxRecDepth 100000 in
set_option maxHeartbeats 1000000 in
theorem Mate_no (most : Int) (hM : ¬ MayC Z t k e h f) :
    Calls Tryd.prog 5 #[.agg (chA a n c t k e h f), .int .i64 most] w fun r w' => r = .returned (.tuple #[.int .i64 0, .slice none 0 0, .int .i64 12]) ∧ Below w.heap.size w w' := by
  obtain ⟨w1, hw1⟩ : ∃ w1, w.alloc (.cells (chA a n c t k e h f) 24) = w1 := ⟨_, rfl⟩
  have B1 : Below w.heap.size w w1 := by rw [← hw1]; exact (Below.refl _ w).alloc (Nat.le_refl _) _
  have C1 : Ch w1 w.heap.size a n c t k e h f := by rw [← hw1]; exact Ch.new w a n c t k e h f
  have HMY := hide (May_any a n c Z t k e h f he1 he2 w1 (hz.mono B1) (hT.mono B1))
  rw [dB_f hM] at HMY
  have HB1 := hide B1
  clear B1 hz hT
  go_enter Tryd.func5, Tryd.ntmps5
  go_upto_region 1 with fail
  clear hw1
  go_wp2_with (refine wpList_load_ch rfl (.tmp 2) rfl w.heap.size rfl C1 ?_)
  refine HMY.out.mono ?_
  rintro r w2 ⟨rfl, hb2⟩
  have HB2 := hide (HB1.out.trans (hb2.mono HB1.out.size))
  clear hb2
  go_wp2_with fail
  try simp only [Exit.inBlock, Exit.then]
  refine bodyPost_ret (results_tmp3 rfl _ _ _) rfl ?_
  exact ⟨rfl, HB2.out⟩

set_option maxRecDepth 100000 in
set_option maxHeartbeats 1000000 in
theorem Mate_range (most : Int) (hM : MayC Z t k e h f) (hm : most < 1 ∨ 2 < most) :
    Calls Tryd.prog 5 #[.agg (chA a n c t k e h f), .int .i64 most] w fun r w' => r = .returned (.tuple #[.int .i64 0, .slice none 0 0, .int .i64 3]) ∧ Below w.heap.size w w' := by
  obtain ⟨w1, hw1⟩ : ∃ w1, w.alloc (.cells (chA a n c t k e h f) 24) = w1 := ⟨_, rfl⟩
  have B1 : Below w.heap.size w w1 := by rw [← hw1]; exact (Below.refl _ w).alloc (Nat.le_refl _) _
  have C1 : Ch w1 w.heap.size a n c t k e h f := by rw [← hw1]; exact Ch.new w a n c t k e h f
  have HMY := hide (May_any a n c Z t k e h f he1 he2 w1 (hz.mono B1) (hT.mono B1))
  rw [dB_t hM] at HMY
  have HB1 := hide B1
  clear B1 hz hT
  go_enter Tryd.func5, Tryd.ntmps5
  go_upto_region 1 with fail
  clear hw1
  go_wp2_with (refine wpList_load_ch rfl (.tmp 2) rfl w.heap.size rfl C1 ?_)
  refine HMY.out.mono ?_
  rintro r w2 ⟨rfl, hb2⟩
  have HB2 := hide (HB1.out.trans (hb2.mono HB1.out.size))
  clear hb2
  rcases (show most < 1 ∨ (¬ most < 1 ∧ 2 < most) by omega) with h1 | ⟨h1, h2⟩
  · have e1 : decide (most < 1) = true := by simp [h1]
    go_wp2_with fail
    try simp only [Exit.inBlock, Exit.then]
    refine bodyPost_ret (results_tmp3 rfl _ _ _) rfl ?_
    exact ⟨rfl, HB2.out⟩
  · have e1 : decide (most < 1) = false := by simp [h1]
    have e2 : decide (2 < most) = true := by simp [h2]
    go_wp2_with fail
    try simp only [Exit.inBlock, Exit.then]
    refine bodyPost_ret (results_tmp3 rfl _ _ _) rfl ?_
    exact ⟨rfl, HB2.out⟩
end

end Go.Proofs.YtdmlamnonbmboaaDoor

namespace Go.Proofs.YtdmlamnonbmboaaDoor
open Go.RowKit Go.Shelf

/-- In how many moves the mover mates, and with which. -/
def mtR (p : Ps) (mn : Nat) : Nat × List (Nat × Nat × Nat) := if msP 0 p ≠ [] then (1, msP 0 p) else if 2 ≤ mn ∧ msP 1 p ≠ [] then (2, msP 1 p) else (0, [])
theorem mtR_hit {p : Ps} {mn i : Nat} (hm : 1 ≤ mn ∧ mn ≤ 2) (hi : i < mn) (hj : ∀ j, j < i → msP j p = []) (hn : msP i p ≠ []) : mtR p mn = (i + 1, msP i p) := by
  unfold mtR
  rcases (show i = 0 ∨ i = 1 by omega) with rfl | rfl
  · rw [if_pos hn]
  · rw [if_neg (by rw [hj 0 (by omega)]; simp), if_pos ⟨by omega, hn⟩]
theorem mtR_none {p : Ps} {mn : Nat} (hm : 1 ≤ mn ∧ mn ≤ 2) (hj : ∀ j, j < mn → msP j p = []) : mtR p mn = (0, []) := by
  unfold mtR
  rw [if_neg (by rw [hj 0 (by omega)]; simp), if_neg (fun h => h.2 (hj 1 (by omega)))]

attribute [local irreducible] mvs msP mtR
attribute [local go_sem] Oper.semAt_some wide_fn wide_fn0 wide_depth

set_option maxRecDepth 100000 in
set_option maxHeartbeats 4000000 in
theorem Mate_yes (a : Option Addr) (c : Nat) (p : Ps) (hM : MayP p) (mn : Nat) (hm : 1 ≤ mn ∧ mn ≤ 2) (he1 : -9223372036854775808 ≤ p.e) (he2 : p.e ≤ 9223372036854775807) (w : World) (hz : Rd w a 64 c p.Z) (hT : Tabs w) :
    Calls Tryd.prog 5 #[.agg (chA a 64 c (p.t : Nat) (p.k : Nat) p.e (p.h : Nat) (p.f : Nat)), .int .i64 (mn : Nat)] w fun r w' => ∃ v, r = .returned (.tuple #[.int .i64 ((mtR p mn).1 : Nat), v, .int .i64 0]) ∧ w'.ownsRow w.heap.size 42 3 v (mtR p mn).2.length (flM (mtR p mn).2) ∧ Below w.heap.size w w' := by
  obtain ⟨w1, hw1⟩ : ∃ w1, w.alloc (.cells (chA a 64 c (p.t : Nat) (p.k : Nat) p.e (p.h : Nat) (p.f : Nat)) 24) = w1 := ⟨_, rfl⟩
  have B1 : Below w.heap.size w w1 := by rw [← hw1]; exact (Below.refl _ w).alloc (Nat.le_refl _) _
  have C1 : Ch w1 w.heap.size a 64 c (p.t : Nat) (p.k : Nat) p.e (p.h : Nat) (p.f : Nat) := by rw [← hw1]; exact Ch.new w a 64 c _ _ _ _ _
  have HMY := hide (May_any a 64 c p.Z (p.t : Nat) (p.k : Nat) p.e (p.h : Nat) (p.f : Nat) he1 he2 w1 (hz.mono B1) (hT.mono B1))
  rw [dB_t (show MayC p.Z (p.t : Nat) (p.k : Nat) p.e (p.h : Nat) (p.f : Nat) from hM)] at HMY
  have HCH : Hid (∀ W, Below w1.heap.size w1 W → Ch W w.heap.size a 64 c (p.t : Nat) (p.k : Nat) p.e (p.h : Nat) (p.f : Nat)) := hide (fun W hb => C1.below hb C1.lt)
  have HSE : Hid (∀ W, Below w1.heap.size w1 W → Calls Tryd.prog 18 #[.agg (chA a 64 c (p.t : Nat) (p.k : Nat) p.e (p.h : Nat) (p.f : Nat))] W fun r w' => r = .returned (.agg (ivs (stP p)).toArray) ∧ Below W.heap.size W w') := hide (fun W hb => seen_any a c p.Z _ _ _ _ _ W ((hz.mono B1).mono hb))
  have HTW : Hid (∀ W, Below w1.heap.size w1 W → Tabs W) := hide (fun W hb => (hT.mono B1).mono hb)
  have HPL : Hid ((ivs (stP p)).length = 69) := hide (stL_len hM.st.1 _ _ _ _ _)
  have HZL : Hid (p.Z.length = 64) := hide hM.st.1
  have HMN : Hid (∀ (i : Nat) W, TabS W → TzT W → MsR W.heap.size (W.heap.size + 1) p i ((W.alloc (.cells (ivs (stP p)).toArray 51)).alloc (.cells #[.int .i64 ((i + 1 : Nat) : Int)] 3))) := hide (fun i W h1 h2 => MsR.new hM i h1 h2)
  have HCO := hide (fun i (hi : i ≤ 9) sb nb W (h : MsR sb nb p i W) => collectMs_any i hi sb nb p hM W h)
  have HHT := hide (fun i (hi : i < mn) => mtR_hit (p := p) (i := i) hm hi)
  have HNN := hide (mtR_none (p := p) hm)
  have HML := hide (fun i => msP_len i p)
  have HB1 := hide B1
  have HMM := hide hm
  clear B1 hz hT hM hm
  go_enter Tryd.func5, Tryd.ntmps5
  go_upto_region 1 with fail
  clear hw1
  go_wp2_with (refine wpList_load_ch rfl (.tmp 2) rfl w.heap.size rfl C1 ?_)
  refine HMY.out.mono ?_
  rintro r w2 ⟨rfl, hb2⟩
  have HB2 : Hid (Below w1.heap.size w1 w2) := hide hb2
  have C2 := HCH.out w2 hb2
  clear hb2 C1
  have q1 : decide ((mn : Int) < 1) = false := by have := HMM.out; simp; omega
  have q2 : decide ((2 : Int) < (mn : Int)) = false := by have := HMM.out; simp; omega
  go_wp2_with (refine wpList_load_ch rfl (.tmp 2) rfl w.heap.size rfl C2 ?_)
  refine (HSE.out w2 HB2.out).mono ?_
  rintro r w3 ⟨rfl, hb3⟩
  have HB3 : Hid (Below w1.heap.size w1 w3) := hide (HB2.out.trans (hb3.mono HB2.out.size))
  clear hb3 C2
  obtain ⟨d, hd⟩ : ∃ d, w3.heap.size = d := ⟨_, rfl⟩
  obtain ⟨w4, hw4⟩ : ∃ w4, w3.alloc (.cells Tryd.zeroCells51 51) = w4 := ⟨_, rfl⟩
  have V4 : Vb w4 d 51 (ivs (stL zr64 0 0 0 0 0)) := by rw [← hw4, ← hd]; exact zr69_new w3
  have B4 : Below w3.heap.size w3 w4 := by rw [← hw4]; exact (Below.refl _ _).alloc (Nat.le_refl _) _
  have HB4 : Hid (Below w1.heap.size w1 w4) := hide (HB3.out.trans (B4.mono HB3.out.size))
  have HD : Hid (w1.heap.size ≤ d) := hide (by rw [← hd]; exact HB3.out.size)
  clear B4
  go_upto_region 6 with (refine wpList_store_vb rfl 51 (.tmp 7) (.tmp 20) rfl d (ivs (stP p)) _ (by simp [Act.eval]) rfl V4 (by rw [stL_len zr64_len, HPL.out]) (by rw [HPL.out]; exact row53) (by simpa using ivs_one _) ?_; intro w5 V5 K5)
  have HB5 : Hid (Below w1.heap.size w1 w5) := hide (HB4.out.trans (K5.below HB4.out.size (fun j hj e => by have := HD.out; omega)))
  have HS5 : Hid (Vb w5 d 51 (ivs (stP p))) := hide V5
  clear hw4 V4 K5 V5 q1 q2
  try rw [hd]
  clear hd
  go_wp2_with fail
  go_loopw [8] (fun v wr => ∃ i : Nat, v = .int .i64 ((i : Nat) + 1 : Int) ∧ i ≤ mn ∧ Hid (∀ j, j < i → msP j p = []) ∧ Hid (Vb wr d 51 (ivs (stP p))) ∧ Hid (Below w1.heap.size w1 wr)) (fun v _ => 4 - (intOf v).toNat)
  case atStart => exact ⟨0, rfl, by omega, hide (fun j hj => absurd hj (by omega)), HS5, HB5⟩
  case round =>
    obtain ⟨i, rfl, hi, hall, hsp, hbl⟩ := hrel
    have zm := HMM.out
    by_cases hlt : i < mn
    · have hlt' : decide (((i : Nat) : Int) + 1 ≤ (mn : Int)) = true := by simp; omega
      have V6 := hsp.out
      go_wp2_with (refine wpList_load_vb rfl 51 (.tmp 7) rfl d rfl (by rw [HPL.out]; exact row53) V6 ?_)
      clear V6
      refine (mates_any _ _ _).mono ?_
      rintro r w6 ⟨rfl, hw6⟩
      have M6 := HMN.out i wr (HTW.out wr hbl.out).s (HTW.out wr hbl.out).d
      rw [show ((i + 1 : Nat) : Int) = (i : Int) + 1 by omega, ← hw6] at M6
      have B6 : Below wr.heap.size wr w6 := by rw [hw6]; exact ((Below.refl _ _).alloc (Nat.le_refl _) _).alloc (by simp) _
      have HM6 := hide M6
      have HB6 := hide B6
      have HLE := hide (show i ≤ 9 by omega)
      clear hw6 M6 B6
      go_wp2_with fail
      refine (HCO.out i HLE.out _ _ w6 HM6.out).mono ?_
      rintro r w7 ⟨v, rfl, hO7, hb7⟩
      obtain ⟨a7, c7, rfl⟩ := own_form26 hO7
      have HO7 := hide hO7
      have HB7 : Hid (Below wr.heap.size wr w7) := hide (HB6.out.trans (hb7.mono HB6.out.size))
      have HB8 : Hid (Below w1.heap.size w1 w7) := hide (hbl.out.trans (HB7.out.mono hbl.out.size))
      have HSZ : Hid (w.heap.size ≤ w6.heap.size) := hide (by have := HB1.out.size; have := hbl.out.size; have := HB6.out.size; omega)
      have HV7 := hide (hsp.out.mono HB7.out)
      have HH := hide (HHT.out i hlt hall.out)
      have HAL : Hid (msP i p = [] → ∀ j, j < i + 1 → msP j p = []) := hide (fun h j hj => by
        by_cases e : j = i
        · rw [e]; exact h
        · exact hall.out j (by omega))
      clear hO7 hb7 hlt'
      obtain ⟨L, hL⟩ : ∃ L, msP i p = L := ⟨_, rfl⟩
      rw [hL] at HO7 HH HAL ⊢
      obtain ⟨nl, hnl⟩ : ∃ nl, L.length = nl := ⟨_, rfl⟩
      rw [hnl] at HO7 ⊢
      by_cases hn : L = []
      · have z0 : nl = 0 := by rw [← hnl, hn]; rfl
        subst z0
        have HA2 := hide (HAL.out hn)
        clear HAL HH HO7 hL hnl hn
        go_wp2_with fail
        exact ⟨⟨i + 1, by go_num, by omega, HA2, HV7, HB8⟩, by simp [intOf]; omega⟩
      · have hp : 0 < nl := by rw [← hnl]; exact List.length_pos_iff.2 hn
        have hq : decide ((0 : Int) < (nl : Int)) = true := by simp; omega
        have HR := hide (HH.out hn)
        clear HAL HH hL hn
        go_wp2_with fail
        try simp only [Exit.inBlock, Exit.then]
        refine bodyPost_ret (results_tmp3 rfl _ _ _) rfl ?_
        refine ⟨.slice a7 nl c7, ?_, ?_, HB1.out.trans (HB8.out.mono HB1.out.size)⟩
        · rw [HR.out]; rfl
        · rw [HR.out]
          show World.ownsRow _ _ _ _ _ L.length (flM L)
          rw [hnl]
          exact own_base HO7.out HSZ.out
    · obtain rfl : i = mn := by omega
      have hlt' : decide (((i : Nat) : Int) + 1 ≤ (i : Int)) = false := by simp; omega
      have HR := hide (HNN.out hall.out)
      go_wp2_with fail
      try simp only [Exit.inBlock, Exit.then]
      refine bodyPost_ret (results_tmp3 rfl _ _ _) rfl ?_
      refine ⟨.slice none 0 0, ?_, ?_, HB1.out.trans (hbl.out.mono HB1.out.size)⟩
      · rw [HR.out]; rfl
      · rw [HR.out]; exact World.ownsRow_nil _ _ _ _

end Go.Proofs.YtdmlamnonbmboaaDoor
