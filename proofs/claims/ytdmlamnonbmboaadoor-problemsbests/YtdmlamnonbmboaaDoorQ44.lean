/-
  Chess problems: rows of moves counted as the program counts them, walked. No conditions beyond those that each theorem bears.
-/
import Derived.Test.YtdmlamnonbmboaaDoorQ43
namespace Go.Proofs.YtdmlamnonbmboaaDoor
open Go.RowKit Go.Shelf

/-- How many rows of so many moves end so. -/
def rwN (q : Ps → Bool) : Nat → Ps → Nat
  | 0, p => if q p = true then 1 else 0
  | n + 1, p => ((mvs p).map fun m => rwN q n (nxP p m)).sum
theorem rwN_zero (q : Ps → Bool) (p : Ps) : rwN q 0 p = if q p = true then 1 else 0 := by rw [rwN]
theorem rwN_succ (q : Ps → Bool) (n : Nat) (p : Ps) : rwN q (n + 1) p = ((mvs p).map fun m => rwN q n (nxP p m)).sum := by rw [rwN]
theorem wrap_add (a b : Int) : IntKind.i64.wrap (IntKind.i64.wrap a + b) = IntKind.i64.wrap (a + b) := by
  rw [IntKind.wrap_i64, IntKind.wrap_i64, IntKind.wrap_i64]
  omega
theorem wrap64_add (a b : Int) : wrap64 (wrap64 a + b) = IntKind.i64.wrap (a + b) := by
  rw [IntKind.wrap_i64]
  unfold wrap64
  omega

/-- What count's own function has captured. -/
structure CtR (F ob nb rb : Nat) (W : World) : Prop where
  o : W.cell? ⟨ob, 0, none⟩ = some (.func (.func F) #[] #[])
  r : W.cell? ⟨rb, 0, none⟩ = some (.func (.func 59) #[] #[.pointer (some ⟨ob, 0, none⟩), .pointer (some ⟨nb, 0, none⟩), .pointer (some ⟨rb, 0, none⟩)])
  ts : TabS W
  tz : TzT W
theorem CtR.keeps {F ob nb rb : Nat} {X : Nat → Prop} {W W' : World} (h : CtR F ob nb rb W) (hk : Keeps X W W') (h1 : ¬ X ob) (h2 : ¬ X rb) (h3 : ¬ X 0) (h4 : ¬ X 2) : CtR F ob nb rb W' :=
  ⟨hk.cell h.o h1, hk.cell h.r h2, h.ts.keeps hk h3, h.tz.keeps hk h4⟩

attribute [local irreducible] mvs nxP rwN mtP skP ckP
attribute [local go_sem] Oper.semAt_some wide_fn wide_fn0 wide_depth

section
variable (F : Nat) (q : Ps → Bool) (hF : F = 32 ∨ F = 34)
  (hq : ∀ p, MayP p → ∀ w, TabS w → TzT w → Calls Tryd.prog F #[.agg (ivs (stP p)).toArray] w fun r w' => r = .returned (.bool (q p)) ∧ Below w.heap.size w w')
include hq hF

set_option maxRecDepth 100000 in
set_option maxHeartbeats 4000000 in
theorem ctw_zero (p : Ps) (hM : MayP p) (ob nb rb : Nat) (s : Int) (w : World) (hc : CtR F ob nb rb w) (hn : Vb w nb 3 [.int .i64 (IntKind.i64.wrap s)]) :
    Calls Tryd.prog 59 #[.agg (ivs (stP p)).toArray, .int .i64 0, .pointer (some ⟨ob, 0, none⟩), .pointer (some ⟨nb, 0, none⟩), .pointer (some ⟨rb, 0, none⟩)] w fun r w' => (∃ x, r = .returned x) ∧ Vb w' nb 3 [.int .i64 (IntKind.i64.wrap (s + (rwN q 0 p : Nat)))] ∧ Keeps (fun j => j = nb) w w' := by
  have HQ := hide (fun W (h1 : TabS W) h2 => hq p hM W h1 h2)
  have hrw := rwN_zero q p
  obtain ⟨qb, hqb⟩ : ∃ qb, q p = qb := ⟨_, rfl⟩
  rw [hqb] at HQ hrw
  obtain ⟨g, hg⟩ : ∃ g, w.heap.size = g := ⟨_, rfl⟩
  obtain ⟨w1, hw1⟩ : ∃ w1, (w.alloc (.cells (ivs (stP p)).toArray 51)).alloc (.cells #[.int .i64 0] 3) = w1 := ⟨_, rfl⟩
  have B1 : Below w.heap.size w w1 := by rw [← hw1]; exact ((Below.refl _ _).alloc (Nat.le_refl _) _).alloc (by simp) _
  have S1 : Sp w1 g p := by rw [← hw1, ← hg]; exact (Sp.box p hM w).mono ((Below.refl _ _).alloc (Nat.le_refl _) _)
  have N1 : Vb w1 (g + 1) 3 [.int .i64 0] := by
    rw [← hw1, ← hg]
    have := Vb.new (w.alloc (.cells (ivs (stP p)).toArray 51)) 3 [.int .i64 0]
    rw [World.size_alloc] at this
    exact this
  have n1 := N1.cell (i := 0) rfl
  have C1 := hc.keeps (X := fun _ => False) (Keeps.of_all B1) id id id id
  have o1 := C1.o
  have HC1 := hide C1
  have HB1 := hide B1
  have HN1 := hide (hn.mono B1)
  have HS1 := hide S1
  have HPL : Hid ((ivs (stP p)).length = 69) := hide (stL_len hM.st.1 _ _ _ _ _)
  have HV1 : Hid (Vb w1 g 51 (ivs (stP p))) := hide S1.2
  have HR : Hid (rwN q 0 p = if qb = true then 1 else 0) := hide hrw
  clear hc hn B1 S1 N1 C1 hq hM hrw hqb
  rcases hF with rfl | rfl
  all_goals
    go_enter Tryd.func59, Tryd.ntmps59
    go_upto_region 1 with fail
    try rw [hg]
    clear hw1 hg
    go_upto_region 2 with fail
    have hrow : RowT 51 (ivs (stP p)).length := by rw [HPL.out]; exact row53
    have hvv := HV1.out
    go_wp2_with (first | (refine wpList_load_vb rfl 51 (.tmp 5) rfl g rfl hrow hvv ?_) | fail)
    clear hrow hvv
    refine (HQ.out w1 HC1.out.ts HC1.out.tz).mono ?_
    rintro r w2 ⟨rfl, hb2⟩
    have N2 := HN1.out.mono hb2
    have HB2 : Hid (Below w.heap.size w w2) := hide (HB1.out.trans (hb2.mono HB1.out.size))
    clear hb2
    cases qb with
    | true =>
      have c2 := N2.cell (i := 0) rfl
      have f2 := N2.frozen 0
      have HN3 := hide (N2.set 0 (.int .i64 (IntKind.i64.wrap (s + 1))))
      have HR1 : Hid (rwN q 0 p = 1) := hide (by rw [HR.out]; rfl)
      clear N2 HN1 HR
      go_wp2_with fail
      try simp only [Exit.inBlock, Exit.then]
      refine bodyPost_ret (results_none rfl _ _ _) rfl ?_
      refine ⟨⟨_, rfl⟩, ?_, ?_⟩
      · rw [HR1.out]
        have h3 := HN3.out
        rw [wrap64_add]
        exact h3
      · have hk := (Keeps.of_all HB2.out : Keeps (fun j => j = nb) w w2)
        exact hk.trans (Keeps.set1 _ _ _ _)
    | false =>
      have HR1 : Hid (rwN q 0 p = 0) := hide (by rw [HR.out]; rfl)
      have HN2 := hide N2
      clear N2 HN1 HR
      go_wp2_with fail
      try simp only [Exit.inBlock, Exit.then]
      refine bodyPost_ret (results_none rfl _ _ _) rfl ?_
      refine ⟨⟨_, rfl⟩, ?_, Keeps.of_all HB2.out⟩
      rw [HR1.out]
      have h3 := HN2.out
      rw [show s + ((0 : Nat) : Int) = s by omega]
      exact h3
omit hF hq in
set_option maxRecDepth 100000 in
set_option maxHeartbeats 8000000 in
theorem ctw_succ (n : Nat) (hn9 : n ≤ 9) (ih : ∀ p, MayP p → ∀ ob nb rb, (nb ≠ 0 ∧ nb ≠ 2 ∧ nb ≠ ob ∧ nb ≠ rb) → ∀ (s : Int) w, CtR F ob nb rb w → Vb w nb 3 [.int .i64 (IntKind.i64.wrap s)] → Calls Tryd.prog 59 #[.agg (ivs (stP p)).toArray, .int .i64 (n : Nat), .pointer (some ⟨ob, 0, none⟩), .pointer (some ⟨nb, 0, none⟩), .pointer (some ⟨rb, 0, none⟩)] w fun r w' => (∃ x, r = .returned x) ∧ Vb w' nb 3 [.int .i64 (IntKind.i64.wrap (s + (rwN q n p : Nat)))] ∧ Keeps (fun j => j = nb) w w')
    (p : Ps) (hM : MayP p) (ob nb rb : Nat) (hne : nb ≠ 0 ∧ nb ≠ 2 ∧ nb ≠ ob ∧ nb ≠ rb) (s : Int) (w : World) (hc : CtR F ob nb rb w) (hn : Vb w nb 3 [.int .i64 (IntKind.i64.wrap s)]) :
    Calls Tryd.prog 59 #[.agg (ivs (stP p)).toArray, .int .i64 ((n + 1 : Nat) : Int), .pointer (some ⟨ob, 0, none⟩), .pointer (some ⟨nb, 0, none⟩), .pointer (some ⟨rb, 0, none⟩)] w fun r w' => (∃ x, r = .returned x) ∧ Vb w' nb 3 [.int .i64 (IntKind.i64.wrap (s + (rwN q (n + 1) p : Nat)))] ∧ Keeps (fun j => j = nb) w w' := by
  have HRS : Hid (((mvs p).map fun m => rwN q n (nxP p m)).sum = rwN q (n + 1) p) := hide (rwN_succ q n p).symm
  have HSQ := hide (fun sb b => movesP_seq sb b p hM)
  have HAF := hide (fun b m (hm : m ∈ mvs p) W (h : Sp W b p) => after_any b p hM m (mvs_ok hM hm).1 W h)
  have HIH := hide (fun m (hm : m ∈ mvs p) (s : Int) W (h1 : CtR F ob nb rb W) h2 => ih (nxP p m) (may_nx hM hm) ob nb rb hne s W h1 h2)
  obtain ⟨st, hst⟩ : ∃ st, (ivs (stP p)).toArray = st := ⟨_, rfl⟩
  obtain ⟨nv, hnv⟩ : ∃ nv : Int, ((n + 1 : Nat) : Int) = nv := ⟨_, rfl⟩
  have e0 : (nv == 0) = false := by rw [← hnv, beq_eq_false_iff_ne]; omega
  have HEM : Hid (IntKind.i64.wrap (nv - 1) = ((n : Nat) : Int)) := hide (by rw [← hnv, IntKind.wrap_i64]; omega)
  obtain ⟨g, hg⟩ : ∃ g, w.heap.size = g := ⟨_, rfl⟩
  obtain ⟨w1, hw1⟩ : ∃ w1, (w.alloc (.cells st 51)).alloc (.cells #[.int .i64 nv] 3) = w1 := ⟨_, rfl⟩
  have B1 : Below w.heap.size w w1 := by rw [← hw1]; exact ((Below.refl _ _).alloc (Nat.le_refl _) _).alloc (by simp) _
  have S1 : Sp w1 g p := by rw [← hw1, ← hg, ← hst]; exact (Sp.box p hM w).mono ((Below.refl _ _).alloc (Nat.le_refl _) _)
  have N1 : Vb w1 (g + 1) 3 [.int .i64 nv] := by
    rw [← hw1, ← hg]
    have := Vb.new (w.alloc (.cells st 51)) 3 [.int .i64 nv]
    rw [World.size_alloc] at this
    exact this
  have s1 : w1.heap.size = g + 2 := by rw [← hw1, ← hg]; simp
  have n1 := N1.cell (i := 0) rfl
  have C1 := hc.keeps (X := fun _ => False) (Keeps.of_all B1) id id id id
  have HBL : Hid (0 < g ∧ 2 < g ∧ ob < g ∧ rb < g ∧ nb < g) := hide (by
    have h1 := hc.ts.lt
    have h2 := hc.tz.lt
    have h3 := World.block_lt_of_cell? w _ hc.o
    have h4 := World.block_lt_of_cell? w _ hc.r
    have h5 := hn.lt
    dsimp only at h3 h4
    omega)
  have HC1 := hide C1
  have HB1 := hide B1
  have HV1 := hide (hn.mono B1)
  have HS1 := hide S1
  have HN1 := hide N1
  have HG := hide hg
  have HS1' := hide s1
  have HNE := hide hne
  obtain ⟨XS, hXS⟩ : ∃ XS, mvs p = XS := ⟨_, rfl⟩
  rw [hXS] at HSQ HRS HAF HIH
  obtain ⟨RW, hRW⟩ : ∃ RW : Nat × Nat × Nat → Nat, (fun m => rwN q n (nxP p m)) = RW := ⟨_, rfl⟩
  have HRW : Hid (∀ m, rwN q n (nxP p m) = RW m) := hide (fun m => by rw [← hRW])
  rw [hRW] at HRS
  obtain ⟨rs, hrs⟩ : ∃ rs, rwN q (n + 1) p = rs := ⟨_, rfl⟩
  rw [hrs] at HRS ⊢
  rw [hst, hnv]
  clear hc hn B1 S1 N1 C1 hst hrs hXS hnv ih hne s1 hRW
  refine (callsIn_wide (n := 3)).1 ?_
  refine callsIn_of_wp_marks Tryd.func59 rfl trivial ?_ rfl
  simp only [Tryd.ntmps59, List.size_toArray, List.length_cons, List.length_nil, Nat.reduceAdd, Nat.reduceSub, Array.replicate_succ, Array.replicate_zero, List.push_toArray, List.append_toArray, List.nil_append, List.cons_append]
  refine wpIn_wide.2 ?_
  go_upto_region 1 with fail
  try rw [hg]
  clear hw1
  go_wp2_with fail
  refine (moves_any g _).mono ?_
  rintro r w5 ⟨rfl, hw5⟩
  have R5 := MlR.new HS1.out HC1.out.ts HC1.out.tz
  rw [← hw5] at R5
  have hb5 : Below w1.heap.size w1 w5 := by rw [hw5]; exact (Below.refl _ _).alloc (Nat.le_refl _) _
  have s5 : w5.heap.size = w1.heap.size + 1 := by rw [hw5]; simp
  have HB5 : Hid (Below w1.heap.size w1 w5) := hide hb5
  obtain ⟨sb, hsb⟩ : ∃ sb, w1.heap.size = sb := ⟨_, rfl⟩
  rw [hsb] at R5 s5
  have HZ5 : Hid (sb = g + 2 ∧ w5.heap.size = sb + 1) := hide ⟨by rw [← hsb]; exact HS1'.out, s5⟩
  have HR5 := hide R5
  have HN5 := hide (HN1.out.mono HB5.out)
  have HV5 := hide (HV1.out.mono HB5.out)
  have HC5 := hide (HC1.out.keeps (X := fun _ => False) (Keeps.of_all HB5.out) id id id id)
  try rw [hsb]
  clear hw5 R5 hb5 s5 hsb n1
  go_wp2_with fail
  refine (wpIn_wide (n := 1)).1 (wp_range_o (gf := 69) (lb := #[.pointer (some ⟨sb, 0, none⟩)]) (G := MvG) (xs := XS) (R := MlR sb g p.Z (p.t : Nat) (p.k : Nat) p.e (p.h : Nat) (p.f : Nat)) (T := MlT sb g) (by simp [Act.eval]) (enters_of Tryd.func69 (by kernel_rfl) rfl)
    (HSQ.out sb g) (fun j hj => HR5.out.lt j hj) (fun A hA => HR5.out.keeps (X := fun _ => False) (Keeps.of_all hA) (fun _ _ e => e)) (fun x args W' hG => by rw [hG]; rfl)
    (fun O t W' => (∀ j, O j → j = nb) ∧ O nb ∧ Vb W' nb 3 [.int .i64 (IntKind.i64.wrap (s + ((t.map RW).sum : Nat)))]) (fun _ _ _ => False) (fun j => j = nb) ?hC ⟨fun _ h => h, rfl, by simpa using HV5.out⟩ ?round ?done (fun _ _ _ _ _ h => h.elim))
  case hC =>
    have z2 := HZ5.out
    have zb := HBL.out
    have zn := HNE.out
    have nT : ¬ MlT sb g nb := by
      rintro (h | h | h | h) <;> omega
    intro d
    refine ⟨?_, (fun _ _ h => h.elim), ?_, (fun _ _ _ h => h.elim)⟩
    · rintro O t A ⟨h1, _, h3⟩ j hj
      obtain rfl := h1 j hj
      exact ⟨h3.lt, nT⟩
    · rintro O t A B ⟨h1, h2, h3⟩ hkk
      exact ⟨h1, h2, h3.keeps hkk (fun e => e.2 h2)⟩
  case round =>
    rintro l2 O t m args W6 hl2 _ ⟨hO, hOg, hV6⟩ hOl hK6 hOm hpre hG hsz6
    obtain rfl : args = #[mvV m] := hG
    have hmm : m ∈ XS := hpre.subset (by simp)
    have HA := hide (fun W h => HAF.out g m hmm W h)
    have HI := hide (fun (s : Int) W h1 h2 => HIH.out m hmm s W h1 h2)
    rw [HRW.out m] at HI
    have HSM : Hid (((t ++ [m]).map RW).sum = (t.map RW).sum + RW m) := hide (by rw [List.map_append, List.sum_append]; simp)
    have HO := hide hO
    have HOg := hide hOg
    have z5 := HZ5.out
    have zb := HBL.out
    have zn := HNE.out
    have HL : Hid (sb + 2 = l2 ∧ l2 < W6.heap.size) := hide (by omega)
    have HR6 := hide (HR5.out.keeps hK6 (fun j hj e => by rcases hj with h | h | h | h <;> omega))
    have HN6 := hide (HN5.out.keeps hK6 (fun e => by omega))
    have HC6 := hide (HC5.out.keeps hK6 (fun e => by omega) (fun e => by omega) (fun e => by omega) (fun e => by omega))
    obtain ⟨gA, hgA⟩ : ∃ gA, W6.heap.size = gA := ⟨_, rfl⟩
    obtain ⟨WB, hWB⟩ : ∃ WB, W6.alloc (.cells #[.int .i64 0, .int .i64 0, .int .i64 0] 42) = WB := ⟨_, rfl⟩
    have VB : Vb WB gA 42 [.int .i64 0, .int .i64 0, .int .i64 0] := by rw [← hWB, ← hgA]; exact Vb.new W6 42 _
    have BB : Below W6.heap.size W6 WB := by rw [← hWB]; exact (Below.refl _ _).alloc (Nat.le_refl _) _
    have HV6 := hide (hV6.mono BB)
    have HBB := hide BB
    have HGA := hide hgA
    clear hO hOg hV6 hOl hK6 hOm hpre hsz6 hl2 BB z5 zb zn hmm
    gi_wp2_with (refine wpListIn_store_vb rfl 42 (.tmp 7) (.tmp 16) rfl gA (mvC m) _ (by simp [Act.eval]) rfl VB rfl row26 (mvC_one m) ?_; intro WC VC KC)
    clear hWB VB
    have BC : Below W6.heap.size W6 WC := HBB.out.trans (KC.below HBB.out.size (fun j hj e => by have := HGA.out; omega))
    refine ⟨BC, ?_⟩
    intro W7 hk7
    have zl := HL.out
    have zg := HGA.out
    have zs := HZ5.out
    have zb := HBL.out
    have zn := HNE.out
    have K67 : Keeps (fun j => j = l2) W6 W7 := (Keeps.of_all BC).trans hk7
    have K7 : Keeps (fun j => j = gA ∨ j = l2) WB W7 := (KC.mono (fun _ _ e => Or.inl e)).trans (hk7.mono (fun _ _ e => Or.inr e))
    have HV7 := hide (HV6.out.keeps K7 (fun e => by omega))
    have HM7 := hide (VC.keeps hk7 (fun e => by omega))
    have HR7 := hide (HR6.out.keeps K67 (fun j hj e => by rcases hj with h | h | h | h <;> omega))
    have HN7 := hide (HN6.out.keeps K67 (fun e => by omega))
    have HC7 := hide (HC6.out.keeps K67 (fun e => by omega) (fun e => by omega) (fun e => by omega) (fun e => by omega))
    have HDJ : Hid (nb ≠ gA ∧ nb ≠ g ∧ nb ≠ g + 1) := hide (by omega)
    clear hk7 K7 K67 BC KC VC zl zg zs zb zn hgA HV6 HR6 HN6 HC6
    gi_wp2
    refine wp_region_round (S := fun W5 => Keeps (fun j => j = nb) W7 W5) (by kernel_rfl) (by kernel_rfl) (by rintro ⟨_, _, h⟩; exact h) ?_
    have SW : Keeps (fun j => j = nb) W7 W7.drew := (Keeps.refl _ W7).drew
    have DS : Hid (∀ W, Keeps (fun j => j = nb) W7 W → Sp W g p ∧ CtR F ob nb rb W ∧ Vb W (g + 1) 3 [.int .i64 nv] ∧ Vb W gA 42 (mvC m)) := hide (fun W hk => by
      have zj := HDJ.out
      have zn := HNE.out
      exact ⟨HR7.out.z.keeps hk (fun e => by omega), HC7.out.keeps hk (fun e => by omega) (fun e => by omega) (fun e => by omega) (fun e => by omega), HN7.out.keeps hk (fun e => by omega), HM7.out.keeps hk (fun e => by omega)⟩)
    have HVd : Hid (Vb W7.drew nb 3 [.int .i64 (IntKind.i64.wrap (s + ((t.map RW).sum : Nat)))]) := hide (HV7.out.mono (drewN_below _ _ 1))
    generalize W7.drew = wd at *
    refine wpAnyH_take (i := 0) (v := .func (.func 59) #[] #[.pointer (some ⟨ob, 0, none⟩), .pointer (some ⟨nb, 0, none⟩), .pointer (some ⟨rb, 0, none⟩)]) rfl (by kernel_rfl) (by kernel_rfl) (by kernel_rfl) (fun _ _ _ h => h) (Or.inl ⟨by rfl, ?_⟩) SW ?_
    · intro W5 hW5
      have y0 := (DS.out W5 hW5).2.1.r
      go_simp <;> first | done | rfl | (rw [IntKind.wrap_i64]; omega) | omega
    go_simp
    refine wpAnyH_take (i := 1) (v := .agg (mvC m).toArray) rfl (by kernel_rfl) (by kernel_rfl) (by kernel_rfl) (fun _ _ _ h => h) (Or.inl ⟨by rfl, ?_⟩) SW ?_
    · intro W5 hW5
      have y0 := (DS.out W5 hW5).2.2.2.cell (i := 0) rfl
      have y1 := (DS.out W5 hW5).2.2.2.cell (i := 1) rfl
      have y2 := (DS.out W5 hW5).2.2.2.cell (i := 2) rfl
      go_simp <;> first | done | rfl | (rw [IntKind.wrap_i64]; omega) | omega
    go_simp
    refine wpAnyH_take (i := 3) (v := .int .i64 nv) rfl (by kernel_rfl) (by kernel_rfl) (by kernel_rfl) (fun _ _ _ h => h) (Or.inl ⟨by rfl, ?_⟩) SW ?_
    · intro W5 hW5
      have y0 := (DS.out W5 hW5).2.2.1.cell (i := 0) rfl
      go_simp <;> first | done | rfl | (rw [IntKind.wrap_i64]; omega) | omega
    go_simp
    refine wpAnyH_take (i := 4) (v := .int .i64 (n : Nat)) rfl (by kernel_rfl) (by kernel_rfl) (by kernel_rfl) (fun _ _ _ h => h) (Or.inl ⟨by rfl, ?_⟩) SW ?_
    · intro W5 hW5
      have y0 := HEM.out
      go_simp <;> first | done | rfl | (rw [IntKind.wrap_i64]; omega) | omega
    go_simp
    refine wpAnyH_ready (rs := [2]) (by kernel_rfl) (by simp) ?_
    refine AllReadyH.cons rfl (fun K1 hK1 => ?_) AllReadyH.nil
    go_simp
    refine (HA.out _ (DS.out _ SW).1).mono ?_
    rintro r v3 ⟨rfl, hb⟩
    have SWb := SW.trans (Keeps.of_all hb)
    have HV3 := hide (HVd.out.mono hb)
    refine hK1.out _ _ SWb (fun SW => ?_)
    clear hK1 K1 hb SWb HVd
    go_simp
    refine wpAnyH_ready (rs := [5]) (by kernel_rfl) (by simp) ?_
    refine AllReadyH.cons rfl (fun K1 hK1 => ?_) AllReadyH.nil
    go_simp
    refine (HI.out _ _ (DS.out _ SW).2.1 HV3.out).mono ?_
    rintro r v4 ⟨⟨x, rfl⟩, hv4, hk4⟩
    have SWb := SW.trans hk4
    refine hK1.out _ _ SWb (fun SW => ?_)
    clear hK1 K1 hk4 SWb
    have HV4 := hide hv4
    clear hv4 HV3
    go_simp
    refine wpAnyH_done (by kernel_rfl) ?_ _
    have HKE : Hid (Keeps (fun j => j = nb) W7 v4) := hide SW
    clear SW
    gi_wp2
    refine ⟨HKE.out.mono (fun j _ e => by rw [e]; exact HOg.out), O, fun _ _ h => h, HO.out, HOg.out, ?_⟩
    have h4 := HV4.out
    rw [HSM.out]
    rw [show s + (((t.map RW).sum + RW m : Nat) : Int) = s + ((t.map RW).sum : Nat) + (RW m : Nat) by omega]
    exact h4
  case done =>
    rintro D O W6 hD ⟨hO, hOg, hV6⟩ hk6 hm6 hKd
    have z2 := HZ5.out
    have zg := HG.out
    have zb := HBL.out
    have nD : ¬ O D := fun h => by have := hO _ h; omega
    have HM6 : Hid (Mks O w.heap.size W6 [{ target := .collected D, args := #[] }]) := hide ((Mks.nil O w.heap.size W6).push (n := w5.heap.size) (fun Ds hd E hE => by
      cases Ds with
      | nil => cases hE
      | cons _ _ => simp at hd) (by omega) (by omega) nD hKd)
    have HOg := hide hOg
    rw [HRS.out] at hV6
    have HV6 := hide hV6
    have HKx : Hid (Keeps (fun j => j = nb) w5 W6) := hide hk6
    have HBw : Hid (Below w.heap.size w w5) := hide (HB1.out.trans (HB5.out.mono HB1.out.size))
    clear hO hOg hV6 hk6 hm6 hKd
    go_wp2
    refine leaves_mks HM6.out (fun w9 hk9 => ?_)
    have k1 : Keeps (fun j => j = nb) w W6 := (Keeps.of_all HBw.out).trans HKx.out
    exact ⟨_, results_none rfl _ _ _, ⟨_, rfl⟩, HV6.out.keeps hk9 (fun e => e.2 HOg.out), ⟨hk9.os.trans k1.os, hk9.tape.trans k1.tape, hk9.output.trans k1.output, Nat.le_trans k1.size hk9.size, fun i hi hx => (hk9.block i (Nat.lt_of_lt_of_le hi k1.size) (fun e => by have := e.1; omega)).trans (k1.block i hi hx)⟩⟩

theorem ctw_any (n : Nat) (hn9 : n ≤ 9) : ∀ p, MayP p → ∀ ob nb rb, (nb ≠ 0 ∧ nb ≠ 2 ∧ nb ≠ ob ∧ nb ≠ rb) → ∀ (s : Int) w, CtR F ob nb rb w → Vb w nb 3 [.int .i64 (IntKind.i64.wrap s)] → Calls Tryd.prog 59 #[.agg (ivs (stP p)).toArray, .int .i64 (n : Nat), .pointer (some ⟨ob, 0, none⟩), .pointer (some ⟨nb, 0, none⟩), .pointer (some ⟨rb, 0, none⟩)] w fun r w' => (∃ x, r = .returned x) ∧ Vb w' nb 3 [.int .i64 (IntKind.i64.wrap (s + (rwN q n p : Nat)))] ∧ Keeps (fun j => j = nb) w w' := by
  induction n with
  | zero => exact fun p hM ob nb rb _ s w hc hn => ctw_zero F q hF hq p hM ob nb rb s w hc hn
  | succ n ih => exact fun p hM ob nb rb hne s w hc hn => ctw_succ F q n (by omega) (ih (by omega)) p hM ob nb rb hne s w hc hn
end

end Go.Proofs.YtdmlamnonbmboaaDoor
