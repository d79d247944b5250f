/-
  Chess: rows of moves counted: walked. No conditions beyond those that each theorem bears.
-/
import Derived.Test.YtbhlafdfpoacjaaDoorQ35
import Derived.Test.YtbhlafdfpoacjaaDoorQ36
namespace Go.Proofs.YtbhlafdfpoacjaaDoor
open Go.RowKit Go.Shelf

theorem cnP_succ (n : Nat) (p : Ps) : cnP (n + 1) p = (mvs p).foldl (fun s m => IntKind.i64.wrap (s + cnP n (nxP p m))) 0 := by rw [cnP]
theorem cnP_zero (p : Ps) : cnP 0 p = 1 := by rw [cnP]
theorem wrap_one {s : Int} (h1 : 0 ≤ s) (h2 : s ≤ 1000000) : IntKind.i64.wrap (s + 1) = s + 1 := by rw [IntKind.wrap_i64]; omega
theorem wrap_64 (x : Int) : IntKind.i64.wrap x = wrap64 x := by rw [IntKind.wrap_i64]; unfold wrap64; omega
theorem fold_one (f : (Nat × Nat × Nat) → Int) (h : ∀ m, f m = 1) : ∀ (L : List (Nat × Nat × Nat)) (s : Nat), s + L.length ≤ 1000000 → L.foldl (fun s m => IntKind.i64.wrap (s + f m)) ((s : Nat) : Int) = ((s + L.length : Nat) : Int)
  | [], s, _ => rfl
  | m :: r, s, hl => by
    rw [List.length_cons] at hl
    rw [List.foldl_cons, h m, wrap_one (by omega) (by omega), show ((s : Nat) : Int) + 1 = ((s + 1 : Nat) : Int) by omega, fold_one f h r (s + 1) (by omega), List.length_cons]
    congr 1; omega
theorem cnP_one (p : Ps) : cnP 1 p = (((mvs p).length : Nat) : Int) := by
  rw [cnP_succ]
  have := fold_one (fun m => cnP 0 (nxP p m)) (fun m => cnP_zero _) (mvs p) 0 (by have := mvs_len p; omega)
  simpa using this

attribute [local irreducible] mvs cnP nxP
attribute [local go_sem] Oper.semAt_some wide_fn wide_fn0 wide_depth

set_option maxRecDepth 100000 in
set_option maxHeartbeats 1000000 in
theorem count_zero (p : Ps) (w : World) :
    Calls Tryd.prog 43 #[.agg (ivs (stP p)).toArray, .int .i64 0] w fun r w' => r = .returned (.int .i64 (cnP 0 p)) ∧ Below w.heap.size w w' := by
  obtain ⟨w1, hw1⟩ : ∃ w1, (w.alloc (.cells (ivs (stP p)).toArray 53)).alloc (.cells #[.int .i64 0] 3) = w1 := ⟨_, rfl⟩
  have HB1 : Hid (Below w.heap.size w w1) := hide (by rw [← hw1]; exact ((Below.refl _ _).alloc (Nat.le_refl _) _).alloc (by simp) _)
  have V1 : Vb w1 (w.heap.size + 1) 3 [.int .i64 0] := by
    rw [← hw1]
    have := Vb.new (w.alloc (.cells (ivs (stP p)).toArray 53)) 3 [.int .i64 0]
    rw [World.size_alloc] at this
    exact this
  have c1 := V1.cell (i := 0) rfl
  have HR := hide (cnP_zero p)
  go_enter Tryd.func43, Tryd.ntmps43
  go_upto_region 1 with fail
  clear hw1
  go_wp2
  go_ret
  exact ⟨by rw [HR.out]; rfl, HB1.out⟩

set_option maxRecDepth 100000 in
set_option maxHeartbeats 8000000 in
theorem count_one (p : Ps) (hM : MayP p) (w : World) (hT : TabS w) (hZ : TzT w) :
    Calls Tryd.prog 43 #[.agg (ivs (stP p)).toArray, .int .i64 1] w fun r w' => r = .returned (.int .i64 (cnP 1 p)) ∧ Below w.heap.size w w' := by
  have HSQ := hide (fun sb b => movesP_seq sb b p hM)
  have HE : Hid ((mvs p).foldl (fun s (_ : Nat × Nat × Nat) => IntKind.i64.wrap (s + 1)) 0 = cnP 1 p) := hide (by
    have h1 := fold_one (fun _ => 1) (fun _ => rfl) (mvs p) 0 (by have := mvs_len p; omega)
    rw [cnP_one]
    simpa using h1)
  obtain ⟨nv, hnv⟩ : ∃ nv : Int, (1 : Int) = nv := ⟨_, rfl⟩
  have e0 : (nv == 0) = false := by rw [← hnv]; rfl
  have e1 : (nv == 1) = true := by rw [← hnv]; rfl
  have hsub : (1 : Int) = nv := hnv
  rw [hsub]
  obtain ⟨XS, hXS⟩ : ∃ XS, mvs p = XS := ⟨_, rfl⟩
  rw [hXS] at HSQ HE 
  obtain ⟨res, hres⟩ : ∃ res, cnP 1 p = res := ⟨_, rfl⟩
  rw [hres] at HE ⊢
  obtain ⟨g, hg⟩ : ∃ g, w.heap.size = g := ⟨_, rfl⟩
  obtain ⟨w1, hw1⟩ : ∃ w1, (w.alloc (.cells (ivs (stP p)).toArray 53)).alloc (.cells #[.int .i64 nv] 3) = w1 := ⟨_, rfl⟩
  have B1 : Below w.heap.size w w1 := by rw [← hw1]; exact ((Below.refl _ _).alloc (Nat.le_refl _) _).alloc (by simp) _
  have P1 : Sp w1 g p := by rw [← hw1, ← hg]; exact ⟨hM.st.1, (Vb.new w 53 _).old _⟩
  have L1 : Vb w1 (g + 1) 3 [.int .i64 nv] := by
    rw [← hw1, ← hg]
    have := Vb.new (w.alloc (.cells (ivs (stP p)).toArray 53)) 3 [.int .i64 nv]
    rw [World.size_alloc] at this
    exact this
  have s1 : w1.heap.size = g + 2 := by rw [← hw1, ← hg]; simp
  obtain ⟨w2, hw2⟩ : ∃ w2, w1.alloc (.cells #[.int .i64 0] 3) = w2 := ⟨_, rfl⟩
  have B12 : Below w1.heap.size w1 w2 := by rw [← hw2]; exact (Below.refl _ _).alloc (Nat.le_refl _) _
  have N2 : Vb w2 (g + 2) 3 [.int .i64 0] := by rw [← hw2, ← s1]; exact Vb.new w1 3 _
  have n0 := N2.cell (i := 0) rfl
  have fn0 := N2.frozen 0
  obtain ⟨w3, hw3⟩ : ∃ w3, w2.setCell ⟨g + 2, 0, none⟩ (.int .i64 0) = w3 := ⟨_, rfl⟩
  have N3 : Vb w3 (g + 2) 3 [.int .i64 0] := by rw [← hw3]; exact N2.set 0 _
  have B13 : Below w1.heap.size w1 w3 := by rw [← hw3]; exact B12.setCell (p := ⟨g + 2, 0, none⟩) (by show _ ≤ g + 2; omega) _
  have s3 : w3.heap.size = g + 3 := by rw [← hw3, ← hw2]; simp [s1]
  have B3 : Below w.heap.size w w3 := B1.trans (B13.mono B1.size)
  have HB3 := hide B3
  have HN3 := hide N3
  have HP3 := hide (P1.mono B13)
  have HL3 := hide (L1.mono B13)
  have HT3 := hide (hT.mono B3)
  have HZ3 := hide (hZ.mono B3)
  have HBL : Hid (1 < g ∧ 2 < g) := hide (by have := hT.lt; have := hZ.lt; omega)
  have HG := hide hg
  have l1 := L1.cell (i := 0) rfl
  have s2 : w2.heap.size = g + 3 := by rw [← hw2]; simp [s1]
  clear hT hZ hM hXS B1 B12 B13 B3 N2 N3 P1 L1 hnv hres hsub
  refine (callsIn_wide (n := 3)).1 ?_
  refine callsIn_of_wp_marks Tryd.func43 rfl trivial ?_ rfl
  simp only [Tryd.ntmps43, List.size_toArray, List.length_cons, List.length_nil, Nat.reduceAdd, Nat.reduceSub, Array.replicate_succ, Array.replicate_zero, List.push_toArray, List.append_toArray, List.nil_append, List.cons_append]
  refine wpIn_wide.2 ?_
  go_upto_region 1 with fail
  try rw [hg]
  clear hw1
  go_upto_region 4 with fail
  try rw [s1]
  clear hw2 hw3 n0 fn0 l1 s1 s2
  go_wp2_with fail
  refine (moves_any g _).mono ?_
  rintro r w5 ⟨rfl, hw5⟩
  have R5 := MlR.new HP3.out HT3.out HZ3.out
  rw [← hw5] at R5
  have hb5 : Below w3.heap.size w3 w5 := by rw [hw5]; exact (Below.refl _ _).alloc (Nat.le_refl _) _
  have s5 : w5.heap.size = g + 4 := by rw [hw5]; simp [s3]
  have HR5 := hide R5
  have HN5 := hide (HN3.out.mono hb5)
  have HP5 := hide (HP3.out.mono hb5)
  have HL5 := hide (HL3.out.mono hb5)
  have HB5 : Hid (Below w.heap.size w w5) := hide (HB3.out.trans (hb5.mono HB3.out.size))
  have HS5 := hide s5
  have HS3' := hide s3
  rw [s3] at HR5
  try rw [s3]
  clear hw5 R5 hb5 s5 HN3 HP3 HL3 HT3 HZ3 s3
  go_wp2_with fail
  refine (wpIn_wide (n := 1)).1 (wp_range_o (gf := 55) (lb := #[.pointer (some ⟨g + 3, 0, none⟩)]) (G := MvG) (xs := XS) (R := MlR (g + 3) g p.Z (p.t : Nat) (p.k : Nat) p.e (p.h : Nat) (p.f : Nat)) (T := MlT (g + 3) g) (by simp [Act.eval]) (enters_of Tryd.func55 (by kernel_rfl) rfl)
    (HSQ.out (g + 3) g) (fun j hj => HR5.out.lt j hj) (fun A hA => HR5.out.keeps (X := fun _ => False) (Keeps.of_all hA) (fun _ _ e => e)) (fun x args W' hG => by rw [hG]; rfl)
    (fun O s W' => (∀ j, O j → j = g + 2) ∧ O (g + 2) ∧ Vb W' (g + 2) 3 [.int .i64 (s.foldl (fun s (_ : Nat × Nat × Nat) => IntKind.i64.wrap (s + 1)) 0)]) (fun _ _ _ => False) (fun j => j = g + 2) ?hC ⟨fun _ h => h, rfl, HN5.out⟩ ?round ?done (fun _ _ _ _ _ h => h.elim))
  case hC =>
    have zb := HBL.out
    have nT : ¬ MlT (g + 3) g (g + 2) := by
      rintro (h | h | h | h) <;> omega
    intro d
    refine ⟨?_, ?_, ?_, ?_⟩
    · rintro O s A ⟨h1, _, h3⟩ j hj
      obtain rfl := h1 j hj
      exact ⟨h3.lt, nT⟩
    · rintro O A h; exact h.elim
    · rintro O s A B ⟨h1, h2, h3⟩ hkk
      exact ⟨h1, h2, h3.keeps hkk (fun e => e.2 h2)⟩
    · rintro O A B h; exact h.elim
  case round =>
    rintro l2 O s m args W6 hl2 _ ⟨hO, hOg, hV6⟩ hOl hK6 hOm hpre hG hsz6
    obtain rfl : args = #[mvV m] := hG
    have hmm : m ∈ XS := hpre.subset (by simp)
    have HSN : Hid ((s ++ [m]).foldl (fun s (_ : Nat × Nat × Nat) => IntKind.i64.wrap (s + 1)) 0 = IntKind.i64.wrap (s.foldl (fun s (_ : Nat × Nat × Nat) => IntKind.i64.wrap (s + 1)) 0 + 1)) := hide (by rw [List.foldl_append]; rfl)
    have HO := hide hO
    have HOg := hide hOg
    have z5 := HS5.out
    have zb := HBL.out
    have HL : Hid (g + 5 = l2 ∧ l2 < W6.heap.size) := hide (by omega)
    have HR6 := hide (HR5.out.keeps hK6 (fun j hj e => by rcases hj with h | h | h | h <;> omega))
    have HP6 := hide (HP5.out.keeps hK6 (fun e => by omega))
    have HL6 := hide (HL5.out.keeps hK6 (fun e => by omega))
    obtain ⟨ck, hck⟩ : ∃ ck, s.foldl (fun s (_ : Nat × Nat × Nat) => IntKind.i64.wrap (s + 1)) 0 = ck := ⟨_, rfl⟩
    rw [hck] at HSN hV6
    obtain ⟨gA, hgA⟩ : ∃ gA, W6.heap.size = gA := ⟨_, rfl⟩
    obtain ⟨WB, hWB⟩ : ∃ WB, W6.alloc (.cells #[.int .i64 0, .int .i64 0, .int .i64 0] 26) = WB := ⟨_, rfl⟩
    have VB : Vb WB gA 26 [.int .i64 0, .int .i64 0, .int .i64 0] := by rw [← hWB, ← hgA]; exact Vb.new W6 26 _
    have BB : Below W6.heap.size W6 WB := by rw [← hWB]; exact (Below.refl _ _).alloc (Nat.le_refl _) _
    have HV6 := hide (hV6.mono BB)
    have HBB := hide BB
    have HGA := hide hgA
    clear hO hOg hV6 hOl hK6 hOm hpre hsz6 hl2 BB hck z5 zb hmm
    gi_wp2_with (refine wpListIn_store_vb rfl 26 (.tmp 6) (.tmp 10) rfl gA (mvC m) _ (by simp [Act.eval]) rfl VB rfl row26 (mvC_one m) ?_; intro WC VC KC)
    clear hWB VB
    have BC : Below W6.heap.size W6 WC := HBB.out.trans (KC.below HBB.out.size (fun j hj e => by have := HGA.out; omega))
    refine ⟨BC, ?_⟩
    intro W7 hk7
    have zl := HL.out
    have zg := HGA.out
    have zs := HS5.out
    have zb := HBL.out
    have K67 : Keeps (fun j => j = l2) W6 W7 := (Keeps.of_all BC).trans hk7
    have K7 : Keeps (fun j => j = gA ∨ j = l2) WB W7 := (KC.mono (fun _ _ e => Or.inl e)).trans (hk7.mono (fun _ _ e => Or.inr e))
    have HV7 := hide (HV6.out.keeps K7 (fun e => by omega))
    have HM7 := hide (VC.keeps hk7 (fun e => by omega))
    have HR7 := hide (HR6.out.keeps K67 (fun j hj e => by rcases hj with h | h | h | h <;> omega))
    have HP7 := hide (HP6.out.keeps K67 (fun e => by omega))
    have HL7 := hide (HL6.out.keeps K67 (fun e => by omega))
    have HZ7 : Hid (g + 5 < W7.heap.size ∧ gA < W7.heap.size) := hide ⟨by have := HM7.out.lt; omega, HM7.out.lt⟩
    clear hk7 K7 K67 BC KC VC zl zg zs zb hgA HV6 HR6 HP6 HL6
    have c7 := HV7.out.cell (i := 0) rfl
    have f7 := HV7.out.frozen 0
    have l7 := HL7.out.cell (i := 0) rfl
    have HVN := hide (HV7.out.set 0 (.int .i64 (wrap64 (ck + 1))))
    gi_wp2
    exact ⟨(Keeps.set1 _ _ _ _).mono (fun j _ e => by rw [e]; exact HOg.out), O, fun _ _ h => h, HO.out, HOg.out, by rw [HSN.out, wrap_64]; exact HVN.out⟩
  case done =>
    rintro D O W6 hD ⟨hO, hOg, hV6⟩ hk6 hm6 hKd
    have z5 := HS5.out
    have zg := HG.out
    have nD : ¬ O D := fun h => by have := hO _ h; omega
    have HM6 : Hid (Mks O w.heap.size W6 [{ target := .collected D, args := #[] }]) := hide ((Mks.nil O w.heap.size W6).push (n := w5.heap.size) (fun Ds hd E hE => by
      cases Ds with
      | nil => cases hE
      | cons _ _ => simp at hd) (by omega) (by omega) nD hKd)
    rw [HE.out] at hV6
    have c6 := hV6.cell (i := 0) rfl
    have HK6 := hide hk6
    clear hO hOg hV6 hk6 hm6 hKd z5 zg nD
    go_wp2
    refine leaves_mks HM6.out (fun w9 hk9 => ?_)
    have hka : Below w.heap.size w W6 := HB5.out.trans (HK6.out.below HB5.out.size (fun j hj e => by have := HG.out; omega))
    exact ⟨_, results_tmp rfl _ _ _, rfl, hka.trans (hk9.below hka.size (fun j hj e => by have := e.1; omega))⟩

set_option maxRecDepth 100000 in
set_option maxHeartbeats 8000000 in
theorem count_succ (n : Nat) (h1 : 1 ≤ n) (h3 : n ≤ 2) (ih : ∀ p, MayP p → ∀ w, TabS w → TzT w → Calls Tryd.prog 43 #[.agg (ivs (stP p)).toArray, .int .i64 (n : Nat)] w fun r w' => r = .returned (.int .i64 (cnP n p)) ∧ Below w.heap.size w w')
    (p : Ps) (hM : MayP p) (w : World) (hT : TabS w) (hZ : TzT w) :
    Calls Tryd.prog 43 #[.agg (ivs (stP p)).toArray, .int .i64 ((n + 1 : Nat) : Int)] w fun r w' => r = .returned (.int .i64 (cnP (n + 1) p)) ∧ Below w.heap.size w w' := by
  have HSQ := hide (fun sb b => movesP_seq sb b p hM)
  have HE : Hid ((mvs p).foldl (fun s m => IntKind.i64.wrap (s + cnP n (nxP p m))) 0 = cnP (n + 1) p) := hide (cnP_succ n p).symm
  have HNX := hide (fun m (hm : m ∈ mvs p) => may_nx hM hm)
  have HIH := hide ih
  obtain ⟨nv, hnv⟩ : ∃ nv : Int, ((n + 1 : Nat) : Int) = nv := ⟨_, rfl⟩
  have e0 : (nv == 0) = false := by rw [← hnv, beq_eq_false_iff_ne]; omega
  have e1 : (nv == 1) = false := by rw [← hnv, beq_eq_false_iff_ne]; omega
  have em : IntKind.i64.wrap (nv - 1) = ((n : Nat) : Int) := by rw [← hnv, IntKind.wrap_i64]; omega
  have HEM := hide em
  clear em ih
  rw [hnv]
  obtain ⟨XS, hXS⟩ : ∃ XS, mvs p = XS := ⟨_, rfl⟩
  rw [hXS] at HSQ HE HNX
  obtain ⟨res, hres⟩ : ∃ res, cnP (n + 1) p = res := ⟨_, rfl⟩
  rw [hres] at HE ⊢
  obtain ⟨g, hg⟩ : ∃ g, w.heap.size = g := ⟨_, rfl⟩
  have HAF := hide (fun m (hm : m ∈ mvs p) W (h : Sp W g p) => after_any g p hM m (mvs_ok hM hm).1 W h)
  rw [hXS] at HAF
  obtain ⟨w1, hw1⟩ : ∃ w1, (w.alloc (.cells (ivs (stP p)).toArray 53)).alloc (.cells #[.int .i64 nv] 3) = w1 := ⟨_, rfl⟩
  have B1 : Below w.heap.size w w1 := by rw [← hw1]; exact ((Below.refl _ _).alloc (Nat.le_refl _) _).alloc (by simp) _
  have P1 : Sp w1 g p := by rw [← hw1, ← hg]; exact ⟨hM.st.1, (Vb.new w 53 _).old _⟩
  have L1 : Vb w1 (g + 1) 3 [.int .i64 nv] := by
    rw [← hw1, ← hg]
    have := Vb.new (w.alloc (.cells (ivs (stP p)).toArray 53)) 3 [.int .i64 nv]
    rw [World.size_alloc] at this
    exact this
  have s1 : w1.heap.size = g + 2 := by rw [← hw1, ← hg]; simp
  obtain ⟨w2, hw2⟩ : ∃ w2, w1.alloc (.cells #[.int .i64 0] 3) = w2 := ⟨_, rfl⟩
  have B12 : Below w1.heap.size w1 w2 := by rw [← hw2]; exact (Below.refl _ _).alloc (Nat.le_refl _) _
  have N2 : Vb w2 (g + 2) 3 [.int .i64 0] := by rw [← hw2, ← s1]; exact Vb.new w1 3 _
  have n0 := N2.cell (i := 0) rfl
  have fn0 := N2.frozen 0
  obtain ⟨w3, hw3⟩ : ∃ w3, w2.setCell ⟨g + 2, 0, none⟩ (.int .i64 0) = w3 := ⟨_, rfl⟩
  have N3 : Vb w3 (g + 2) 3 [.int .i64 0] := by rw [← hw3]; exact N2.set 0 _
  have B13 : Below w1.heap.size w1 w3 := by rw [← hw3]; exact B12.setCell (p := ⟨g + 2, 0, none⟩) (by show _ ≤ g + 2; omega) _
  have s3 : w3.heap.size = g + 3 := by rw [← hw3, ← hw2]; simp [s1]
  have B3 : Below w.heap.size w w3 := B1.trans (B13.mono B1.size)
  have HB3 := hide B3
  have HN3 := hide N3
  have HP3 := hide (P1.mono B13)
  have HL3 := hide (L1.mono B13)
  have HT3 := hide (hT.mono B3)
  have HZ3 := hide (hZ.mono B3)
  have HBL : Hid (1 < g ∧ 2 < g) := hide (by have := hT.lt; have := hZ.lt; omega)
  have HG := hide hg
  have l1 := L1.cell (i := 0) rfl
  have s2 : w2.heap.size = g + 3 := by rw [← hw2]; simp [s1]
  clear hT hZ hM hXS B1 B12 B13 B3 N2 N3 P1 L1 hnv hres 
  refine (callsIn_wide (n := 3)).1 ?_
  refine callsIn_of_wp_marks Tryd.func43 rfl trivial ?_ rfl
  simp only [Tryd.ntmps43, List.size_toArray, List.length_cons, List.length_nil, Nat.reduceAdd, Nat.reduceSub, Array.replicate_succ, Array.replicate_zero, List.push_toArray, List.append_toArray, List.nil_append, List.cons_append]
  refine wpIn_wide.2 ?_
  go_upto_region 1 with fail
  try rw [hg]
  clear hw1
  go_upto_region 4 with fail
  try rw [s1]
  clear hw2 hw3 n0 fn0 l1 s1 s2
  go_wp2_with fail
  refine (moves_any g _).mono ?_
  rintro r w5 ⟨rfl, hw5⟩
  have R5 := MlR.new HP3.out HT3.out HZ3.out
  rw [← hw5] at R5
  have hb5 : Below w3.heap.size w3 w5 := by rw [hw5]; exact (Below.refl _ _).alloc (Nat.le_refl _) _
  have s5 : w5.heap.size = g + 4 := by rw [hw5]; simp [s3]
  have HR5 := hide R5
  have HN5 := hide (HN3.out.mono hb5)
  have HP5 := hide (HP3.out.mono hb5)
  have HL5 := hide (HL3.out.mono hb5)
  have HB5 : Hid (Below w.heap.size w w5) := hide (HB3.out.trans (hb5.mono HB3.out.size))
  have HS5 := hide s5
  have HS3' := hide s3
  rw [s3] at HR5
  try rw [s3]
  clear hw5 R5 hb5 s5 HN3 HP3 HL3 HT3 HZ3 s3
  go_wp2_with fail
  refine (wpIn_wide (n := 1)).1 (wp_range_o (gf := 55) (lb := #[.pointer (some ⟨g + 3, 0, none⟩)]) (G := MvG) (xs := XS) (R := MlR (g + 3) g p.Z (p.t : Nat) (p.k : Nat) p.e (p.h : Nat) (p.f : Nat)) (T := MlT (g + 3) g) (by simp [Act.eval]) (enters_of Tryd.func55 (by kernel_rfl) rfl)
    (HSQ.out (g + 3) g) (fun j hj => HR5.out.lt j hj) (fun A hA => HR5.out.keeps (X := fun _ => False) (Keeps.of_all hA) (fun _ _ e => e)) (fun x args W' hG => by rw [hG]; rfl)
    (fun O s W' => (∀ j, O j → j = g + 2) ∧ O (g + 2) ∧ Vb W' (g + 2) 3 [.int .i64 (s.foldl (fun s m => IntKind.i64.wrap (s + cnP n (nxP p m))) 0)]) (fun _ _ _ => False) (fun j => j = g + 2) ?hC ⟨fun _ h => h, rfl, HN5.out⟩ ?round ?done (fun _ _ _ _ _ h => h.elim))
  case hC =>
    have zb := HBL.out
    have nT : ¬ MlT (g + 3) g (g + 2) := by
      rintro (h | h | h | h) <;> omega
    intro d
    refine ⟨?_, ?_, ?_, ?_⟩
    · rintro O s A ⟨h1, _, h3⟩ j hj
      obtain rfl := h1 j hj
      exact ⟨h3.lt, nT⟩
    · rintro O A h; exact h.elim
    · rintro O s A B ⟨h1, h2, h3⟩ hkk
      exact ⟨h1, h2, h3.keeps hkk (fun e => e.2 h2)⟩
    · rintro O A B h; exact h.elim
  case round =>
    rintro l2 O s m args W6 hl2 _ ⟨hO, hOg, hV6⟩ hOl hK6 hOm hpre hG hsz6
    obtain rfl : args = #[mvV m] := hG
    have hmm : m ∈ XS := hpre.subset (by simp)
    have HSN : Hid ((s ++ [m]).foldl (fun s m => IntKind.i64.wrap (s + cnP n (nxP p m))) 0 = IntKind.i64.wrap (s.foldl (fun s m => IntKind.i64.wrap (s + cnP n (nxP p m))) 0 + cnP n (nxP p m))) := hide (by rw [List.foldl_append]; rfl)
    have HO := hide hO
    have HOg := hide hOg
    have z5 := HS5.out
    have zb := HBL.out
    have HL : Hid (g + 5 = l2 ∧ l2 < W6.heap.size) := hide (by omega)
    have HR6 := hide (HR5.out.keeps hK6 (fun j hj e => by rcases hj with h | h | h | h <;> omega))
    have HP6 := hide (HP5.out.keeps hK6 (fun e => by omega))
    have HL6 := hide (HL5.out.keeps hK6 (fun e => by omega))
    obtain ⟨ck, hck⟩ : ∃ ck, s.foldl (fun s m => IntKind.i64.wrap (s + cnP n (nxP p m))) 0 = ck := ⟨_, rfl⟩
    rw [hck] at HSN hV6
    obtain ⟨gA, hgA⟩ : ∃ gA, W6.heap.size = gA := ⟨_, rfl⟩
    obtain ⟨WB, hWB⟩ : ∃ WB, W6.alloc (.cells #[.int .i64 0, .int .i64 0, .int .i64 0] 26) = WB := ⟨_, rfl⟩
    have VB : Vb WB gA 26 [.int .i64 0, .int .i64 0, .int .i64 0] := by rw [← hWB, ← hgA]; exact Vb.new W6 26 _
    have BB : Below W6.heap.size W6 WB := by rw [← hWB]; exact (Below.refl _ _).alloc (Nat.le_refl _) _
    have HV6 := hide (hV6.mono BB)
    have HBB := hide BB
    have HGA := hide hgA
    have HGA2 : Hid (g + 2 < gA) := hide (by omega)
    have HA := hide (fun W h => HAF.out m hmm W h)
    have HI := hide (fun W h2 h3 => HIH.out (nxP p m) (HNX.out m hmm) W h2 h3)
    obtain ⟨cr, hcr⟩ : ∃ cr, cnP n (nxP p m) = cr := ⟨_, rfl⟩
    rw [hcr] at HI HSN
    clear hcr
    clear hO hOg hV6 hOl hK6 hOm hpre hsz6 hl2 BB hck z5 zb hmm
    gi_wp2_with (refine wpListIn_store_vb rfl 26 (.tmp 6) (.tmp 10) rfl gA (mvC m) _ (by simp [Act.eval]) rfl VB rfl row26 (mvC_one m) ?_; intro WC VC KC)
    clear hWB VB
    have BC : Below W6.heap.size W6 WC := HBB.out.trans (KC.below HBB.out.size (fun j hj e => by have := HGA.out; omega))
    refine ⟨BC, ?_⟩
    intro W7 hk7
    have zl := HL.out
    have zg := HGA.out
    have zs := HS5.out
    have zb := HBL.out
    have K67 : Keeps (fun j => j = l2) W6 W7 := (Keeps.of_all BC).trans hk7
    have K7 : Keeps (fun j => j = gA ∨ j = l2) WB W7 := (KC.mono (fun _ _ e => Or.inl e)).trans (hk7.mono (fun _ _ e => Or.inr e))
    have HV7 := hide (HV6.out.keeps K7 (fun e => by omega))
    have HM7 := hide (VC.keeps hk7 (fun e => by omega))
    have HR7 := hide (HR6.out.keeps K67 (fun j hj e => by rcases hj with h | h | h | h <;> omega))
    have HP7 := hide (HP6.out.keeps K67 (fun e => by omega))
    have HL7 := hide (HL6.out.keeps K67 (fun e => by omega))
    have HZ7 : Hid (g + 5 < W7.heap.size ∧ gA < W7.heap.size) := hide ⟨by have := HM7.out.lt; omega, HM7.out.lt⟩
    clear hk7 K7 K67 BC KC VC zl zg zs zb hgA HV6 HR6 HP6 HL6
    have l7 := HL7.out.cell (i := 0) rfl
    gi_wp2
    refine wp_region_round (S := fun W5 => Keeps (fun j => j = g + 2) W7 W5) (by kernel_rfl) (by kernel_rfl) (by rintro ⟨_, _, h⟩; exact h) ?_
    have SW : Keeps (fun j => j = g + 2) W7 W7.drew := (Keeps.refl _ W7).drew
    have BD : Below W7.heap.size W7 W7.drew := drewN_below _ _ 1
    have ND := HV7.out.mono BD
    have DS : Hid (∀ W, Keeps (fun j => j = g + 2) W7 W → Sp W g p ∧ TabS W ∧ TzT W ∧ Vb W (g + 1) 3 [.int .i64 nv] ∧ Vb W gA 26 (mvC m)) := hide (fun W hk => ⟨HP7.out.keeps hk (fun e => by omega), HR7.out.ts.keeps hk (fun e => by have := HBL.out; omega), HR7.out.tz.keeps hk (fun e => by have := HBL.out; omega), HL7.out.keeps hk (fun e => by omega), HM7.out.keeps hk (fun e => by have := HGA2.out; omega)⟩)
    clear l7
    generalize W7.drew = wq at *
    clear BD
    refine wpAnyH_take (i := 1) (v := .agg (mvC m).toArray) rfl (by kernel_rfl) (by kernel_rfl) (by kernel_rfl) (fun _ _ _ h => h) (Or.inl ⟨by rfl, ?_⟩) SW ?_
    · intro W5 hW5
      have y0 := (DS.out W5 hW5).2.2.2.2.cell (i := 0) rfl
      have y1 := (DS.out W5 hW5).2.2.2.2.cell (i := 1) rfl
      have y2 := (DS.out W5 hW5).2.2.2.2.cell (i := 2) rfl
      go_simp <;> first | done | rfl | (rw [IntKind.wrap_i64]; omega) | omega
    go_simp
    refine wpAnyH_take (i := 3) (v := .int .i64 nv) rfl (by kernel_rfl) (by kernel_rfl) (by kernel_rfl) (fun _ _ _ h => h) (Or.inl ⟨by rfl, ?_⟩) SW ?_
    · intro W5 hW5
      have y0 := (DS.out W5 hW5).2.2.2.1.cell (i := 0) rfl
      go_simp <;> first | done | rfl | (rw [IntKind.wrap_i64]; omega) | omega
    go_simp
    refine wpAnyH_take (i := 4) (v := .int .i64 ((n : Nat) : Int)) rfl (by kernel_rfl) (by kernel_rfl) (by kernel_rfl) (fun _ _ _ h => h) (Or.inl ⟨by rfl, ?_⟩) SW ?_
    · intro W5 hW5
      have y0 := HEM.out
      go_simp <;> first | done | rfl | (rw [IntKind.wrap_i64]; omega) | omega
    go_simp
    refine wpAnyH_ready (rs := [0, 2]) (by kernel_rfl) (by simp) ?_
    refine AllReadyH.cons rfl (fun K1 hK1 => ?_) (AllReadyH.cons rfl (fun K1 hK1 => ?_) AllReadyH.nil)
    · have nc := ND.cell (i := 0) rfl
      go_simp
      refine hK1.out _ _ SW (fun SW => ?_)
      clear hK1 K1 nc
      go_simp
      refine wpAnyH_ready (rs := [2]) (by kernel_rfl) (by simp) ?_
      refine AllReadyH.cons rfl (fun K1 hK1 => ?_) AllReadyH.nil
      go_simp
      refine (HA.out _ (DS.out _ SW).1).mono ?_
      rintro r v3 ⟨rfl, hb⟩
      replace ND := ND.mono hb
      have SWb := SW.trans (Keeps.of_all hb)
      refine hK1.out _ _ SWb (fun SW => ?_)
      clear hK1 K1 hb SWb
      rename World => wq
      go_simp
      refine wpAnyH_ready (rs := [5]) (by kernel_rfl) (by simp) ?_
      refine AllReadyH.cons rfl (fun K1 hK1 => ?_) AllReadyH.nil
      go_simp
      refine (HI.out _ (DS.out _ SW).2.1 (DS.out _ SW).2.2.1).mono ?_
      rintro r v4 ⟨rfl, hb⟩
      replace ND := ND.mono hb
      have SWb := SW.trans (Keeps.of_all hb)
      refine hK1.out _ _ SWb (fun SW => ?_)
      clear hK1 K1 hb SWb
      rename World => wq
      go_simp
      refine wpAnyH_take (i := 6) (v := .int .i64 (IntKind.i64.wrap (ck + cr))) rfl (by kernel_rfl) (by kernel_rfl) (by kernel_rfl) (fun _ _ _ h => h) (Or.inl ⟨by rfl, ?_⟩) SW ?_
      · intro W5 hW5
        go_simp <;> first | done | rfl | (rw [IntKind.wrap_i64]; omega) | omega
      go_simp
      have nc := ND.cell (i := 0) rfl
      have nf := ND.frozen 0
      have HNS : Hid (Vb (wq.setCell ⟨g + 2, 0, none⟩ (.int .i64 (IntKind.i64.wrap (ck + cr)))) (g + 2) 3 [.int .i64 (IntKind.i64.wrap (ck + cr))]) := hide (ND.set 0 _)
      have HKS : Hid (Keeps (fun j => j = g + 2) wq (wq.setCell ⟨g + 2, 0, none⟩ (.int .i64 (IntKind.i64.wrap (ck + cr))))) := hide (Keeps.set1 wq (g + 2) 0 _)
      refine wpAnyH_ready (rs := [7]) (by kernel_rfl) (by simp) ?_
      refine AllReadyH.cons rfl (fun K1 hK1 => ?_) AllReadyH.nil
      go_simp
      refine hK1.out _ _ (SW.trans HKS.out) (fun SW => ?_)
      clear hK1 K1 nc nf ND
      generalize wq.setCell ⟨g + 2, 0, none⟩ (.int .i64 (IntKind.i64.wrap (ck + cr))) = we at *
      go_simp
      refine wpAnyH_done (by kernel_rfl) ?_ _
      have HKE : Hid (Keeps (fun j => j = g + 2) W7 we) := hide SW
      clear SW
      gi_wp2
      exact ⟨HKE.out.mono (fun j _ e => by rw [e]; exact HOg.out), O, fun _ _ h => h, HO.out, HOg.out, by rw [HSN.out]; exact HNS.out⟩
    · go_simp
      refine (HA.out _ (DS.out _ SW).1).mono ?_
      rintro r v3 ⟨rfl, hb⟩
      replace ND := ND.mono hb
      have SWb := SW.trans (Keeps.of_all hb)
      refine hK1.out _ _ SWb (fun SW => ?_)
      clear hK1 K1 hb SWb
      rename World => wq
      go_simp
      refine wpAnyH_ready (rs := [0, 5]) (by kernel_rfl) (by simp) ?_
      refine AllReadyH.cons rfl (fun K1 hK1 => ?_) (AllReadyH.cons rfl (fun K1 hK1 => ?_) AllReadyH.nil)
      · have nc := ND.cell (i := 0) rfl
        go_simp
        refine hK1.out _ _ SW (fun SW => ?_)
        clear hK1 K1 nc
        go_simp
        refine wpAnyH_ready (rs := [5]) (by kernel_rfl) (by simp) ?_
        refine AllReadyH.cons rfl (fun K1 hK1 => ?_) AllReadyH.nil
        go_simp
        refine (HI.out _ (DS.out _ SW).2.1 (DS.out _ SW).2.2.1).mono ?_
        rintro r v4 ⟨rfl, hb⟩
        replace ND := ND.mono hb
        have SWb := SW.trans (Keeps.of_all hb)
        refine hK1.out _ _ SWb (fun SW => ?_)
        clear hK1 K1 hb SWb
        rename World => wq
        go_simp
        refine wpAnyH_take (i := 6) (v := .int .i64 (IntKind.i64.wrap (ck + cr))) rfl (by kernel_rfl) (by kernel_rfl) (by kernel_rfl) (fun _ _ _ h => h) (Or.inl ⟨by rfl, ?_⟩) SW ?_
        · intro W5 hW5
          go_simp <;> first | done | rfl | (rw [IntKind.wrap_i64]; omega) | omega
        go_simp
        have nc := ND.cell (i := 0) rfl
        have nf := ND.frozen 0
        have HNS : Hid (Vb (wq.setCell ⟨g + 2, 0, none⟩ (.int .i64 (IntKind.i64.wrap (ck + cr)))) (g + 2) 3 [.int .i64 (IntKind.i64.wrap (ck + cr))]) := hide (ND.set 0 _)
        have HKS : Hid (Keeps (fun j => j = g + 2) wq (wq.setCell ⟨g + 2, 0, none⟩ (.int .i64 (IntKind.i64.wrap (ck + cr))))) := hide (Keeps.set1 wq (g + 2) 0 _)
        refine wpAnyH_ready (rs := [7]) (by kernel_rfl) (by simp) ?_
        refine AllReadyH.cons rfl (fun K1 hK1 => ?_) AllReadyH.nil
        go_simp
        refine hK1.out _ _ (SW.trans HKS.out) (fun SW => ?_)
        clear hK1 K1 nc nf ND
        generalize wq.setCell ⟨g + 2, 0, none⟩ (.int .i64 (IntKind.i64.wrap (ck + cr))) = we at *
        go_simp
        refine wpAnyH_done (by kernel_rfl) ?_ _
        have HKE : Hid (Keeps (fun j => j = g + 2) W7 we) := hide SW
        clear SW
        gi_wp2
        exact ⟨HKE.out.mono (fun j _ e => by rw [e]; exact HOg.out), O, fun _ _ h => h, HO.out, HOg.out, by rw [HSN.out]; exact HNS.out⟩
      · go_simp
        refine (HI.out _ (DS.out _ SW).2.1 (DS.out _ SW).2.2.1).mono ?_
        rintro r v4 ⟨rfl, hb⟩
        replace ND := ND.mono hb
        have SWb := SW.trans (Keeps.of_all hb)
        refine hK1.out _ _ SWb (fun SW => ?_)
        clear hK1 K1 hb SWb
        rename World => wq
        go_simp
        refine wpAnyH_ready (rs := [0]) (by kernel_rfl) (by simp) ?_
        refine AllReadyH.cons rfl (fun K1 hK1 => ?_) AllReadyH.nil
        have nc := ND.cell (i := 0) rfl
        go_simp
        refine hK1.out _ _ SW (fun SW => ?_)
        clear hK1 K1 nc
        go_simp
        refine wpAnyH_take (i := 6) (v := .int .i64 (IntKind.i64.wrap (ck + cr))) rfl (by kernel_rfl) (by kernel_rfl) (by kernel_rfl) (fun _ _ _ h => h) (Or.inl ⟨by rfl, ?_⟩) SW ?_
        · intro W5 hW5
          go_simp <;> first | done | rfl | (rw [IntKind.wrap_i64]; omega) | omega
        go_simp
        have nc := ND.cell (i := 0) rfl
        have nf := ND.frozen 0
        have HNS : Hid (Vb (wq.setCell ⟨g + 2, 0, none⟩ (.int .i64 (IntKind.i64.wrap (ck + cr)))) (g + 2) 3 [.int .i64 (IntKind.i64.wrap (ck + cr))]) := hide (ND.set 0 _)
        have HKS : Hid (Keeps (fun j => j = g + 2) wq (wq.setCell ⟨g + 2, 0, none⟩ (.int .i64 (IntKind.i64.wrap (ck + cr))))) := hide (Keeps.set1 wq (g + 2) 0 _)
        refine wpAnyH_ready (rs := [7]) (by kernel_rfl) (by simp) ?_
        refine AllReadyH.cons rfl (fun K1 hK1 => ?_) AllReadyH.nil
        go_simp
        refine hK1.out _ _ (SW.trans HKS.out) (fun SW => ?_)
        clear hK1 K1 nc nf ND
        generalize wq.setCell ⟨g + 2, 0, none⟩ (.int .i64 (IntKind.i64.wrap (ck + cr))) = we at *
        go_simp
        refine wpAnyH_done (by kernel_rfl) ?_ _
        have HKE : Hid (Keeps (fun j => j = g + 2) W7 we) := hide SW
        clear SW
        gi_wp2
        exact ⟨HKE.out.mono (fun j _ e => by rw [e]; exact HOg.out), O, fun _ _ h => h, HO.out, HOg.out, by rw [HSN.out]; exact HNS.out⟩
  case done =>
    rintro D O W6 hD ⟨hO, hOg, hV6⟩ hk6 hm6 hKd
    have z5 := HS5.out
    have zg := HG.out
    have nD : ¬ O D := fun h => by have := hO _ h; omega
    have HM6 : Hid (Mks O w.heap.size W6 [{ target := .collected D, args := #[] }]) := hide ((Mks.nil O w.heap.size W6).push (n := w5.heap.size) (fun Ds hd E hE => by
      cases Ds with
      | nil => cases hE
      | cons _ _ => simp at hd) (by omega) (by omega) nD hKd)
    rw [HE.out] at hV6
    have c6 := hV6.cell (i := 0) rfl
    have HK6 := hide hk6
    clear hO hOg hV6 hk6 hm6 hKd z5 zg nD
    go_wp2
    refine leaves_mks HM6.out (fun w9 hk9 => ?_)
    have hka : Below w.heap.size w W6 := HB5.out.trans (HK6.out.below HB5.out.size (fun j hj e => by have := HG.out; omega))
    exact ⟨_, results_tmp rfl _ _ _, rfl, hka.trans (hk9.below hka.size (fun j hj e => by have := e.1; omega))⟩

theorem count_any (n : Nat) (hn : n ≤ 3) : ∀ p, MayP p → ∀ w, TabS w → TzT w → Calls Tryd.prog 43 #[.agg (ivs (stP p)).toArray, .int .i64 (n : Nat)] w fun r w' => r = .returned (.int .i64 (cnP n p)) ∧ Below w.heap.size w w' := by
  have h1 : ∀ p, MayP p → ∀ w, TabS w → TzT w → Calls Tryd.prog 43 #[.agg (ivs (stP p)).toArray, .int .i64 ((1 : Nat) : Int)] w fun r w' => r = .returned (.int .i64 (cnP 1 p)) ∧ Below w.heap.size w w' := fun p hM w hT hZ => count_one p hM w hT hZ
  have h2 : ∀ p, MayP p → ∀ w, TabS w → TzT w → Calls Tryd.prog 43 #[.agg (ivs (stP p)).toArray, .int .i64 ((2 : Nat) : Int)] w fun r w' => r = .returned (.int .i64 (cnP 2 p)) ∧ Below w.heap.size w w' := fun p hM w hT hZ => count_succ 1 (by omega) (by omega) h1 p hM w hT hZ
  intro p hM w hT hZ
  rcases (show n = 0 ∨ n = 1 ∨ n = 2 ∨ n = 3 by omega) with rfl | rfl | rfl | rfl
  · exact count_zero p w
  · exact h1 p hM w hT hZ
  · exact h2 p hM w hT hZ
  · exact count_succ 2 (by omega) (by omega) h2 p hM w hT hZ

end Go.Proofs.YtbhlafdfpoacjaaDoor
