/-
  Chess problems: what is lost in so many moves, said; Mated, lost, mates and canMate, walked. No conditions beyond those that each theorem bears.
-/
import Derived.Test.YtdmlamnonbmboaaDoorQ34
import Derived.Test.YtdmlamnonbmboaaDoorQ35
import Derived.Test.YtdmlamnonbmboaaDoorQ04
namespace Go.Proofs.YtdmlamnonbmboaaDoor
open Go.RowKit Go.Shelf

/-- Whether the mover's king is attacked. -/
def ckP (p : Ps) : Bool := decide (atk p.Z (kf p.Z p.t) (1 - p.t) ≠ [])
/-- Whether the mover is mated. -/
def mtP (p : Ps) : Bool := ckP p && (mvs p).isEmpty
/-- Whether the mover is mated, or is mated in so many moves at the most, whatever it does. -/
def lsP : Nat → Ps → Bool
  | 0, p => mtP p
  | n + 1, p => if (mvs p).isEmpty = true then mtP p else (mvs p).all fun m => (mvs (nxP p m)).any fun q => lsP n (nxP (nxP p m) q)
/-- Whether the mover can mate in so many moves of its own at the most: n + 1 of them. -/
def cmP (n : Nat) (p : Ps) : Bool := (mvs p).any fun m => lsP n (nxP p m)
theorem lsP_zero (p : Ps) : lsP 0 p = mtP p := by rw [lsP]
theorem lsP_succ (n : Nat) (p : Ps) : lsP (n + 1) p = if (mvs p).isEmpty = true then mtP p else (mvs p).all fun m => cmP n (nxP p m) := by rw [lsP]; rfl
/-- The moves that mate in so many at the most. -/
def msP (n : Nat) (p : Ps) : List (Nat × Nat × Nat) := (mvs p).filter fun m => lsP n (nxP p m)
theorem cmP_ms (n : Nat) (p : Ps) : cmP n p = !(msP n p).isEmpty := by
  unfold cmP msP
  rw [Bool.eq_iff_iff, List.any_eq_true]
  simp

attribute [local irreducible] mvs ckP
attribute [local go_sem] Oper.semAt_some wide_fn wide_fn0 wide_depth

set_option maxRecDepth 100000 in
set_option maxHeartbeats 1000000 in
theorem mated_any (b : Nat) (p : Ps) (hM : MayP p) (w : World) (hs : Sp w b p) (hT : TabS w) (hZ : TzT w) :
    Calls Tryd.prog 33 #[.pointer (some ⟨b, 0, none⟩)] w fun r w' => r = .returned (.bool (mtP p)) ∧ Below w.heap.size w w' := by
  have HIC : Hid (∀ W, Sp W b p → TabS W → Calls Tryd.prog 60 #[.pointer (some ⟨b, 0, none⟩)] W fun r w' => r = .returned (.bool (ckP p)) ∧ Below W.heap.size W w') := hide (fun W h1 h2 => by
    have := inCheckS_any b p.Z p.t (p.k : Nat) p.e (p.h : Nat) (p.f : Nat) hM.t1 (kf p.Z p.t) (kf_kg hM.st p.t).fst W h1 h2
    unfold ckP
    exact this)
  have HCA := hide (fun W (h1 : Sp W b p) h2 h3 => canMove_any b p hM W h1 h2 h3)
  have HR : Hid (mtP p = (ckP p && (mvs p).isEmpty)) := hide rfl
  have HS := hide hs
  have HT := hide hT
  have HZ := hide hZ
  obtain ⟨me, hme⟩ : ∃ me, (mvs p).isEmpty = me := ⟨_, rfl⟩
  obtain ⟨cb, hcb⟩ : ∃ cb, ckP p = cb := ⟨_, rfl⟩
  obtain ⟨rs, hrs⟩ : ∃ rs, mtP p = rs := ⟨_, rfl⟩
  rw [hme] at HCA HR
  rw [hcb] at HIC HR
  rw [hrs] at HR ⊢
  clear hme hcb hrs hs hT hZ hM
  go_enter Tryd.func33, Tryd.ntmps33
  go_wp2_with fail
  refine (HIC.out w HS.out HT.out).mono ?_
  rintro r w1 ⟨rfl, hb1⟩
  have HB1 := hide hb1
  clear hb1
  cases cb with
  | true =>
    go_wp2_with fail
    refine (HCA.out w1 (HS.out.mono HB1.out) (HT.out.mono HB1.out) (HZ.out.mono HB1.out)).mono ?_
    rintro r w2 ⟨rfl, hb2⟩
    have HB2 := hide (HB1.out.trans (hb2.mono HB1.out.size))
    clear hb2
    go_wp2_with fail
    go_ret
    exact ⟨by rw [HR.out]; simp, HB2.out⟩
  | false =>
    go_wp2_with fail
    go_ret
    exact ⟨by rw [HR.out]; rfl, HB1.out⟩


attribute [local irreducible] mtP lsP cmP nxP

theorem Sp.box (p : Ps) (hM : MayP p) (w : World) : Sp (w.alloc (.cells (ivs (stP p)).toArray 51)) w.heap.size p := ⟨hM.st.1, Vb.new w 51 _⟩

set_option maxRecDepth 100000 in
set_option maxHeartbeats 1000000 in
theorem lost_zero (p : Ps) (hM : MayP p) (w : World) (hT : TabS w) (hZ : TzT w) :
    Calls Tryd.prog 48 #[.agg (ivs (stP p)).toArray, .int .i64 0] w fun r w' => r = .returned (.bool (lsP 0 p)) ∧ Below w.heap.size w w' := by
  rw [lsP_zero]
  have HMT := hide (fun b W (h1 : Sp W b p) h2 h3 => mated_any b p hM W h1 h2 h3)
  obtain ⟨st, hst⟩ : ∃ st, (ivs (stP p)).toArray = st := ⟨_, rfl⟩
  obtain ⟨g, hg⟩ : ∃ g, w.heap.size = g := ⟨_, rfl⟩
  obtain ⟨w1, hw1⟩ : ∃ w1, ((w.alloc (.cells st 51)).alloc (.cells #[.int .i64 0] 3)).alloc (.cells #[.bool false] 4) = w1 := ⟨_, rfl⟩
  have B1 : Below w.heap.size w w1 := by rw [← hw1]; exact (((Below.refl _ _).alloc (Nat.le_refl _) _).alloc (by simp) _).alloc (by simp; omega) _
  have S1 : Sp w1 g p := by rw [← hw1, ← hg, ← hst]; exact ((Sp.box p hM w).mono ((Below.refl _ _).alloc (Nat.le_refl _) _)).mono ((Below.refl _ _).alloc (Nat.le_refl _) _)
  have N1 : Vb w1 (g + 1) 3 [.int .i64 0] := by
    rw [← hw1, ← hg]
    have := Vb.new (w.alloc (.cells st 51)) 3 [.int .i64 0]
    rw [World.size_alloc] at this
    exact Vb.mono (show Vb _ (w.heap.size + 1) 3 [.int .i64 0] from this) ((Below.refl _ _).alloc (Nat.le_refl _) _)
  have R1 : Vb w1 (g + 1 + 1) 4 [.bool false] := by
    rw [← hw1, ← hg]
    have := Vb.new ((w.alloc (.cells st 51)).alloc (.cells #[.int .i64 0] 3)) 4 [.bool false]
    rw [World.size_alloc, World.size_alloc] at this
    exact this
  have n1 := N1.cell (i := 0) rfl
  have HB1 := hide B1
  have HS1 := hide S1
  have HR1 := hide R1
  have HT1 := hide (hT.mono B1)
  have HZ1 := hide (hZ.mono B1)
  have HG := hide hg
  obtain ⟨rs, hrs⟩ : ∃ rs, mtP p = rs := ⟨_, rfl⟩
  rw [hrs] at HMT ⊢
  rw [hst]
  clear B1 S1 N1 R1 hT hZ hM hst hrs
  go_enter Tryd.func48, Tryd.ntmps48
  go_upto_region 1 with fail
  try rw [hg]
  clear hw1
  go_upto_region 2 with fail
  go_wp2_with fail
  refine (HMT.out g w1 HS1.out HT1.out HZ1.out).mono ?_
  rintro r w2 ⟨rfl, hb2⟩
  have R2 := HR1.out.mono hb2
  have r0 := R2.cell (i := 0) rfl
  have rf := R2.frozen 0
  have HR3 := hide (R2.set 0 (.bool rs))
  have HB3 : Hid (Below w.heap.size w (w2.setCell ⟨g + 1 + 1, 0, none⟩ (.bool rs))) := hide ((HB1.out.trans (hb2.mono HB1.out.size)).setCell (p := ⟨g + 1 + 1, 0, none⟩) (by show _ ≤ g + 1 + 1; have := HG.out; omega) _)
  clear hb2 R2
  go_wp2_with fail
  try simp only [Exit.inBlock, Exit.then]
  refine bodyPost_ret (results_b1 rfl _ _ (g + 1 + 1) rfl (HR3.out.cell (i := 0) rfl)) rfl ?_
  exact ⟨rfl, HB3.out⟩

set_option maxRecDepth 100000 in
set_option maxHeartbeats 1000000 in
theorem lost_none (n : Nat) (hn : n ≤ 9) (p : Ps) (hM : MayP p) (hne : (mvs p).isEmpty = true) (w : World) (hT : TabS w) (hZ : TzT w) :
    Calls Tryd.prog 48 #[.agg (ivs (stP p)).toArray, .int .i64 ((n + 1 : Nat) : Int)] w fun r w' => r = .returned (.bool (lsP (n + 1) p)) ∧ Below w.heap.size w w' := by
  rw [lsP_succ, if_pos hne]
  have HCA := hide (fun b W (h1 : Sp W b p) h2 h3 => canMove_any b p hM W h1 h2 h3)
  rw [hne] at HCA
  obtain ⟨nv, hnv⟩ : ∃ nv : Int, ((n + 1 : Nat) : Int) = nv := ⟨_, rfl⟩
  have e0 : (nv == 0) = false := by rw [← hnv, beq_eq_false_iff_ne]; omega
  rw [hnv]
  have HMT := hide (fun b W (h1 : Sp W b p) h2 h3 => mated_any b p hM W h1 h2 h3)
  obtain ⟨st, hst⟩ : ∃ st, (ivs (stP p)).toArray = st := ⟨_, rfl⟩
  obtain ⟨g, hg⟩ : ∃ g, w.heap.size = g := ⟨_, rfl⟩
  obtain ⟨w1, hw1⟩ : ∃ w1, ((w.alloc (.cells st 51)).alloc (.cells #[.int .i64 nv] 3)).alloc (.cells #[.bool false] 4) = w1 := ⟨_, rfl⟩
  have B1 : Below w.heap.size w w1 := by rw [← hw1]; exact (((Below.refl _ _).alloc (Nat.le_refl _) _).alloc (by simp) _).alloc (by simp; omega) _
  have S1 : Sp w1 g p := by rw [← hw1, ← hg, ← hst]; exact ((Sp.box p hM w).mono ((Below.refl _ _).alloc (Nat.le_refl _) _)).mono ((Below.refl _ _).alloc (Nat.le_refl _) _)
  have N1 : Vb w1 (g + 1) 3 [.int .i64 nv] := by
    rw [← hw1, ← hg]
    have := Vb.new (w.alloc (.cells st 51)) 3 [.int .i64 nv]
    rw [World.size_alloc] at this
    exact Vb.mono (show Vb _ (w.heap.size + 1) 3 [.int .i64 nv] from this) ((Below.refl _ _).alloc (Nat.le_refl _) _)
  have R1 : Vb w1 (g + 1 + 1) 4 [.bool false] := by
    rw [← hw1, ← hg]
    have := Vb.new ((w.alloc (.cells st 51)).alloc (.cells #[.int .i64 nv] 3)) 4 [.bool false]
    rw [World.size_alloc, World.size_alloc] at this
    exact this
  have n1 := N1.cell (i := 0) rfl
  have HB1 := hide B1
  have HS1 := hide S1
  have HR1 := hide R1
  have HT1 := hide (hT.mono B1)
  have HZ1 := hide (hZ.mono B1)
  have HG := hide hg
  obtain ⟨rs, hrs⟩ : ∃ rs, mtP p = rs := ⟨_, rfl⟩
  rw [hrs] at HMT ⊢
  rw [hst]
  clear B1 S1 N1 R1 hT hZ hM hst hrs hnv hne
  go_enter Tryd.func48, Tryd.ntmps48
  go_upto_region 1 with fail
  try rw [hg]
  clear hw1
  go_wp2_with fail
  refine (HCA.out g w1 HS1.out HT1.out HZ1.out).mono ?_
  rintro r wa ⟨rfl, hba⟩
  have HBA := hide hba
  clear hba n1
  go_wp2_with fail
  refine (HMT.out g wa (HS1.out.mono HBA.out) (HT1.out.mono HBA.out) (HZ1.out.mono HBA.out)).mono ?_
  rintro r w2 ⟨rfl, hb2'⟩
  have hb2 : Below w1.heap.size w1 w2 := HBA.out.trans (hb2'.mono HBA.out.size)
  clear hb2'
  have R2 := HR1.out.mono hb2
  have r0 := R2.cell (i := 0) rfl
  have rf := R2.frozen 0
  have HR3 := hide (R2.set 0 (.bool rs))
  have HB3 : Hid (Below w.heap.size w (w2.setCell ⟨g + 1 + 1, 0, none⟩ (.bool rs))) := hide ((HB1.out.trans (hb2.mono HB1.out.size)).setCell (p := ⟨g + 1 + 1, 0, none⟩) (by show _ ≤ g + 1 + 1; have := HG.out; omega) _)
  clear hb2 R2
  go_wp2_with fail
  try simp only [Exit.inBlock, Exit.then]
  refine bodyPost_ret (results_b1 rfl _ _ (g + 1 + 1) rfl (HR3.out.cell (i := 0) rfl)) rfl ?_
  exact ⟨rfl, HB3.out⟩

set_option maxRecDepth 100000 in
set_option maxHeartbeats 8000000 in
theorem lost_some (n : Nat) (hn : n ≤ 9) (hcm : ∀ p, MayP p → ∀ w, TabS w → TzT w → Calls Tryd.prog 76 #[.agg (ivs (stP p)).toArray, .int .i64 ((n + 1 : Nat) : Int)] w fun r w' => r = .returned (.bool (cmP n p)) ∧ Below w.heap.size w w')
    (p : Ps) (hM : MayP p) (hne : (mvs p).isEmpty = false) (w : World) (hT : TabS w) (hZ : TzT w) :
    Calls Tryd.prog 48 #[.agg (ivs (stP p)).toArray, .int .i64 ((n + 1 : Nat) : Int)] w fun r w' => r = .returned (.bool (lsP (n + 1) p)) ∧ Below w.heap.size w w' := by
  have HRS : Hid ((mvs p).all (fun m => cmP n (nxP p m)) = lsP (n + 1) p) := hide (by rw [lsP_succ, hne]; rfl)
  have HSQ := hide (fun sb b => movesP_seq sb b p hM)
  have HCA := hide (fun b W (h1 : Sp W b p) h2 h3 => canMove_any b p hM W h1 h2 h3)
  have HAF := hide (fun b m (hm : m ∈ mvs p) W (h : Sp W b p) => after_any b p hM m (mvs_ok hM hm).1 W h)
  have HNX := hide (fun m (hm : m ∈ mvs p) => may_nx hM hm)
  have HCM := hide hcm
  rw [hne] at HCA
  obtain ⟨st, hst⟩ : ∃ st, (ivs (stP p)).toArray = st := ⟨_, rfl⟩
  obtain ⟨nv, hnv⟩ : ∃ nv : Int, ((n + 1 : Nat) : Int) = nv := ⟨_, rfl⟩
  have e0 : (nv == 0) = false := by rw [← hnv, beq_eq_false_iff_ne]; omega
  obtain ⟨g, hg⟩ : ∃ g, w.heap.size = g := ⟨_, rfl⟩
  obtain ⟨w1, hw1⟩ : ∃ w1, ((w.alloc (.cells st 51)).alloc (.cells #[.int .i64 nv] 3)).alloc (.cells #[.bool false] 4) = w1 := ⟨_, rfl⟩
  have B1 : Below w.heap.size w w1 := by rw [← hw1]; exact (((Below.refl _ _).alloc (Nat.le_refl _) _).alloc (by simp) _).alloc (by simp; omega) _
  have S1 : Sp w1 g p := by rw [← hw1, ← hg, ← hst]; exact ((Sp.box p hM w).mono ((Below.refl _ _).alloc (Nat.le_refl _) _)).mono ((Below.refl _ _).alloc (Nat.le_refl _) _)
  have N1 : Vb w1 (g + 1) 3 [.int .i64 nv] := by
    rw [← hw1, ← hg]
    have := Vb.new (w.alloc (.cells st 51)) 3 [.int .i64 nv]
    rw [World.size_alloc] at this
    exact Vb.mono (show Vb _ (w.heap.size + 1) 3 [.int .i64 nv] from this) ((Below.refl _ _).alloc (Nat.le_refl _) _)
  have R1 : Vb w1 (g + 1 + 1) 4 [.bool false] := by
    rw [← hw1, ← hg]
    have := Vb.new ((w.alloc (.cells st 51)).alloc (.cells #[.int .i64 nv] 3)) 4 [.bool false]
    rw [World.size_alloc, World.size_alloc] at this
    exact this
  have s1 : w1.heap.size = g + 3 := by rw [← hw1, ← hg]; simp
  have n1 := N1.cell (i := 0) rfl
  have HB1 := hide B1
  have HS1 := hide S1
  have HN1 := hide N1
  have HR1 := hide R1
  have HT1 := hide (hT.mono B1)
  have HZ1 := hide (hZ.mono B1)
  have HG := hide hg
  have HBL : Hid (0 < g ∧ 2 < g) := hide (by have := hT.lt; have := hZ.lt; omega)
  have HS1' := hide s1
  obtain ⟨XS, hXS⟩ : ∃ XS, mvs p = XS := ⟨_, rfl⟩
  rw [hXS] at HSQ HRS HAF HNX
  obtain ⟨rs, hrs⟩ : ∃ rs, lsP (n + 1) p = rs := ⟨_, rfl⟩
  rw [hrs] at HRS ⊢
  rw [hst]
  rw [hnv] at HCM ⊢
  clear B1 S1 N1 R1 hT hZ hM hst hrs hXS hnv hcm hne s1
  refine (callsIn_wide (n := 3)).1 ?_
  refine callsIn_of_wp_marks Tryd.func48 rfl trivial ?_ rfl
  simp only [Tryd.ntmps48, List.size_toArray, List.length_cons, List.length_nil, Nat.reduceAdd, Nat.reduceSub, Array.replicate_succ, Array.replicate_zero, List.push_toArray, List.append_toArray, List.nil_append, List.cons_append]
  refine wpIn_wide.2 ?_
  go_upto_region 1 with fail
  try rw [hg]
  clear hw1
  go_wp2_with fail
  refine (HCA.out g w1 HS1.out HT1.out HZ1.out).mono ?_
  rintro r w2 ⟨rfl, hb2⟩
  have HB2 : Hid (Below w1.heap.size w1 w2) := hide hb2
  clear hb2 n1
  go_wp2_with fail
  refine (moves_any g _).mono ?_
  rintro r w5 ⟨rfl, hw5⟩
  have R5 := MlR.new (HS1.out.mono HB2.out) (HT1.out.mono HB2.out) (HZ1.out.mono HB2.out)
  rw [← hw5] at R5
  have hb5 : Below w2.heap.size w2 w5 := by rw [hw5]; exact (Below.refl _ _).alloc (Nat.le_refl _) _
  have s5 : w5.heap.size = w2.heap.size + 1 := by rw [hw5]; simp
  have HB5 : Hid (Below w1.heap.size w1 w5) := hide (HB2.out.trans (hb5.mono HB2.out.size))
  obtain ⟨sb, hsb⟩ : ∃ sb, w2.heap.size = sb := ⟨_, rfl⟩
  rw [hsb] at R5 s5
  have HZ5 : Hid (g + 3 ≤ sb ∧ w5.heap.size = sb + 1) := hide ⟨by have := HB2.out.size; have := HS1'.out; omega, s5⟩
  have HR5 := hide R5
  have HN5 := hide (HN1.out.mono HB5.out)
  have HV5 := hide (HR1.out.mono HB5.out)
  have HS5 := hide (HS1.out.mono HB5.out)
  try rw [hsb]
  clear hw5 R5 hb5 s5 hsb
  go_wp2_with fail
  refine (wpIn_wide (n := 1)).1 (wp_range_o (gf := 69) (lb := #[.pointer (some ⟨sb, 0, none⟩)]) (G := MvG) (xs := XS) (R := MlR sb g p.Z (p.t : Nat) (p.k : Nat) p.e (p.h : Nat) (p.f : Nat)) (T := MlT sb g) (by simp [Act.eval]) (enters_of Tryd.func69 (by kernel_rfl) rfl)
    (HSQ.out sb g) (fun j hj => HR5.out.lt j hj) (fun A hA => HR5.out.keeps (X := fun _ => False) (Keeps.of_all hA) (fun _ _ e => e)) (fun x args W' hG => by rw [hG]; rfl)
    (fun O s W' => s.all (fun m => cmP n (nxP p m)) = true ∧ (∀ j, O j → j = g + 1 + 1) ∧ O (g + 1 + 1) ∧ Vb W' (g + 1 + 1) 4 [.bool false]) (fun d O W' => d = .ret ∧ rs = false ∧ (∀ j, O j → j = g + 1 + 1) ∧ O (g + 1 + 1) ∧ Vb W' (g + 1 + 1) 4 [.bool false]) (fun j => j = g + 1 + 1) ?hC ⟨rfl, fun _ h => h, rfl, HV5.out⟩ ?round ?done ?stop)
  case hC =>
    have z2 := HZ5.out
    have zb := HBL.out
    have nT : ¬ MlT sb g (g + 1 + 1) := by
      rintro (h | h | h | h) <;> omega
    intro d
    refine ⟨?_, ?_, ?_, ?_⟩
    · rintro O s A ⟨_, h1, _, h3⟩ j hj
      obtain rfl := h1 j hj
      exact ⟨h3.lt, nT⟩
    · rintro O A ⟨_, _, h1, _, h3⟩ j hj
      obtain rfl := h1 j hj
      exact ⟨h3.lt, nT⟩
    · rintro O s A B ⟨h0, h1, h2, h3⟩ hkk
      exact ⟨h0, h1, h2, h3.keeps hkk (fun e => e.2 h2)⟩
    · rintro O A B ⟨h0, hx, h1, h2, h3⟩ hkk
      exact ⟨h0, hx, h1, h2, h3.keeps hkk (fun e => e.2 h2)⟩
  case round =>
    rintro l2 O s m args W6 hl2 _ ⟨hal, hO, hOg, hV6⟩ hOl hK6 hOm hpre hG hsz6
    obtain rfl : args = #[mvV m] := hG
    have hmm : m ∈ XS := hpre.subset (by simp)
    have HA := hide (fun W h => HAF.out g m hmm W h)
    have HMN := hide (HNX.out m hmm)
    have HI := hide (fun W h2 h3 => HCM.out (nxP p m) (HNX.out m hmm) W h2 h3)
    have HST : Hid (cmP n (nxP p m) = false → rs = false) := hide (fun h => by
      rw [← HRS.out, List.all_eq_false]
      exact ⟨m, hmm, by rw [h]; simp⟩)
    have HGO : Hid (cmP n (nxP p m) = true → (s ++ [m]).all (fun m => cmP n (nxP p m)) = true) := hide (fun h => by
      rw [List.all_append, hal]; simp [h])
    obtain ⟨cr, hcr⟩ : ∃ cr, cmP n (nxP p m) = cr := ⟨_, rfl⟩
    rw [hcr] at HI HST HGO
    have HO := hide hO
    have HOg := hide hOg
    have z5 := HZ5.out
    have zb := HBL.out
    have HL : Hid (sb + 2 = l2 ∧ l2 < W6.heap.size) := hide (by omega)
    have HR6 := hide (HR5.out.keeps hK6 (fun j hj e => by rcases hj with h | h | h | h <;> omega))
    have HN6 := hide (HN5.out.keeps hK6 (fun e => by omega))
    obtain ⟨gA, hgA⟩ : ∃ gA, W6.heap.size = gA := ⟨_, rfl⟩
    obtain ⟨WB, hWB⟩ : ∃ WB, W6.alloc (.cells #[.int .i64 0, .int .i64 0, .int .i64 0] 42) = WB := ⟨_, rfl⟩
    have VB : Vb WB gA 42 [.int .i64 0, .int .i64 0, .int .i64 0] := by rw [← hWB, ← hgA]; exact Vb.new W6 42 _
    have BB : Below W6.heap.size W6 WB := by rw [← hWB]; exact (Below.refl _ _).alloc (Nat.le_refl _) _
    have HV6 := hide (hV6.mono BB)
    have HBB := hide BB
    have HGA := hide hgA
    clear hcr hal hO hOg hV6 hOl hK6 hOm hpre hsz6 hl2 BB z5 zb hmm
    gi_wp2_with (refine wpListIn_store_vb rfl 42 (.tmp 5) (.tmp 14) rfl gA (mvC m) _ (by simp [Act.eval]) rfl VB rfl row26 (mvC_one m) ?_; intro WC VC KC)
    clear hWB VB
    have BC : Below W6.heap.size W6 WC := HBB.out.trans (KC.below HBB.out.size (fun j hj e => by have := HGA.out; omega))
    refine ⟨BC, ?_⟩
    intro W7 hk7
    have zl := HL.out
    have zg := HGA.out
    have zs := HZ5.out
    have zb := HBL.out
    have K67 : Keeps (fun j => j = l2) W6 W7 := (Keeps.of_all BC).trans hk7
    have K7 : Keeps (fun j => j = gA ∨ j = l2) WB W7 := (KC.mono (fun _ _ e => Or.inl e)).trans (hk7.mono (fun _ _ e => Or.inr e))
    have HV7 := hide (HV6.out.keeps K7 (fun e => by omega))
    have HM7 := hide (VC.keeps hk7 (fun e => by omega))
    have HR7 := hide (HR6.out.keeps K67 (fun j hj e => by rcases hj with h | h | h | h <;> omega))
    have HN7 := hide (HN6.out.keeps K67 (fun e => by omega))
    clear hk7 K7 K67 BC KC VC zl zg zs zb hgA HV6 HR6 HN6
    gi_wp2
    refine wp_region_round (S := fun W5 => Keeps (fun _ => False) W7 W5) (by kernel_rfl) (by kernel_rfl) (by rintro ⟨_, _, h⟩; exact h) ?_
    have SW : Keeps (fun _ => False) W7 W7.drew := (Keeps.refl _ W7).drew
    have DS : Hid (∀ W, Keeps (fun _ => False) W7 W → Sp W g p ∧ TabS W ∧ TzT W ∧ Vb W (g + 1) 3 [.int .i64 nv] ∧ Vb W gA 42 (mvC m)) := hide (fun W hk => ⟨HR7.out.z.keeps hk id, HR7.out.ts.keeps hk id, HR7.out.tz.keeps hk id, HN7.out.keeps hk id, HM7.out.keeps hk id⟩)
    generalize W7.drew = wd at *
    refine wpAnyH_take (i := 0) (v := .agg (mvC m).toArray) rfl (by kernel_rfl) (by kernel_rfl) (by kernel_rfl) (fun _ _ _ h => h) (Or.inl ⟨by rfl, ?_⟩) SW ?_
    · intro W5 hW5
      have y0 := (DS.out W5 hW5).2.2.2.2.cell (i := 0) rfl
      have y1 := (DS.out W5 hW5).2.2.2.2.cell (i := 1) rfl
      have y2 := (DS.out W5 hW5).2.2.2.2.cell (i := 2) rfl
      go_simp <;> first | done | rfl | (rw [IntKind.wrap_i64]; omega) | omega
    go_simp
    refine wpAnyH_take (i := 2) (v := .int .i64 nv) rfl (by kernel_rfl) (by kernel_rfl) (by kernel_rfl) (fun _ _ _ h => h) (Or.inl ⟨by rfl, ?_⟩) SW ?_
    · intro W5 hW5
      have y0 := (DS.out W5 hW5).2.2.2.1.cell (i := 0) rfl
      go_simp <;> first | done | rfl | (rw [IntKind.wrap_i64]; omega) | omega
    go_simp
    refine wpAnyH_ready (rs := [1]) (by kernel_rfl) (by simp) ?_
    refine AllReadyH.cons rfl (fun K1 hK1 => ?_) AllReadyH.nil
    go_simp
    refine (HA.out _ (DS.out _ SW).1).mono ?_
    rintro r v3 ⟨rfl, hb⟩
    have SWb := SW.trans (Keeps.of_all hb)
    refine hK1.out _ _ SWb (fun SW => ?_)
    clear hK1 K1 hb SWb
    go_simp
    refine wpAnyH_ready (rs := [3]) (by kernel_rfl) (by simp) ?_
    refine AllReadyH.cons rfl (fun K1 hK1 => ?_) AllReadyH.nil
    go_simp
    refine (HI.out _ (DS.out _ SW).2.1 (DS.out _ SW).2.2.1).mono ?_
    rintro r v4 ⟨rfl, hb⟩
    have SWb := SW.trans (Keeps.of_all hb)
    refine hK1.out _ _ SWb (fun SW => ?_)
    clear hK1 K1 hb SWb
    go_simp
    refine wpAnyH_take (i := 4) (v := .bool (!cr)) rfl (by kernel_rfl) (by kernel_rfl) (by kernel_rfl) (fun _ _ _ h => h) (Or.inl ⟨by rfl, ?_⟩) SW ?_
    · intro W5 hW5
      go_simp <;> first | done | rfl | omega
    go_simp
    refine wpAnyH_done (by kernel_rfl) ?_ _
    have HKE : Hid (Keeps (fun _ => False) W7 v4) := hide SW
    have V8 := HV7.out.keeps SW id
    have c8 := V8.cell (i := 0) rfl
    have f8 := V8.frozen 0
    have HV8 := hide V8
    clear SW V8
    cases cr with
    | true =>
      gi_wp2
      exact ⟨HKE.out.mono (fun j _ e => e.elim), O, fun _ _ h => h, fun a b c h => List.all_eq_true.1 (HGO.out trivial) _ h, HO.out, HOg.out, HV8.out⟩
    | false =>
      gi_wp2
      exact ⟨(HKE.out.mono (fun j _ e => e.elim)).trans ((Keeps.set1 _ _ _ _).mono (fun j _ e => by rw [e]; exact HOg.out)), O, fun _ _ h => h, rfl, HST.out trivial, HO.out, HOg.out, HV8.out.set 0 _⟩
  case done =>
    rintro D O W6 hD ⟨hal, hO, hOg, hV6⟩ hk6 hm6 hKd
    have z2 := HZ5.out
    have zg := HG.out
    have nD : ¬ O D := fun h => by have := hO _ h; omega
    have HM6 : Hid (Mks O w.heap.size (W6.setCell ⟨g + 1 + 1, 0, none⟩ (.bool true)) [{ target := .collected D, args := #[] }]) := hide ((Mks.nil O w.heap.size (W6.setCell ⟨g + 1 + 1, 0, none⟩ (.bool true))).push (n := w5.heap.size) (fun Ds hd E hE => by
      cases Ds with
      | nil => cases hE
      | cons _ _ => simp at hd) (by omega) (by omega) nD (((Keeps.set1 W6 (g + 1 + 1) 0 (.bool true)).block D (Array.getElem?_eq_some_iff.1 hKd).1 (fun e => by omega)).trans hKd))
    have HO := hide hO
    have HOg := hide hOg
    have c6 := hV6.cell (i := 0) rfl
    have f6 := hV6.frozen 0
    have HV7 := hide (hV6.set 0 (.bool true))
    have HNI : Hid (rs = true) := hide (by rw [← HRS.out]; exact hal)
    have HKx : Hid (Keeps (fun j => j = g + 1 + 1) w5 (W6.setCell ⟨g + 1 + 1, 0, none⟩ (.bool true))) := hide (hk6.trans (Keeps.set1 _ _ _ _))
    have HBw : Hid (Below w.heap.size w w5) := hide (HB1.out.trans (HB5.out.mono HB1.out.size))
    clear hal hO hOg hV6 hk6 hm6 hKd
    go_wp2
    refine leaves_mks (w := W6.setCell ⟨g + 1 + 1, 0, none⟩ (.bool true)) HM6.out (fun w9 hk9 => ?_)
    have hV9 := HV7.out.keeps hk9 (fun e => e.2 HOg.out)
    have hka : Below w.heap.size w (W6.setCell ⟨g + 1 + 1, 0, none⟩ (.bool true)) := HBw.out.trans (HKx.out.below HBw.out.size (fun j hj e => by have := HG.out; omega))
    have hkb : Below w.heap.size (W6.setCell ⟨g + 1 + 1, 0, none⟩ (.bool true)) w9 := hk9.below hka.size (fun j hj e => by have := e.1; omega)
    exact ⟨_, results_b1 rfl _ _ (g + 1 + 1) rfl (hV9.cell (i := 0) rfl), by rw [HNI.out], hka.trans hkb⟩
  case stop =>
    rintro d D O W6 hD ⟨rfl, hne, hO, hOg, hV6⟩ hk6 hm6 hKd
    have z2 := HZ5.out
    have zg := HG.out
    have nD : ¬ O D := fun h => by have := hO _ h; omega
    have HM6 : Hid (Mks O w.heap.size W6 [{ target := .collected D, args := #[] }]) := hide ((Mks.nil O w.heap.size W6).push (n := w5.heap.size) (fun Ds hd E hE => by
      cases Ds with
      | nil => cases hE
      | cons _ _ => simp at hd) (by omega) (by omega) nD (hKd))
    have HO := hide hO
    have HOg := hide hOg
    have HV7 := hide hV6
    have HNI : Hid (rs = false) := hide hne
    have HKx : Hid (Keeps (fun j => j = g + 1 + 1) w5 W6) := hide hk6
    have HBw : Hid (Below w.heap.size w w5) := hide (HB1.out.trans (HB5.out.mono HB1.out.size))
    clear hne hO hOg hV6 hk6 hm6 hKd
    refine wpIn_wide.2 ?_
    go_wp2
    refine leaves_mks HM6.out (fun w9 hk9 => ?_)
    have hV9 := HV7.out.keeps hk9 (fun e => e.2 HOg.out)
    have hka : Below w.heap.size w W6 := HBw.out.trans (HKx.out.below HBw.out.size (fun j hj e => by have := HG.out; omega))
    have hkb : Below w.heap.size W6 w9 := hk9.below hka.size (fun j hj e => by have := e.1; omega)
    exact ⟨_, results_b1 rfl _ _ (g + 1 + 1) rfl (hV9.cell (i := 0) rfl), by rw [HNI.out], hka.trans hkb⟩

/-- What mates has captured. -/
structure MsR (sb nb : Nat) (p : Ps) (n : Nat) (W : World) : Prop where
  p : Sp W sb p
  n : Vb W nb 3 [.int .i64 ((n + 1 : Nat) : Int)]
  ts : TabS W
  tz : TzT W
def MsT (sb nb : Nat) (k : Nat) : Prop := k = 0 ∨ k = 2 ∨ k = sb ∨ k = nb
theorem MsR.keeps {sb nb : Nat} {p : Ps} {n : Nat} {X : Nat → Prop} {W W' : World} (H : MsR sb nb p n W) (hk : Keeps X W W') (hX : ∀ j, MsT sb nb j → ¬ X j) : MsR sb nb p n W' :=
  ⟨H.p.keeps hk (hX sb (by unfold MsT; simp)), H.n.keeps hk (hX nb (by unfold MsT; simp)), H.ts.keeps hk (hX 0 (by unfold MsT; simp)), H.tz.keeps hk (hX 2 (by unfold MsT; simp))⟩
theorem MsR.lt {sb nb : Nat} {p : Ps} {n : Nat} {W : World} (H : MsR sb nb p n W) : ∀ j, MsT sb nb j → j < W.heap.size := by
  rintro j (rfl | rfl | rfl | rfl)
  · exact H.ts.lt
  · exact H.tz.lt
  · exact H.p.lt
  · exact H.n.lt

set_option maxRecDepth 100000 in
set_option maxHeartbeats 1000000 in
theorem mates_any (st : Array Value) (nv : Int) (w : World) : Calls Tryd.prog 20 #[.agg st, .int .i64 nv] w fun r w' => r = .returned (.func (.func 46) #[] #[.pointer (some ⟨w.heap.size, 0, none⟩), .pointer (some ⟨w.heap.size + 1, 0, none⟩)]) ∧ w' = (w.alloc (.cells st 51)).alloc (.cells #[.int .i64 nv] 3) := by
  go_enter Tryd.func20, Tryd.ntmps20
  go_wp2
  go_ret
  exact ⟨rfl, rfl⟩

theorem MsR.new {p : Ps} (hM : MayP p) (n : Nat) {w : World} (h1 : TabS w) (h2 : TzT w) :
    MsR w.heap.size (w.heap.size + 1) p n ((w.alloc (.cells (ivs (stP p)).toArray 51)).alloc (.cells #[.int .i64 ((n + 1 : Nat) : Int)] 3)) := by
  have B1 := (Below.refl w.heap.size w).alloc (Nat.le_refl _) (.cells (ivs (stP p)).toArray 51)
  have B2 : Below w.heap.size w ((w.alloc (.cells (ivs (stP p)).toArray 51)).alloc (.cells #[.int .i64 ((n + 1 : Nat) : Int)] 3)) := B1.alloc (by simp) _
  refine ⟨(Sp.box p hM w).mono ((Below.refl _ _).alloc (Nat.le_refl _) _), ?_, h1.mono B2, h2.mono B2⟩
  have := Vb.new (w.alloc (.cells (ivs (stP p)).toArray 51)) 3 [.int .i64 ((n + 1 : Nat) : Int)]
  rw [World.size_alloc] at this
  exact this

set_option maxRecDepth 100000 in
set_option maxHeartbeats 4000000 in
theorem canMate_any (n : Nat) (p : Ps) (hM : MayP p) (hsq : ∀ sb nb, SeqO Tryd.prog 46 #[.pointer (some ⟨sb, 0, none⟩), .pointer (some ⟨nb, 0, none⟩)] MvG (msP n p) (MsR sb nb p n) (MsT sb nb)) (w : World) (hT : TabS w) (hZ : TzT w) :
    Calls Tryd.prog 76 #[.agg (ivs (stP p)).toArray, .int .i64 ((n + 1 : Nat) : Int)] w fun r w' => r = .returned (.bool (cmP n p)) ∧ Below w.heap.size w w' := by
  rw [cmP_ms]
  have HSQ := hide hsq
  have HMN : Hid (∀ W, TabS W → TzT W → MsR W.heap.size (W.heap.size + 1) p n ((W.alloc (.cells (ivs (stP p)).toArray 51)).alloc (.cells #[.int .i64 ((n + 1 : Nat) : Int)] 3))) := hide (fun W h1 h2 => MsR.new hM n h1 h2)
  have HPL : Hid ((ivs (stP p)).length = 69) := hide (stL_len hM.st.1 _ _ _ _ _)
  obtain ⟨XS, hXS⟩ : ∃ XS, msP n p = XS := ⟨_, rfl⟩
  rw [hXS] at HSQ ⊢
  have SB := Sp.box p hM w
  obtain ⟨sl, hsl⟩ : ∃ sl, ivs (stP p) = sl := ⟨_, rfl⟩
  rw [hsl] at HMN HPL ⊢
  have SV : Vb (w.alloc (.cells sl.toArray 51)) w.heap.size 51 sl := Vb.new w 51 _
  obtain ⟨nv, hnv⟩ : ∃ nv : Int, ((n + 1 : Nat) : Int) = nv := ⟨_, rfl⟩
  rw [hnv] at HMN ⊢
  obtain ⟨w1, hw1⟩ : ∃ w1, (w.alloc (.cells sl.toArray 51)).alloc (.cells #[.bool false] 4) = w1 := ⟨_, rfl⟩
  obtain ⟨g, hg⟩ : ∃ g, w.heap.size + 1 = g := ⟨_, rfl⟩
  have B1 : Below w.heap.size w w1 := by rw [← hw1]; exact ((Below.refl _ _).alloc (Nat.le_refl _) _).alloc (by simp) _
  have S1 : Vb w1 w.heap.size 51 sl := by rw [← hw1]; exact SV.mono ((Below.refl _ _).alloc (Nat.le_refl _) _)
  have V1 : Vb w1 g 4 [.bool false] := by
    rw [← hw1, ← hg]
    have := Vb.new (w.alloc (.cells sl.toArray 51)) 4 [.bool false]
    rw [World.size_alloc] at this
    exact this
  have s1 : w1.heap.size = g + 1 := by rw [← hw1, ← hg]; simp
  have HBL : Hid (0 < w.heap.size ∧ 2 < w.heap.size) := hide (by have := hT.lt; have := hZ.lt; omega)
  have HR2 := hide (HMN.out w1 (hT.mono B1) (hZ.mono B1))
  obtain ⟨w2, hw2⟩ : ∃ w2, (w1.alloc (.cells sl.toArray 51)).alloc (.cells #[.int .i64 nv] 3) = w2 := ⟨_, rfl⟩
  rw [hw2, s1] at HR2
  have B2 : Below w1.heap.size w1 w2 := by rw [← hw2]; exact ((Below.refl _ _).alloc (Nat.le_refl _) _).alloc (by simp) _
  have HV2 := hide (V1.mono B2)
  have HZ2 : Hid (w2.heap.size = g + 3) := hide (by rw [← hw2]; simp [s1])
  have HB2 : Hid (Below w.heap.size w w2) := hide (B1.trans (B2.mono B1.size))
  have HGW : Hid (w.heap.size + 1 = g) := hide hg
  have HS1 := hide s1
  clear hT hZ hM hXS B1 V1 B2 SB SV HMN hsl hnv s1 hsq
  refine (callsIn_wide (n := 3)).1 ?_
  refine callsIn_of_wp_marks Tryd.func76 rfl trivial ?_ rfl
  simp only [Tryd.ntmps76, List.size_toArray, List.length_cons, List.length_nil, Nat.reduceAdd, Nat.reduceSub, Array.replicate_succ, Array.replicate_zero, List.push_toArray, List.append_toArray, List.nil_append, List.cons_append]
  refine wpIn_wide.2 ?_
  go_upto_region 1 with fail
  try rw [hg]
  clear hw1
  go_wp2_with (refine wpList_load_vb rfl 51 (.tmp 2) rfl w.heap.size rfl (by rw [HPL.out]; exact row53) S1 ?_)
  refine (mates_any _ _ _).mono ?_
  rintro r w5 ⟨rfl, hw5⟩
  rw [hw2] at hw5
  subst w5
  rw [HS1.out]
  clear hw2 S1
  go_wp2_with fail
  refine (wpIn_wide (n := 1)).1 (wp_range_o (gf := 46) (lb := #[.pointer (some ⟨g + 1, 0, none⟩), .pointer (some ⟨g + 1 + 1, 0, none⟩)]) (G := MvG) (xs := XS) (R := MsR (g + 1) (g + 1 + 1) p n) (T := MsT (g + 1) (g + 1 + 1)) (by simp [Act.eval]) (enters_of Tryd.func46 (by kernel_rfl) rfl)
    (HSQ.out (g + 1) (g + 1 + 1)) (fun j hj => HR2.out.lt j hj) (fun A hA => HR2.out.keeps (X := fun _ => False) (Keeps.of_all hA) (fun _ _ e => e)) (fun x args W' hG => by rw [hG]; rfl)
    (fun O s W' => s = [] ∧ (∀ j, O j → j = g) ∧ O g ∧ Vb W' g 4 [.bool false]) (fun d O W' => d = .ret ∧ XS.isEmpty = false ∧ (∀ j, O j → j = g) ∧ O g ∧ Vb W' g 4 [.bool true]) (fun j => j = g) ?hC ⟨rfl, fun _ h => h, rfl, HV2.out⟩ ?round ?done ?stop)
  case hC =>
    have z2 := HZ2.out
    have zb := HBL.out
    have zg := HGW.out
    have nT : ¬ MsT (g + 1) (g + 1 + 1) g := by
      rintro (h | h | h | h) <;> omega
    intro d
    refine ⟨?_, ?_, ?_, ?_⟩
    · rintro O s A ⟨_, h1, _, h3⟩ j hj
      obtain rfl := h1 j hj
      exact ⟨h3.lt, nT⟩
    · rintro O A ⟨_, _, h1, _, h3⟩ j hj
      obtain rfl := h1 j hj
      exact ⟨h3.lt, nT⟩
    · rintro O s A B ⟨h0, h1, h2, h3⟩ hkk
      exact ⟨h0, h1, h2, h3.keeps hkk (fun e => e.2 h2)⟩
    · rintro O A B ⟨h0, hx, h1, h2, h3⟩ hkk
      exact ⟨h0, hx, h1, h2, h3.keeps hkk (fun e => e.2 h2)⟩
  case round =>
    rintro l2 O s m args W6 hl2 _ ⟨rfl, hO, hOg, hV6⟩ hOl hK6 _ hpre hG hsz6
    obtain rfl : args = #[mvV m] := hG
    have HNE : Hid (XS.isEmpty = false) := hide (by
      obtain ⟨r, rfl⟩ := hpre
      rfl)
    have HO := hide hO
    have HOg := hide hOg
    have HL : Hid (g < l2) := hide (by have := HZ2.out; omega)
    have HV6 := hide hV6
    clear hO hOg hV6 hOl hK6 hpre hsz6 hl2
    gi_wp2
    refine ⟨Below.refl _ _, ?_⟩
    intro W7 hk7
    have V7 := HV6.out.keeps hk7 (fun e => by have := HL.out; omega)
    have c7 := V7.cell (i := 0) rfl
    have f7 := V7.frozen 0
    have HV7 := hide V7
    clear V7 HV6 hk7
    gi_wp2
    exact ⟨(Keeps.set1 _ _ _ _).mono (fun j _ e => by rw [e]; exact HOg.out), O, fun _ _ h => h, rfl, HNE.out, HO.out, HOg.out, HV7.out.set 0 _⟩
  case done =>
    rintro D O W6 hD ⟨hnil, hO, hOg, hV6⟩ hk6 hm6 hKd
    have z2 := HZ2.out
    have zg := HGW.out
    have nD : ¬ O D := fun h => by have := hO _ h; omega
    have HM6 : Hid (Mks O w.heap.size (W6.setCell ⟨g, 0, none⟩ (.bool false)) [{ target := .collected D, args := #[] }]) := hide ((Mks.nil O w.heap.size (W6.setCell ⟨g, 0, none⟩ (.bool false))).push (n := w2.heap.size) (fun Ds hd E hE => by
      cases Ds with
      | nil => cases hE
      | cons _ _ => simp at hd) (by omega) (by omega) nD (((Keeps.set1 W6 g 0 (.bool false)).block D (Array.getElem?_eq_some_iff.1 hKd).1 (fun e => by omega)).trans hKd))
    have HO := hide hO
    have HOg := hide hOg
    have c6 := hV6.cell (i := 0) rfl
    have f6 := hV6.frozen 0
    have HV7 := hide (hV6.set 0 (.bool false))
    have HNI : Hid ((!XS.isEmpty) = false) := hide (by rw [hnil]; rfl)
    have HKx : Hid (Keeps (fun j => j = g) w2 (W6.setCell ⟨g, 0, none⟩ (.bool false))) := hide (hk6.trans (Keeps.set1 _ _ _ _))
    clear hnil hO hOg hV6 hk6 hm6 hKd
    go_wp2
    refine leaves_mks (w := W6.setCell ⟨g, 0, none⟩ (.bool false)) HM6.out (fun w9 hk9 => ?_)
    have hV9 := HV7.out.keeps hk9 (fun e => e.2 HOg.out)
    have hka : Below w.heap.size w (W6.setCell ⟨g, 0, none⟩ (.bool false)) := HB2.out.trans (HKx.out.below HB2.out.size (fun j hj e => by have := HGW.out; omega))
    have hkb : Below w.heap.size (W6.setCell ⟨g, 0, none⟩ (.bool false)) w9 := hk9.below hka.size (fun j hj e => by have := e.1; omega)
    exact ⟨_, results_b1 rfl _ _ g rfl (hV9.cell (i := 0) rfl), by rw [HNI.out], hka.trans hkb⟩
  case stop =>
    rintro d D O W6 hD ⟨rfl, hne, hO, hOg, hV6⟩ hk6 hm6 hKd
    have z2 := HZ2.out
    have zg := HGW.out
    have nD : ¬ O D := fun h => by have := hO _ h; omega
    have HM6 : Hid (Mks O w.heap.size W6 [{ target := .collected D, args := #[] }]) := hide ((Mks.nil O w.heap.size W6).push (n := w2.heap.size) (fun Ds hd E hE => by
      cases Ds with
      | nil => cases hE
      | cons _ _ => simp at hd) (by omega) (by omega) nD (hKd))
    have HO := hide hO
    have HOg := hide hOg
    have HV7 := hide hV6
    have HNI : Hid ((!XS.isEmpty) = true) := hide (by rw [hne]; rfl)
    have HKx : Hid (Keeps (fun j => j = g) w2 W6) := hide hk6
    clear hne hO hOg hV6 hk6 hm6 hKd
    refine wpIn_wide.2 ?_
    go_wp2
    refine leaves_mks HM6.out (fun w9 hk9 => ?_)
    have hV9 := HV7.out.keeps hk9 (fun e => e.2 HOg.out)
    have hka : Below w.heap.size w (W6) := HB2.out.trans (HKx.out.below HB2.out.size (fun j hj e => by have := HGW.out; omega))
    have hkb : Below w.heap.size (W6) w9 := hk9.below hka.size (fun j hj e => by have := e.1; omega)
    exact ⟨_, results_b1 rfl _ _ g rfl (hV9.cell (i := 0) rfl), by rw [HNI.out], hka.trans hkb⟩

theorem msP_snoc_y {n : Nat} {p : Ps} {s : List (Nat × Nat × Nat)} {m : Nat × Nat × Nat} (h : lsP n (nxP p m) = true) : (s ++ [m]).filter (fun m => lsP n (nxP p m)) = s.filter (fun m => lsP n (nxP p m)) ++ [m] := by rw [List.filter_append, List.filter_cons, if_pos h, List.filter_nil]
theorem msP_snoc_n {n : Nat} {p : Ps} {s : List (Nat × Nat × Nat)} {m : Nat × Nat × Nat} (h : lsP n (nxP p m) = false) : (s ++ [m]).filter (fun m => lsP n (nxP p m)) = s.filter (fun m => lsP n (nxP p m)) := by rw [List.filter_append, List.filter_cons, if_neg (by rw [h]; decide), List.filter_nil, List.append_nil]
theorem msP_pre {n : Nat} {p : Ps} {s L : List (Nat × Nat × Nat)} (h : s <+: L) : s.filter (fun m => lsP n (nxP p m)) <+: L.filter (fun m => lsP n (nxP p m)) := by
  obtain ⟨r, rfl⟩ := h
  rw [List.filter_append]; exact List.prefix_append _ _

set_option maxRecDepth 100000 in
set_option maxHeartbeats 8000000 in
theorem mates1_seq (n : Nat) (hn : n ≤ 9) (p : Ps) (hM : MayP p) (hls : ∀ p, MayP p → ∀ w, TabS w → TzT w → Calls Tryd.prog 48 #[.agg (ivs (stP p)).toArray, .int .i64 ((n : Nat) : Int)] w fun r w' => r = .returned (.bool (lsP n p)) ∧ Below w.heap.size w w') (sb nb : Nat) :
    SeqO Tryd.prog 46 #[.pointer (some ⟨sb, 0, none⟩), .pointer (some ⟨nb, 0, none⟩)] MvG (msP n p) (MsR sb nb p n) (MsT sb nb) := by
  intro l J Jx N0 W O0 hR hN hC hY h0
  have HXS : Hid (msP n p = (mvs p).filter fun m => lsP n (nxP p m)) := hide rfl
  have HSQ := hide (fun mb => movesP_seq mb sb p hM)
  have HAF := hide (fun m (hm : m ∈ mvs p) W (h : Sp W sb p) => after_any sb p hM m (mvs_ok hM hm).1 W h)
  have HNX := hide (fun m (hm : m ∈ mvs p) => may_nx hM hm)
  have HLS := hide hls
  have em : IntKind.i64.wrap (((n + 1 : Nat) : Int) - 1) = ((n : Nat) : Int) := by rw [IntKind.wrap_i64]; omega
  obtain ⟨nv, hnv⟩ : ∃ nv : Int, ((n + 1 : Nat) : Int) = nv := ⟨_, rfl⟩
  rw [hnv] at em
  have HEM := hide em
  have HLT := hide hR.lt
  have HO0 : Hid (∀ j, O0 j → j < W.heap.size ∧ ¬ MsT sb nb j) := hide (hC.lt _ _ _ h0)
  have HC := hide hC
  have HY := hide hY
  obtain ⟨XS, hXS⟩ : ∃ XS, msP n p = XS := ⟨_, rfl⟩
  obtain ⟨YS, hYS⟩ : ∃ YS, mvs p = YS := ⟨_, rfl⟩
  rw [hXS] at HY HXS ⊢
  rw [hYS] at HXS HSQ HAF HNX
  obtain ⟨g0, hg0⟩ : ∃ g0, W.heap.size = g0 := ⟨_, rfl⟩
  obtain ⟨W1, hW1⟩ : ∃ W1, W.alloc (.cells #[.func (.yield l) #[] #[]] 76) = W1 := ⟨_, rfl⟩
  have B1 : Below g0 W W1 := by rw [← hW1, ← hg0]; exact (Below.refl _ _).alloc (Nat.le_refl _) _
  have s1 : W1.heap.size = g0 + 1 := by rw [← hW1, ← hg0]; simp
  have cy : W1.cell? ⟨g0, 0, none⟩ = some (.func (.yield l) #[] #[]) := by rw [← hW1, ← hg0]; exact new_cell W _ 76
  rw [hg0] at HLT HO0
  have HN : Hid (N0 ≤ g0) := hide (by rw [← hg0]; exact hN)
  have HG0 := hide hg0
  have R1 := hR.keeps (X := fun _ => False) (Keeps.of_all (by rw [hg0]; exact B1)) (fun _ _ e => e)
  obtain ⟨W2, hW2⟩ : ∃ W2, W1.alloc (.cells #[.pointer (some ⟨sb, 0, none⟩)] 89) = W2 := ⟨_, rfl⟩
  have B2 : Below W1.heap.size W1 W2 := by rw [← hW2]; exact (Below.refl _ _).alloc (Nat.le_refl _) _
  have M2 := MlR.new R1.p R1.ts R1.tz
  rw [hW2, s1] at M2
  have HM2 := hide M2
  have HR2 := hide (R1.keeps (X := fun _ => False) (Keeps.of_all B2) (fun _ _ e => e))
  have HCY2 := hide ((B2.cell (p := ⟨g0, 0, none⟩) (World.block_lt_of_cell? W1 _ cy)).trans cy)
  have HB2 : Hid (Below g0 W W2) := hide (B1.trans (B2.mono (by omega)))
  have HS2 : Hid (W2.heap.size = g0 + 2) := hide (by rw [← hW2]; simp [s1])
  have HJ2 : Hid (J O0 [] W2) := hide (hC.keep _ _ _ _ h0 (Keeps.of_all (by rw [hg0]; exact HB2.out)))
  have HRK : Hid (∀ W', Keeps O0 W2 W' → MsR sb nb p n W' ∧ W'.cell? ⟨g0, 0, none⟩ = some (.func (.yield l) #[] #[])) := hide (fun W' hk => ⟨HR2.out.keeps hk (fun k hk2 h => (HO0.out k h).2 hk2), hk.cell HCY2.out (fun h => by have := (HO0.out _ h).1; dsimp only at this; omega)⟩)
  have HS1 := hide s1
  clear hR hN hC hY h0 hXS hYS B1 B2 M2 R1 cy s1 hls hn em hM
  refine callsIn_of_wp_marks Tryd.func46 rfl trivial ?_ rfl
  simp only [Tryd.ntmps46, List.size_toArray, List.length_cons, List.length_nil, Nat.reduceAdd, Nat.reduceSub, Array.replicate_succ, Array.replicate_zero, List.push_toArray, List.append_toArray, List.nil_append, List.cons_append]
  refine wpIn_wide.2 ?_
  go_upto_region 1 with fail
  try rw [hg0]
  clear hW1
  go_wp2_with fail
  refine (moves_any sb _).mono ?_
  rintro r w5 ⟨rfl, hw5⟩
  rw [hW2] at hw5
  subst w5
  rw [HS1.out]
  clear hW2
  go_wp2_with fail
  refine (wpIn_wide (n := 1)).1 (wp_range_o (gf := 69) (lb := #[.pointer (some ⟨g0 + 1, 0, none⟩)]) (G := MvG) (xs := YS) (R := MlR (g0 + 1) sb p.Z (p.t : Nat) (p.k : Nat) p.e (p.h : Nat) (p.f : Nat)) (T := MlT (g0 + 1) sb) (by simp [Act.eval]) (enters_of Tryd.func69 (by kernel_rfl) rfl)
    (HSQ.out (g0 + 1)) (fun j hj => HM2.out.lt j hj) (fun A hA => HM2.out.keeps (X := fun _ => False) (Keeps.of_all hA) (fun _ _ e => e)) (fun x args W' hG => by rw [hG]; rfl)
    (fun O s W' => J O (s.filter fun m => lsP n (nxP p m)) W' ∧ (∀ j, j < W2.heap.size → O j → O0 j)) (fun d O W' => d = .ret ∧ Jx O W' ∧ (∀ j, j < W2.heap.size → O j → O0 j)) O0 ?hC ⟨HJ2.out, fun _ _ h => h⟩ ?round ?done ?stop)
  case hC =>
    have z1 := HS2.out
    have z5 := HN.out
    have nT : ∀ j, j < W2.heap.size → O0 j → ¬ MlT (g0 + 1) sb j := by
      intro j hj hq
      have h1 := HO0.out j hq
      rintro (rfl | rfl | rfl | rfl)
      · exact h1.2 (by unfold MsT; simp)
      · exact h1.2 (by unfold MsT; simp)
      · omega
      · exact h1.2 (by unfold MsT; simp)
    have zl := HM2.out.lt
    intro d
    refine ⟨?_, ?_, ?_, ?_⟩
    · rintro O s A ⟨h1, h2⟩ j hj
      exact ⟨(HC.out.lt _ _ _ h1 j hj).1, fun e => nT j (zl j e) (h2 j (zl j e) hj) e⟩
    · rintro O A ⟨_, h1, h2⟩ j hj
      exact ⟨(HC.out.ltx _ _ h1 j hj).1, fun e => nT j (zl j e) (h2 j (zl j e) hj) e⟩
    · rintro O s A B ⟨h1, h2⟩ hkk
      exact ⟨HC.out.keep _ _ _ _ h1 (hkk.mono (fun j _ e => ⟨by omega, e.2⟩)), h2⟩
    · rintro O A B ⟨h0, h1, h2⟩ hkk
      exact ⟨h0, HC.out.keepx _ _ _ h1 (hkk.mono (fun j _ e => ⟨by omega, e.2⟩)), h2⟩
  case round =>
    rintro l2 O s m args W6 hl2 _ ⟨hJ6, hO6⟩ hOl hK6 hOm hpre hG hsz6
    obtain rfl : args = #[mvV m] := hG
    have hmm : m ∈ YS := hpre.subset (by simp)
    obtain ⟨R6, cy6⟩ := HRK.out _ hK6
    have HA := hide (fun W h => HAF.out m hmm W h)
    have HI := hide (fun W h2 h3 => HLS.out (nxP p m) (HNX.out m hmm) W h2 h3)
    have HPRE : Hid ((s ++ [m]).filter (fun m => lsP n (nxP p m)) <+: XS) := hide (by rw [HXS.out]; exact msP_pre hpre)
    have HSY : Hid (lsP n (nxP p m) = true → (s ++ [m]).filter (fun m => lsP n (nxP p m)) = s.filter (fun m => lsP n (nxP p m)) ++ [m]) := hide (fun h => msP_snoc_y h)
    have HSN : Hid (lsP n (nxP p m) = false → (s ++ [m]).filter (fun m => lsP n (nxP p m)) = s.filter (fun m => lsP n (nxP p m))) := hide (fun h => msP_snoc_n h)
    obtain ⟨cr, hcr⟩ : ∃ cr, lsP n (nxP p m) = cr := ⟨_, rfl⟩
    rw [hcr] at HI HSY HSN
    obtain ⟨fs, hfs⟩ : ∃ fs, s.filter (fun m => lsP n (nxP p m)) = fs := ⟨_, rfl⟩
    rw [hfs] at HSY HSN hJ6
    obtain ⟨gA, hgA⟩ : ∃ gA, W6.heap.size = gA := ⟨_, rfl⟩
    obtain ⟨WB, hWB⟩ : ∃ WB, W6.alloc (.cells #[.int .i64 0, .int .i64 0, .int .i64 0] 42) = WB := ⟨_, rfl⟩
    have VB : Vb WB gA 42 [.int .i64 0, .int .i64 0, .int .i64 0] := by rw [← hWB, ← hgA]; exact Vb.new W6 42 _
    have BB : Below W6.heap.size W6 WB := by rw [← hWB]; exact (Below.refl _ _).alloc (Nat.le_refl _) _
    have HBB := hide BB
    have HGA := hide hgA
    have HJ6 := hide hJ6
    have HO7 := hide hO6
    have HOL2 := hide hOl
    have HR6 := hide R6
    have HCY6 := hide cy6
    have HSZ6 : Hid (W2.heap.size + 2 ≤ gA) := hide (by rw [← hgA]; exact hsz6)
    have HL2 := hide hl2
    clear hJ6 hO6 hOl hK6 hOm hpre hsz6 hl2 BB R6 cy6 hcr hfs
    gi_wp2_with (refine wpListIn_store_vb rfl 42 (.tmp 4) (.tmp 6) rfl gA (mvC m) _ (by simp [Act.eval]) rfl VB rfl row26 (mvC_one m) ?_; intro WC VC KC)
    clear hWB VB
    have BC : Below W6.heap.size W6 WC := HBB.out.trans (KC.below HBB.out.size (fun j hj e => by have := HGA.out; omega))
    refine ⟨BC, ?_⟩
    intro W7 hk7
    have z1 := HS2.out
    have z6 := HL2.out
    have z7 := HSZ6.out
    have z8 := HN.out
    have lts := HLT.out
    have K67 : Keeps (fun j => j = l2) W6 W7 := (Keeps.of_all BC).trans hk7
    have HJ7 := hide (HC.out.keep _ _ _ _ HJ6.out (K67.mono (fun j _ e => ⟨by omega, fun h => HOL2.out (e ▸ h)⟩)))
    have HR7 := hide (HR6.out.keeps K67 (fun j hj e => by have := lts j hj; omega))
    have HCY7 := hide (K67.cell HCY6.out (fun e => by dsimp only at e; omega))
    have HM7 := hide (VC.keeps hk7 (fun e => by omega))
    have HNO : Hid (∀ j, O j → ¬ MsT sb nb j ∧ j ≠ g0 ∧ j ≠ gA) := hide (by
      intro j hj
      refine ⟨fun e => (HO0.out j (HO7.out j (by have := lts j e; omega) hj)).2 e, ?_, ?_⟩
      · rintro rfl
        have := HO0.out _ (HO7.out _ (by omega) hj); omega
      · rintro rfl
        have := (HC.out.lt _ _ _ HJ6.out _ hj).1
        have := HGA.out
        omega)
    have HZ7 : Hid (gA ≤ W7.heap.size) := hide (by have := HM7.out.lt; omega)
    clear hk7 K67 BC KC VC z1 z6 z7 z8 lts hgA HJ6 HR6 HCY6
    have DS : Hid (∀ W, Keeps O W7 W → Sp W sb p ∧ TabS W ∧ TzT W ∧ Vb W nb 3 [.int .i64 nv] ∧ Vb W gA 42 (mvC m) ∧ W.cell? ⟨g0, 0, none⟩ = some (.func (.yield l) #[] #[])) := hide (fun W hk => by
      have R := HR7.out.keeps hk (fun j hj h => (HNO.out j h).1 hj)
      exact ⟨R.p, R.ts, R.tz, by rw [← hnv]; exact R.n, HM7.out.keeps hk (fun h => (HNO.out _ h).2.2 rfl), hk.cell HCY7.out (fun h => (HNO.out _ h).2.1 rfl)⟩)
    gi_wp2
    refine AnyR.region (S := fun W5 => Keeps O W7 W5) (by kernel_rfl) ?_
    have SW : Keeps O W7 W7.drew := (Keeps.refl _ W7).drew
    have BW : Below W7.heap.size W7 W7.drew := drewN_below _ _ 1
    generalize W7.drew = wd at *
    refine AnyR.take (by kernel_rfl) (i := 0) (v := .agg (mvC m).toArray) rfl (by kernel_rfl) (by kernel_rfl) (by kernel_rfl) (fun _ _ _ h => h) (Or.inl ⟨by rfl, ?_⟩) SW ?_
    · intro W5 hW5
      have y0 := (DS.out W5 hW5).2.2.2.2.1.cell (i := 0) rfl
      have y1 := (DS.out W5 hW5).2.2.2.2.1.cell (i := 1) rfl
      have y2 := (DS.out W5 hW5).2.2.2.2.1.cell (i := 2) rfl
      go_simp <;> first | done | rfl | (rw [IntKind.wrap_i64]; omega) | omega
    go_simp
    refine AnyR.take (by kernel_rfl) (i := 2) (v := .int .i64 nv) rfl (by kernel_rfl) (by kernel_rfl) (by kernel_rfl) (fun _ _ _ h => h) (Or.inl ⟨by rfl, ?_⟩) SW ?_
    · intro W5 hW5
      have y0 := (DS.out W5 hW5).2.2.2.1.cell (i := 0) rfl
      go_simp <;> first | done | rfl | (rw [IntKind.wrap_i64]; omega) | omega
    go_simp
    refine AnyR.take (by kernel_rfl) (i := 3) (v := .int .i64 ((n : Nat) : Int)) rfl (by kernel_rfl) (by kernel_rfl) (by kernel_rfl) (fun _ _ _ h => h) (Or.inl ⟨by rfl, ?_⟩) SW ?_
    · intro W5 hW5
      have y0 := HEM.out
      go_simp <;> first | done | rfl | (rw [IntKind.wrap_i64]; omega) | omega
    go_simp
    refine AnyR.one (i := 1) (by kernel_rfl) rfl (by rfl) ?_
    intro K1 hK1
    refine AnyR.plain (fun c e => by cases e) ?_
    go_simp
    refine (HA.out _ (DS.out _ SW).1).mono ?_
    rintro r v3 ⟨rfl, hb⟩
    have SWb := SW.trans (Keeps.of_all hb)
    have BWb : Below W7.heap.size W7 v3 := BW.trans (hb.mono BW.size)
    refine hK1.out _ _ SWb (fun SW => ?_)
    clear hK1 K1 hb SWb BW
    go_simp
    refine AnyR.one (i := 4) (by kernel_rfl) rfl (by rfl) ?_
    intro K1 hK1
    refine AnyR.plain (fun c e => by cases e) ?_
    go_simp
    refine (HI.out _ (DS.out _ SW).2.1 (DS.out _ SW).2.2.1).mono ?_
    rintro r v4 ⟨rfl, hb⟩
    have SWb := SW.trans (Keeps.of_all hb)
    have BW : Below W7.heap.size W7 v4 := BWb.trans (hb.mono BWb.size)
    refine hK1.out _ _ SWb (fun SW => ?_)
    clear hK1 K1 hb SWb BWb
    go_simp
    refine AnyR.take (by kernel_rfl) (i := 5) (v := .bool cr) rfl (by kernel_rfl) (by kernel_rfl) (by kernel_rfl) (fun _ _ _ h => h) (Or.inl ⟨by rfl, ?_⟩) SW ?_
    · intro W5 hW5
      go_simp <;> first | done | rfl | omega
    go_simp
    cases cr with
    | true =>
      refine AnyR.take (by kernel_rfl) (i := 6) (v := .func (.yield l) #[] #[]) rfl (by kernel_rfl) (by kernel_rfl) (by kernel_rfl) (fun _ _ _ h => h) (Or.inl ⟨by rfl, ?_⟩) SW ?_
      · intro W5 hW5
        have x0 := (DS.out W5 hW5).2.2.2.2.2
        go_simp <;> first | done | rfl | omega
      go_simp
      refine AnyR.take (by kernel_rfl) (i := 7) (v := .agg (mvC m).toArray) rfl (by kernel_rfl) (by kernel_rfl) (by kernel_rfl) (fun _ _ _ h => h) (Or.inl ⟨by rfl, ?_⟩) SW ?_
      · intro W5 hW5
        have y0 := (DS.out W5 hW5).2.2.2.2.1.cell (i := 0) rfl
        have y1 := (DS.out W5 hW5).2.2.2.2.1.cell (i := 1) rfl
        have y2 := (DS.out W5 hW5).2.2.2.2.1.cell (i := 2) rfl
        go_simp <;> first | done | rfl | (rw [IntKind.wrap_i64]; omega) | omega
      go_simp
      refine AnyR.one (i := 8) (by kernel_rfl) rfl (by rfl) ?_
      intro K1 hK1
      have HPF : Hid (fs ++ [m] <+: XS) := hide (by rw [← HSY.out rfl]; exact HPRE.out)
      refine AnyR.yields rfl rfl rfl (HY.out O fs m #[mvV m] v4 (HC.out.keep _ _ _ _ HJ7.out (Keeps.of_all BW)) HPF.out rfl (Nat.le_trans HN.out (by have := HZ7.out; have := HSZ6.out; have := HS2.out; have := BW.size; omega))) ?_
      rintro e w8 ⟨hk8, O', hO', h8⟩
      have S8 := SW.trans hk8
      have HK8 : Hid (Keeps O W7 w8) := hide S8
      have HM8 : Hid (∀ k, k < W7.heap.size → O' k → O k) := hide (fun k hk h => hO' k (Nat.lt_of_lt_of_le hk BW.size) h)
      have HO8 : Hid (∀ q, q < W2.heap.size → O' q → O0 q) := hide (fun q hq h => HO7.out q hq (HM8.out q (by have := HZ7.out; have := HSZ6.out; omega) h))
      clear hk8 hO' HPF
      rcases h8 with ⟨rfl, h8⟩ | ⟨rfl, h8⟩
      · refine ⟨_, rfl, hK1.out _ _ S8 (fun SW => ?_)⟩
        clear hK1 K1
        have H8 : Hid (J O' ((s ++ [m]).filter (fun m => lsP n (nxP p m))) w8) := hide (by rw [HSY.out rfl]; exact h8)
        clear h8 S8
        go_simp
        refine AnyR.take (by kernel_rfl) (i := 9) (v := .bool false) rfl (by kernel_rfl) (by kernel_rfl) (by kernel_rfl) (fun _ _ _ h => h) (Or.inl ⟨by rfl, ?_⟩) SW ?_
        · intro W5 hW5
          go_simp <;> first | done | rfl | omega
        go_simp
        refine AnyR.take (by kernel_rfl) (i := 10) (v := .bool false) rfl (by kernel_rfl) (by kernel_rfl) (by kernel_rfl) (fun _ _ _ h => h) (Or.inl ⟨by rfl, ?_⟩) SW ?_
        · intro W5 hW5
          go_simp <;> first | done | rfl | omega
        go_simp
        refine AnyR.done (by kernel_rfl) ?_ _
        clear SW
        gi_wp2
        exact ⟨HK8.out, O', HM8.out, H8.out, HO8.out⟩
      · refine ⟨_, rfl, hK1.out _ _ S8 (fun SW => ?_)⟩
        clear hK1 K1
        have H8 := hide h8
        clear h8 S8
        go_simp
        refine AnyR.take (by kernel_rfl) (i := 9) (v := .bool true) rfl (by kernel_rfl) (by kernel_rfl) (by kernel_rfl) (fun _ _ _ h => h) (Or.inl ⟨by rfl, ?_⟩) SW ?_
        · intro W5 hW5
          go_simp <;> first | done | rfl | omega
        go_simp
        refine AnyR.take (by kernel_rfl) (i := 10) (v := .bool true) rfl (by kernel_rfl) (by kernel_rfl) (by kernel_rfl) (fun _ _ _ h => h) (Or.inl ⟨by rfl, ?_⟩) SW ?_
        · intro W5 hW5
          go_simp <;> first | done | rfl | omega
        go_simp
        refine AnyR.done (by kernel_rfl) ?_ _
        clear SW
        gi_wp2
        exact ⟨HK8.out, O', HM8.out, rfl, H8.out, HO8.out⟩
    | false =>
      refine AnyR.take (by kernel_rfl) (i := 6) (v := undef) rfl (by kernel_rfl) (by kernel_rfl) (by kernel_rfl) (fun _ _ _ h => h) (Or.inr ⟨by rfl, rfl⟩) SW ?_
      go_simp
      refine AnyR.take (by kernel_rfl) (i := 7) (v := undef) rfl (by kernel_rfl) (by kernel_rfl) (by kernel_rfl) (fun _ _ _ h => h) (Or.inr ⟨by rfl, rfl⟩) SW ?_
      go_simp
      refine AnyR.take (by kernel_rfl) (i := 8) (v := undef) rfl (by kernel_rfl) (by kernel_rfl) (by kernel_rfl) (fun _ _ _ h => h) (Or.inr ⟨by rfl, rfl⟩) SW ?_
      go_simp
      refine AnyR.take (by kernel_rfl) (i := 9) (v := undef) rfl (by kernel_rfl) (by kernel_rfl) (by kernel_rfl) (fun _ _ _ h => h) (Or.inr ⟨by rfl, rfl⟩) SW ?_
      go_simp
      refine AnyR.take (by kernel_rfl) (i := 10) (v := .bool false) rfl (by kernel_rfl) (by kernel_rfl) (by kernel_rfl) (fun _ _ _ h => h) (Or.inl ⟨by rfl, ?_⟩) SW ?_
      · intro W5 hW5
        go_simp <;> first | done | rfl | omega
      go_simp
      refine AnyR.done (by kernel_rfl) ?_ _
      have HK8 : Hid (Keeps O W7 v4) := hide SW
      have H8 : Hid (J O ((s ++ [m]).filter (fun m => lsP n (nxP p m))) v4) := hide (by rw [HSN.out rfl]; exact HC.out.keep _ _ _ _ HJ7.out (Keeps.of_all BW))
      clear SW BW
      gi_wp2
      exact ⟨HK8.out, O, fun _ _ h => h, H8.out, HO7.out⟩
  case done =>
    rintro D O W6 hD ⟨hJ6, hO6⟩ hk6 hm6 hKd
    have z1 := HS2.out
    have nD : ¬ O D := fun h => by have := (HO0.out _ (hm6 _ (by omega) h)).1; omega
    have HM6 : Hid (Mks O g0 W6 [{ target := .collected D, args := #[] }]) := hide ((Mks.nil O g0 W6).push (n := W2.heap.size) (fun Ds hd E hE => by
      cases Ds with
      | nil => cases hE
      | cons _ _ => simp at hd) (by omega) (by omega) nD hKd)
    have HJ6 : Hid (J O XS W6) := hide (by rw [HXS.out]; exact hJ6)
    have HOO : Hid (∀ j, j < g0 → O j → O0 j) := hide (fun j hj h => hO6 j (by omega) h)
    have HK6 : Hid (Keeps O0 W W6) := hide ((Keeps.of_all (by rw [HG0.out]; exact HB2.out)).trans hk6)
    have z5 := HN.out
    clear hJ6 hO6 hk6 hm6 hKd z1 nD HJ2
    go_wp2
    refine leaves_mks HM6.out (fun w9 hk9 => ?_)
    refine ⟨_, results_none rfl _ _ _, ⟨_, rfl⟩, HK6.out.after hk9 (fun i hi e => by have := HG0.out; omega), O, (by rw [HG0.out]; exact HOO.out), .inl (HC.out.keep _ _ _ _ HJ6.out (hk9.mono (fun j _ e => ⟨by omega, e.2⟩)))⟩
  case stop =>
    rintro d D O W6 hD ⟨rfl, hJ6, hO6⟩ hk6 hm6 hKd
    have z1 := HS2.out
    have nD : ¬ O D := fun h => by have := (HO0.out _ (hm6 _ (by omega) h)).1; omega
    have HM6 : Hid (Mks O g0 W6 [{ target := .collected D, args := #[] }]) := hide ((Mks.nil O g0 W6).push (n := W2.heap.size) (fun Ds hd E hE => by
      cases Ds with
      | nil => cases hE
      | cons _ _ => simp at hd) (by omega) (by omega) nD hKd)
    have HJ6 := hide hJ6
    have HOO : Hid (∀ j, j < g0 → O j → O0 j) := hide (fun j hj h => hO6 j (by omega) h)
    have HK6 : Hid (Keeps O0 W W6) := hide ((Keeps.of_all (by rw [HG0.out]; exact HB2.out)).trans hk6)
    have z5 := HN.out
    clear hJ6 hO6 hk6 hm6 hKd z1 nD HJ2
    refine wpIn_wide.2 ?_
    go_wp2
    refine leaves_mks HM6.out (fun w9 hk9 => ?_)
    refine ⟨_, results_none rfl _ _ _, ⟨_, rfl⟩, HK6.out.after hk9 (fun i hi e => by have := HG0.out; omega), O, (by rw [HG0.out]; exact HOO.out), .inr (HC.out.keepx _ _ _ HJ6.out (hk9.mono (fun j _ e => ⟨by omega, e.2⟩)))⟩

theorem lost_any (n : Nat) (hn : n ≤ 9) : ∀ p, MayP p → ∀ w, TabS w → TzT w → Calls Tryd.prog 48 #[.agg (ivs (stP p)).toArray, .int .i64 ((n : Nat) : Int)] w fun r w' => r = .returned (.bool (lsP n p)) ∧ Below w.heap.size w w' := by
  induction n with
  | zero => exact fun p hM w hT hZ => lost_zero p hM w hT hZ
  | succ n ih =>
    have h := ih (by omega)
    intro p hM w hT hZ
    cases he : (mvs p).isEmpty with
    | true => exact lost_none n (by omega) p hM he w hT hZ
    | false => exact lost_some n (by omega) (fun q hq w' h1 h2 => canMate_any n q hq (fun sb nb => mates1_seq n (by omega) q hq h sb nb) w' h1 h2) p hM he w hT hZ
/-- The moves that mate, one by one. -/
theorem mates_seq (n : Nat) (hn : n ≤ 9) (p : Ps) (hM : MayP p) (sb nb : Nat) : SeqO Tryd.prog 46 #[.pointer (some ⟨sb, 0, none⟩), .pointer (some ⟨nb, 0, none⟩)] MvG (msP n p) (MsR sb nb p n) (MsT sb nb) :=
  mates1_seq n hn p hM (lost_any n hn) sb nb

end Go.Proofs.YtdmlamnonbmboaaDoor
