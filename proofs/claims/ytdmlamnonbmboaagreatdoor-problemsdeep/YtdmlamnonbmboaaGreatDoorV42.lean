/-
  Chess problems: whether a side is mated, said and walked. No conditions beyond those that each theorem bears.
  Chess problems: whether nobody can move, walked. No conditions beyond those that each theorem bears.
  Chess problems: the best value so many moves deep, and its first move. No conditions beyond those that each theorem bears.
  Chess problems: the best value and its first move, as the program finds them, walked. No conditions beyond those that each theorem bears.
-/
import Derived.Test.YtdmlamnonbmboaaGreatDoorV37
import Derived.Test.YtdmlamnonbmboaaGreatDoorV33
import Derived.Test.YtdmlamnonbmboaaGreatDoorV08
import Derived.Test.YtdmlamnonbmboaaGreatDoorV19
import Derived.Test.YtdmlamnonbmboaaGreatDoorV34
import Derived.Test.YtdmlamnonbmboaaGreatDoorV18
namespace Go.Proofs.YtdmlamnonbmboaaGreatDoor
open Go.RowKit Go.Shelf

/-- Whether the mover's king is attacked. -/
def ckP (p : Ps) : Bool := decide (atk p.Z (kf p.Z p.t) (1 - p.t) ≠ [])
/-- Whether the mover is mated. -/
def mtP (p : Ps) : Bool := ckP p && (mvs p).isEmpty
attribute [local irreducible] mvs ckP
attribute [local go_sem] Oper.semAt_some wide_fn wide_fn0 wide_depth

set_option maxRecDepth 100000 in
set_option maxHeartbeats 1000000 in
theorem mated_any (b : Nat) (p : Ps) (hM : MayP p) (w : World) (hs : Sp w b p) (hT : TabS w) (hZ : TzT w) :
    Calls Tryz.prog 24 #[.pointer (some ⟨b, 0, none⟩)] w fun r w' => r = .returned (.bool (mtP p)) ∧ Below w.heap.size w w' := by
  have HIC : Hid (∀ W, Sp W b p → TabS W → Calls Tryz.prog 56 #[.pointer (some ⟨b, 0, none⟩)] W fun r w' => r = .returned (.bool (ckP p)) ∧ Below W.heap.size W w') := hide (fun W h1 h2 => by
    have := inCheckS_any b p.Z p.t (p.k : Nat) p.e (p.h : Nat) (p.f : Nat) hM.t1 (kf p.Z p.t) (kf_kg hM.st p.t).fst W h1 h2
    unfold ckP
    exact this)
  have HCA := hide (fun W (h1 : Sp W b p) h2 h3 => canMove_any b p hM W h1 h2 h3)
  have HR : Hid (mtP p = (ckP p && (mvs p).isEmpty)) := hide rfl
  have HS := hide hs
  have HT := hide hT
  have HZ := hide hZ
  obtain ⟨me, hme⟩ : ∃ me, (mvs p).isEmpty = me := ⟨_, rfl⟩
  obtain ⟨cb, hcb⟩ : ∃ cb, ckP p = cb := ⟨_, rfl⟩
  obtain ⟨rs, hrs⟩ : ∃ rs, mtP p = rs := ⟨_, rfl⟩
  rw [hme] at HCA HR
  rw [hcb] at HIC HR
  rw [hrs] at HR ⊢
  clear hme hcb hrs hs hT hZ hM
  go_enter Tryz.func24, Tryz.ntmps24
  go_wp2_with fail
  refine (HIC.out w HS.out HT.out).mono ?_
  rintro r w1 ⟨rfl, hb1⟩
  have HB1 := hide hb1
  clear hb1
  cases cb with
  | true =>
    go_wp2_with fail
    refine (HCA.out w1 (HS.out.mono HB1.out) (HT.out.mono HB1.out) (HZ.out.mono HB1.out)).mono ?_
    rintro r w2 ⟨rfl, hb2⟩
    have HB2 := hide (HB1.out.trans (hb2.mono HB1.out.size))
    clear hb2
    go_wp2_with fail
    go_ret
    exact ⟨by rw [HR.out]; simp, HB2.out⟩
  | false =>
    go_wp2_with fail
    go_ret
    exact ⟨by rw [HR.out]; rfl, HB1.out⟩

theorem Sp.box (p : Ps) (hM : MayP p) (w : World) : Sp (w.alloc (.cells (ivs (stP p)).toArray 48)) w.heap.size p := ⟨hM.st.1, Vb.new w 48 _⟩

end Go.Proofs.YtdmlamnonbmboaaGreatDoor

namespace Go.Proofs.YtdmlamnonbmboaaGreatDoor
open Go.RowKit Go.Shelf

/-- There is no check, and no move. -/
def skP (p : Ps) : Bool := !(ckP p) && (mvs p).isEmpty

attribute [local irreducible] mvs ckP tl mS
attribute [local go_sem] Oper.semAt_some wide_fn wide_fn0 wide_depth

set_option maxRecDepth 100000 in
set_option maxHeartbeats 1000000 in
theorem stuck_any (b : Nat) (p : Ps) (hM : MayP p) (w : World) (hs : Sp w b p) (hT : TabS w) (hZ : TzT w) :
    Calls Tryz.prog 25 #[.pointer (some ⟨b, 0, none⟩)] w fun r w' => r = .returned (.bool (skP p)) ∧ Below w.heap.size w w' := by
  have HIC : Hid (∀ W, Sp W b p → TabS W → Calls Tryz.prog 56 #[.pointer (some ⟨b, 0, none⟩)] W fun r w' => r = .returned (.bool (ckP p)) ∧ Below W.heap.size W w') := hide (fun W h1 h2 => by
    have := inCheckS_any b p.Z p.t (p.k : Nat) p.e (p.h : Nat) (p.f : Nat) hM.t1 (kf p.Z p.t) (kf_kg hM.st p.t).fst W h1 h2
    unfold ckP
    exact this)
  have HCA := hide (fun W (h1 : Sp W b p) h2 h3 => canMove_any b p hM W h1 h2 h3)
  have HR : Hid (skP p = (!(ckP p) && (mvs p).isEmpty)) := hide rfl
  have HS := hide hs
  have HT := hide hT
  have HZ := hide hZ
  obtain ⟨me, hme⟩ : ∃ me, (mvs p).isEmpty = me := ⟨_, rfl⟩
  obtain ⟨cb, hcb⟩ : ∃ cb, ckP p = cb := ⟨_, rfl⟩
  obtain ⟨rs, hrs⟩ : ∃ rs, skP p = rs := ⟨_, rfl⟩
  rw [hme] at HCA HR
  rw [hcb] at HIC HR
  rw [hrs] at HR ⊢
  clear hme hcb hrs hs hT hZ hM
  go_enter Tryz.func25, Tryz.ntmps25
  go_wp2_with fail
  refine (HIC.out w HS.out HT.out).mono ?_
  rintro r w1 ⟨rfl, hb1⟩
  have HB1 := hide hb1
  clear hb1
  cases cb with
  | false =>
    go_wp2_with fail
    refine (HCA.out w1 (HS.out.mono HB1.out) (HT.out.mono HB1.out) (HZ.out.mono HB1.out)).mono ?_
    rintro r w2 ⟨rfl, hb2⟩
    have HB2 := hide (HB1.out.trans (hb2.mono HB1.out.size))
    clear hb2
    go_wp2_with fail
    go_ret
    exact ⟨by rw [HR.out]; simp, HB2.out⟩
  | true =>
    go_wp2_with fail
    go_ret
    exact ⟨by rw [HR.out]; rfl, HB1.out⟩

end Go.Proofs.YtdmlamnonbmboaaGreatDoor

namespace Go.Proofs.YtdmlamnonbmboaaGreatDoor

/-- One more move looked at. -/
def bStep (f : Nat × Nat × Nat → Int) (acc : Int × (Nat × Nat × Nat)) (m : Nat × Nat × Nat) : Int × (Nat × Nat × Nat) := if acc.1 < -(f m) then (-(f m), m) else acc
/-- The best that the mover can reach, with so many more moves ahead, looked for from a value 'lo' on; and its first move to it. -/
def bG (lo : Int) : Nat → Int → Ps → Int × (Nat × Nat × Nat)
  | 0, made, p => if mtP p = true then (made - 1000, (0, 0, 0)) else if skP p = true then (0, (0, 0, 0)) else (pci p.t (mS p.Z 64), (0, 0, 0))
  | l + 1, made, p => if mtP p = true then (made - 1000, (0, 0, 0)) else if skP p = true then (0, (0, 0, 0)) else (mvs p).foldl (bStep fun m => (bG lo l (made + 1) (nxP p m)).1) (lo, (0, 0, 0))
theorem bG_mt {lo : Int} {l : Nat} {made : Int} {p : Ps} (h : mtP p = true) : bG lo l made p = (made - 1000, (0, 0, 0)) := by
  cases l <;> rw [bG, if_pos h]
theorem bG_sk {lo : Int} {l : Nat} {made : Int} {p : Ps} (h : mtP p = false) (h2 : skP p = true) : bG lo l made p = (0, (0, 0, 0)) := by
  cases l <;> rw [bG, if_neg (by rw [h]; simp), if_pos h2]
theorem bG_end {lo : Int} {made : Int} {p : Ps} (h : mtP p = false) (h2 : skP p = false) : bG lo 0 made p = (pci p.t (mS p.Z 64), (0, 0, 0)) := by
  rw [bG, if_neg (by rw [h]; simp), if_neg (by rw [h2]; simp)]
theorem bG_on {lo : Int} {l : Nat} {made : Int} {p : Ps} (h : mtP p = false) (h2 : skP p = false) : bG lo (l + 1) made p = (mvs p).foldl (bStep fun m => (bG lo l (made + 1) (nxP p m)).1) (lo, (0, 0, 0)) := by
  rw [bG, if_neg (by rw [h]; simp), if_neg (by rw [h2]; simp)]
theorem mvs_ne {p : Ps} (h : mtP p = false) (h2 : skP p = false) : mvs p ≠ [] := by
  intro e
  unfold mtP at h
  unfold skP at h2
  rw [e] at h h2
  cases hc : ckP p <;> rw [hc] at h h2 <;> simp at h h2
theorem fold_bd {f : Nat × Nat × Nat → Int} : ∀ (L : List (Nat × Nat × Nat)) (acc : Int × (Nat × Nat × Nat)), (∀ m ∈ L, -1000 ≤ f m ∧ f m ≤ 1000) → -1000 ≤ acc.1 ∧ acc.1 ≤ 1000 → -1000 ≤ (L.foldl (bStep f) acc).1 ∧ (L.foldl (bStep f) acc).1 ≤ 1000
  | [], acc, _, h => h
  | m :: L, acc, hf, h => by
    rw [List.foldl_cons]
    refine fold_bd L _ (fun x hx => hf x (List.mem_cons_of_mem _ hx)) ?_
    have := hf m (by simp)
    unfold bStep
    split
    · constructor
      · show -1000 ≤ -(f m); omega
      · show -(f m) ≤ 1000; omega
    · exact h
theorem fold_first {f : Nat × Nat × Nat → Int} {lo : Int} (hlo : lo < -1000) {m : Nat × Nat × Nat} (hf : f m ≤ 1000) (L : List (Nat × Nat × Nat)) : (m :: L).foldl (bStep f) (lo, (0, 0, 0)) = L.foldl (bStep f) (-(f m), m) := by
  rw [List.foldl_cons]
  congr 1
  unfold bStep
  rw [if_pos (by show lo < -(f m); omega)]
theorem fold_congr {f g : Nat × Nat × Nat → Int} : ∀ (L : List (Nat × Nat × Nat)) (acc : Int × (Nat × Nat × Nat)), (∀ m ∈ L, f m = g m) → L.foldl (bStep f) acc = L.foldl (bStep g) acc
  | [], acc, _ => rfl
  | m :: L, acc, h => by
    rw [List.foldl_cons, List.foldl_cons]
    have : bStep f acc m = bStep g acc m := by unfold bStep; rw [h m (by simp)]
    rw [this]
    exact fold_congr L _ (fun x hx => h x (List.mem_cons_of_mem _ hx))
theorem pci_bd {b : Nat} {x : Int} (h1 : -1000 ≤ x) (h2 : x ≤ 1000) : -1000 ≤ pci b x ∧ pci b x ≤ 1000 := by
  unfold pci
  split <;> omega
theorem bG_bd {lo : Int} (hlo : lo < -1000) : ∀ (l : Nat) (made : Int) (p : Ps), MayP p → 0 ≤ made → made + l ≤ 1000 → -1000 ≤ (bG lo l made p).1 ∧ (bG lo l made p).1 ≤ 1000 := by
  intro l
  induction l with
  | zero =>
    intro made p hM h0 h1
    cases h : mtP p with
    | true => rw [bG_mt h]; dsimp only; omega
    | false =>
      cases h2 : skP p with
      | true => rw [bG_sk h h2]; dsimp only; omega
      | false =>
        rw [bG_end h h2]
        have := mS_bd hM.st.pz 64
        exact pci_bd (by omega) (by omega)
  | succ l ih =>
    intro made p hM h0 h1
    cases h : mtP p with
    | true => rw [bG_mt h]; dsimp only; omega
    | false =>
      cases h2 : skP p with
      | true => rw [bG_sk h h2]; dsimp only; omega
      | false =>
        rw [bG_on h h2]
        have hb : ∀ m ∈ mvs p, -1000 ≤ (bG lo l (made + 1) (nxP p m)).1 ∧ (bG lo l (made + 1) (nxP p m)).1 ≤ 1000 := fun m hm => ih (made + 1) (nxP p m) (may_nx hM hm) (by omega) (by omega)
        cases hL : mvs p with
        | nil => exact absurd hL (mvs_ne h h2)
        | cons m L =>
          rw [hL] at hb
          rw [fold_first hlo (hb m (by simp)).2]
          refine fold_bd L _ (fun x hx => hb x (List.mem_cons_of_mem _ hx)) ?_
          have := hb m (by simp)
          constructor
          · show -1000 ≤ -_; omega
          · show -_ ≤ 1000; omega
/-- From which value one looks does not matter. -/
theorem bG_eq {lo lo' : Int} (hlo : lo < -1000) (hlo' : lo' < -1000) : ∀ (l : Nat) (made : Int) (p : Ps), MayP p → 0 ≤ made → made + l ≤ 1000 → bG lo l made p = bG lo' l made p := by
  intro l
  induction l with
  | zero =>
    intro made p _ _ _
    rw [bG, bG]
  | succ l ih =>
    intro made p hM h0 h1
    cases h : mtP p with
    | true => rw [bG_mt h, bG_mt h]
    | false =>
      cases h2 : skP p with
      | true => rw [bG_sk h h2, bG_sk h h2]
      | false =>
        rw [bG_on h h2, bG_on h h2]
        have he : ∀ m ∈ mvs p, (bG lo l (made + 1) (nxP p m)).1 = (bG lo' l (made + 1) (nxP p m)).1 := fun m hm => by rw [ih (made + 1) (nxP p m) (may_nx hM hm) (by omega) (by omega)]
        have hb : ∀ m ∈ mvs p, (bG lo' l (made + 1) (nxP p m)).1 ≤ 1000 := fun m hm => (bG_bd hlo' l (made + 1) (nxP p m) (may_nx hM hm) (by omega) (by omega)).2
        rw [fold_congr _ _ he]
        cases hL : mvs p with
        | nil => exact absurd hL (mvs_ne h h2)
        | cons m L =>
          rw [hL] at hb
          rw [fold_first hlo (hb m (by simp)), fold_first hlo' (hb m (by simp))]

end Go.Proofs.YtdmlamnonbmboaaGreatDoor

namespace Go.Proofs.YtdmlamnonbmboaaGreatDoor
open Go.RowKit Go.Shelf

theorem results_tr {fn : Func} {t u : Tmp} {ty : TypeId} (h : fn.results = #[.tmp t, .cell u ty]) (tmps : Array Value) (w : World) (b : Nat) (hb : tmps.getD u undef = .pointer (some ⟨b, 0, none⟩)) {v y : Value} (hu : tmps.getD t undef = y)
    (hr : (loadVar ty ⟨b, 0, none⟩).run Tryz.prog w = .ok v w) :
    (results fn tmps).run Tryz.prog w = .ok (.tuple #[y, v]) w := by
  have hb' : tmps[u]?.getD undef = .pointer (some ⟨b, 0, none⟩) := by simpa using hb
  have hu' : tmps[t]?.getD undef = y := by simpa using hu
  simp [results, h, hb', hu', asAddr, hr]
theorem size42 : (Tryz.prog.info? 32).map (·.size) = some 3 := by kernel_rfl
theorem load_mv {w : World} {b : Nat} {m : Nat × Nat × Nat} (h : Vb w b 32 (mvC m)) : (loadVar 32 ⟨b, 0, none⟩).run Tryz.prog w = .ok (.agg (mvC m).toArray) w :=
  run_loadVar_row _ _ 32 32 _ (0, 0) _ h Tryz.underlying32 rfl size42

theorem wp_store_mv {o : Oper} {a : Act} {w : World} {K : Act → World → Prop} {Q : Exit → Act → World → Prop} (x y : Operand) (ho : o.op = .store 32 x y)
    (b : Nat) {m m' : Nat × Nat × Nat} (hx : a.eval x = .pointer (some ⟨b, 0, none⟩)) (hy : a.eval y = .agg (mvC m).toArray) (hb : Vb w b 32 (mvC m'))
    (hK : ∀ w', Vb w' b 32 (mvC m) → Keeps (fun k => k = b) w w' → K (a.put o.dst undef) w') : o.wp Tryz.prog a w K Q := by
  have hb' : w.heap[b]? = _ := hb
  refine wp_store_row 32 x y ho b (mvC m).toArray hx hy 32 _ hb' size42 rfl (by simp [Value.oneCell']) ?_
  refine hK _ ?_ ?_
  · simp [Vb, World.setRow, Array.getElem?_modify, hb']
  · exact ⟨rfl, rfl, rfl, by simp [World.setRow], fun k _ hk => by simp [World.setRow, Array.getElem?_modify, show ¬ b = k from fun e => hk e.symm]⟩

attribute [local irreducible] mvs nxP mtP skP ckP mS pci bG
attribute [local go_sem] Oper.semAt_some wide_fn wide_fn0 wide_depth

set_option maxRecDepth 100000 in
set_option maxHeartbeats 4000000 in
theorem best_over (p : Ps) (hM : MayP p) (made : Int) (hm0 : 0 ≤ made) (hm1 : made ≤ 900) (lv : Int) (w : World) (hT : TabS w) (hZ : TzT w) (ho : mtP p = true ∨ skP p = true) :
    Calls Tryz.prog 19 #[.agg (ivs (stP p)).toArray, .int .i64 made, .int .i64 lv] w fun r w' => r = .returned (.tuple #[.int .i64 (if mtP p = true then made - 1000 else 0), .agg (mvC (0, 0, 0)).toArray]) ∧ Below w.heap.size w w' := by
  obtain ⟨g, hg⟩ : ∃ g, w.heap.size = g := ⟨_, rfl⟩
  obtain ⟨w1, hw1⟩ : ∃ w1, (((w.alloc (.cells (ivs (stP p)).toArray 48)).alloc (.cells #[.int .i64 made] 3)).alloc (.cells #[.int .i64 lv] 3)).alloc (.cells #[.int .i64 0, .int .i64 0, .int .i64 0] 32) = w1 := ⟨_, rfl⟩
  have B1 : Below w.heap.size w w1 := by rw [← hw1]; exact ((((Below.refl _ _).alloc (Nat.le_refl _) _).alloc (by simp) _).alloc (by simp; omega) _).alloc (by simp; omega) _
  have s1 : w1.heap.size = g + 4 := by rw [← hw1, ← hg]; simp
  have S1 : Sp w1 g p := by
    rw [← hw1, ← hg]
    exact (((Sp.box p hM w).mono ((Below.refl _ _).alloc (Nat.le_refl _) _)).mono ((Below.refl _ _).alloc (Nat.le_refl _) _)).mono ((Below.refl _ _).alloc (Nat.le_refl _) _)
  have N1 : Vb w1 (g + 1) 3 [.int .i64 made] := by
    rw [← hw1, ← hg]
    have h := Vb.new (w.alloc (.cells (ivs (stP p)).toArray 48)) 3 [.int .i64 made]
    rw [World.size_alloc] at h
    exact Vb.mono (Vb.mono (show Vb _ (w.heap.size + 1) 3 [.int .i64 made] from h) ((Below.refl _ _).alloc (Nat.le_refl _) _)) ((Below.refl _ _).alloc (Nat.le_refl _) _)
  have L1 : Vb w1 (g + 2) 3 [.int .i64 lv] := by
    rw [← hw1, ← hg]
    have h := Vb.new ((w.alloc (.cells (ivs (stP p)).toArray 48)).alloc (.cells #[.int .i64 made] 3)) 3 [.int .i64 lv]
    rw [World.size_alloc, World.size_alloc] at h
    exact Vb.mono (show Vb _ (w.heap.size + 2) 3 [.int .i64 lv] from h) ((Below.refl _ _).alloc (Nat.le_refl _) _)
  have M1 : Vb w1 (g + 3) 32 (mvC (0, 0, 0)) := by
    rw [← hw1, ← hg]
    have h := Vb.new (((w.alloc (.cells (ivs (stP p)).toArray 48)).alloc (.cells #[.int .i64 made] 3)).alloc (.cells #[.int .i64 lv] 3)) 32 [.int .i64 0, .int .i64 0, .int .i64 0]
    rw [World.size_alloc, World.size_alloc, World.size_alloc] at h
    exact h
  have HB1 := hide B1
  have HS1 := hide S1
  have HN1 := hide N1
  have HL1 := hide L1
  have HM1 := hide M1
  have HT1 := hide (hT.mono B1)
  have HZ1 := hide (hZ.mono B1)
  have HG := hide hg
  have HSZ := hide s1
  have HMT := hide (fun b W (h1 : Sp W b p) h2 h3 => mated_any b p hM W h1 h2 h3)
  have HSK := hide (fun b W (h1 : Sp W b p) h2 h3 => stuck_any b p hM W h1 h2 h3)
  obtain ⟨mt, hmt⟩ : ∃ mt, mtP p = mt := ⟨_, rfl⟩
  obtain ⟨sk, hsk⟩ : ∃ sk, skP p = sk := ⟨_, rfl⟩
  rw [hmt] at HMT ho ⊢
  rw [hsk] at HSK ho
  clear B1 s1 S1 N1 L1 M1 hT hZ hM hmt hsk
  go_enter Tryz.func19, Tryz.ntmps19
  go_upto_region 1 with fail
  try rw [hg]
  clear hw1 hg
  go_wp2_with fail
  refine (HMT.out g w1 HS1.out HT1.out HZ1.out).mono ?_
  rintro r w2 ⟨rfl, hb2⟩
  have HB2 := hide hb2
  clear hb2
  cases mt with
  | true =>
    have n2 := (HN1.out.mono HB2.out).cell (i := 0) rfl
    have V2 := HM1.out.mono HB2.out
    go_wp2_with (refine wpList_store_vb rfl 32 (.tmp 7) (.tmp 17) rfl (g + 3) (mvC (0, 0, 0)) _ (by simp [Act.eval]) rfl V2 rfl row26 (mvC_one _) ?_; intro w3 V3 K3)
    have b2 : Below w.heap.size w w2 := HB1.out.trans (HB2.out.mono HB1.out.size)
    have HBW := hide (b2.trans (K3.below b2.size (fun j hj e => by have := HG.out; omega)))
    clear b2 K3 V2
    try simp only [Exit.inBlock, Exit.then]
    refine bodyPost_ret (results_tr rfl _ _ (g + 3) rfl rfl (load_mv V3)) rfl ?_
    exact ⟨rfl, HBW.out⟩
  | false =>
    obtain rfl : sk = true := by simpa using ho
    go_wp2_with fail
    refine (HSK.out g w2 (HS1.out.mono HB2.out) (HT1.out.mono HB2.out) (HZ1.out.mono HB2.out)).mono ?_
    rintro r w3 ⟨rfl, hb3⟩
    have HB3 : Hid (Below w1.heap.size w1 w3) := hide (HB2.out.trans (hb3.mono HB2.out.size))
    clear hb3
    have V2 := HM1.out.mono HB3.out
    go_wp2_with (refine wpList_store_vb rfl 32 (.tmp 7) (.tmp 20) rfl (g + 3) (mvC (0, 0, 0)) _ (by simp [Act.eval]) rfl V2 rfl row26 (mvC_one _) ?_; intro w4 V4 K4)
    have b2 : Below w.heap.size w w3 := HB1.out.trans (HB3.out.mono HB1.out.size)
    have HBW := hide (b2.trans (K4.below b2.size (fun j hj e => by have := HG.out; omega)))
    clear b2 K4 V2
    try simp only [Exit.inBlock, Exit.then]
    refine bodyPost_ret (results_tr rfl _ _ (g + 3) rfl rfl (load_mv V4)) rfl ?_
    exact ⟨rfl, HBW.out⟩

set_option maxRecDepth 100000 in
set_option maxHeartbeats 4000000 in
theorem best_end (p : Ps) (hM : MayP p) (made : Int) (w : World) (hT : TabS w) (hZ : TzT w) (hW : TabW w) (hm : mtP p = false) (hs : skP p = false) :
    Calls Tryz.prog 19 #[.agg (ivs (stP p)).toArray, .int .i64 made, .int .i64 0] w fun r w' => r = .returned (.tuple #[.int .i64 (pci p.t (mS p.Z 64)), .agg (mvC (0, 0, 0)).toArray]) ∧ Below w.heap.size w w' := by
  obtain ⟨g, hg⟩ : ∃ g, w.heap.size = g := ⟨_, rfl⟩
  obtain ⟨w1, hw1⟩ : ∃ w1, (((w.alloc (.cells (ivs (stP p)).toArray 48)).alloc (.cells #[.int .i64 made] 3)).alloc (.cells #[.int .i64 0] 3)).alloc (.cells #[.int .i64 0, .int .i64 0, .int .i64 0] 32) = w1 := ⟨_, rfl⟩
  have B1 : Below w.heap.size w w1 := by rw [← hw1]; exact ((((Below.refl _ _).alloc (Nat.le_refl _) _).alloc (by simp) _).alloc (by simp; omega) _).alloc (by simp; omega) _
  have s1 : w1.heap.size = g + 4 := by rw [← hw1, ← hg]; simp
  have S1 : Sp w1 g p := by
    rw [← hw1, ← hg]
    exact (((Sp.box p hM w).mono ((Below.refl _ _).alloc (Nat.le_refl _) _)).mono ((Below.refl _ _).alloc (Nat.le_refl _) _)).mono ((Below.refl _ _).alloc (Nat.le_refl _) _)
  have N1 : Vb w1 (g + 1) 3 [.int .i64 made] := by
    rw [← hw1, ← hg]
    have h := Vb.new (w.alloc (.cells (ivs (stP p)).toArray 48)) 3 [.int .i64 made]
    rw [World.size_alloc] at h
    exact Vb.mono (Vb.mono (show Vb _ (w.heap.size + 1) 3 [.int .i64 made] from h) ((Below.refl _ _).alloc (Nat.le_refl _) _)) ((Below.refl _ _).alloc (Nat.le_refl _) _)
  have L1 : Vb w1 (g + 2) 3 [.int .i64 0] := by
    rw [← hw1, ← hg]
    have h := Vb.new ((w.alloc (.cells (ivs (stP p)).toArray 48)).alloc (.cells #[.int .i64 made] 3)) 3 [.int .i64 0]
    rw [World.size_alloc, World.size_alloc] at h
    exact Vb.mono (show Vb _ (w.heap.size + 2) 3 [.int .i64 0] from h) ((Below.refl _ _).alloc (Nat.le_refl _) _)
  have M1 : Vb w1 (g + 3) 32 (mvC (0, 0, 0)) := by
    rw [← hw1, ← hg]
    have h := Vb.new (((w.alloc (.cells (ivs (stP p)).toArray 48)).alloc (.cells #[.int .i64 made] 3)).alloc (.cells #[.int .i64 0] 3)) 32 [.int .i64 0, .int .i64 0, .int .i64 0]
    rw [World.size_alloc, World.size_alloc, World.size_alloc] at h
    exact h
  have HB1 := hide B1
  have HS1 := hide S1
  have HN1 := hide N1
  have HL1 := hide L1
  have HM1 := hide M1
  have HT1 := hide (hT.mono B1)
  have HZ1 := hide (hZ.mono B1)
  have HG := hide hg
  have HSZ := hide s1
  have HMT := hide (fun b W (h1 : Sp W b p) h2 h3 => mated_any b p hM W h1 h2 h3)
  have HSK := hide (fun b W (h1 : Sp W b p) h2 h3 => stuck_any b p hM W h1 h2 h3)
  rw [hm] at HMT
  rw [hs] at HSK
  have hbd := mS_bd hM.st.pz 64
  have HLE := hide (fun W (h : Sp W g p) hW => lead_any (some ⟨g, 0, none⟩) 64 p.Z hM.st.pz W h.rd hW)
  have HOF := hide (fun w => of_any p.t (mS p.Z 64) (by omega) (by omega) w)
  have HW1 := hide (hW.mono B1)
  have HGW : Hid (0 < g) := hide (by rw [← hg]; exact hW.lt)
  clear B1 s1 S1 N1 L1 M1 hT hZ hM hm hs hW hbd
  obtain ⟨ms, hms⟩ : ∃ ms, mS p.Z 64 = ms := ⟨_, rfl⟩
  rw [hms] at HLE HOF ⊢
  clear hms
  obtain ⟨pv, hpv⟩ : ∃ pv, pci p.t ms = pv := ⟨_, rfl⟩
  rw [hpv] at HOF ⊢
  clear hpv
  go_enter Tryz.func19, Tryz.ntmps19
  go_upto_region 1 with fail
  try rw [hg]
  clear hw1 hg
  go_wp2_with fail
  refine (HMT.out g w1 HS1.out HT1.out HZ1.out).mono ?_
  rintro r w2 ⟨rfl, hb2⟩
  have HB2 := hide hb2
  clear hb2
  go_wp2_with fail
  refine (HSK.out g w2 (HS1.out.mono HB2.out) (HT1.out.mono HB2.out) (HZ1.out.mono HB2.out)).mono ?_
  rintro r w3 ⟨rfl, hb3⟩
  have HB3 : Hid (Below w1.heap.size w1 w3) := hide (HB2.out.trans (hb3.mono HB2.out.size))
  clear hb3
  have l3 := (HL1.out.mono HB3.out).cell (i := 0) rfl
  have HM3 := hide (HM1.out.mono HB3.out)
  go_upto_region 6 with fail
  clear l3
  refine wp_region_held (S := fun W5 => Keeps (fun j => j = g + 3) w3 W5) (by kernel_rfl) ?_
  change wpAnyH _ _ _ _ _ _ _ _ (World.drew _)
  have SW : Keeps (fun j => j = g + 3) w3 w3.drew := (Keeps.refl _ w3).drew
  have DS : Hid (∀ W, Keeps (fun j => j = g + 3) w3 W → Sp W g p ∧ TabW W) := hide (fun W hk => ⟨(HS1.out.mono HB3.out).keeps hk (fun e => by omega), fun i hi => hk.cell ((HW1.out.mono HB3.out) i hi) (fun e => by have := HGW.out; dsimp only at e; omega)⟩)
  have HMd : Hid (Vb w3.drew (g + 3) 32 (mvC (0, 0, 0))) := hide (HM3.out.mono (drewN_below _ _ 1))
  generalize w3.drew = wd at *
  refine wpAnyH_take (i := 0) (v := .pointer (some ⟨g, 64, none⟩)) rfl (by kernel_rfl) (by kernel_rfl) (by kernel_rfl) (fun _ _ _ h => h) (Or.inl ⟨by rfl, ?_⟩) SW ?_
  · intro W5 hW5
    go_simp <;> first | done | rfl | (rw [IntKind.wrap_i64]; omega) | omega
  go_simp
  refine wpAnyH_take (i := 1) (v := .int .i64 (p.t : Nat)) rfl (by kernel_rfl) (by kernel_rfl) (by kernel_rfl) (fun _ _ _ h => h) (Or.inl ⟨by rfl, ?_⟩) SW ?_
  · intro W5 hW5
    have y0 := (DS.out W5 hW5).1.ends.1
    go_simp <;> first | done | rfl | (rw [IntKind.wrap_i64]; omega) | omega
  go_simp
  refine wpAnyH_take (i := 2) (v := .pointer (some ⟨g, 0, none⟩)) rfl (by kernel_rfl) (by kernel_rfl) (by kernel_rfl) (fun _ _ _ h => h) (Or.inl ⟨by rfl, ?_⟩) SW ?_
  · intro W5 hW5
    go_simp <;> first | done | rfl | (rw [IntKind.wrap_i64]; omega) | omega
  go_simp
  refine wpAnyH_take (i := 3) (v := .slice (some ⟨g, 0, none⟩) 64 64) rfl (by kernel_rfl) (by kernel_rfl) (by kernel_rfl) (fun _ _ _ h => h) (Or.inl ⟨by rfl, ?_⟩) SW ?_
  · intro W5 hW5
    go_simp <;> first | done | rfl | (rw [IntKind.wrap_i64]; omega) | omega
  go_simp
  refine wpAnyH_take (i := 6) (v := .agg (mvC (0, 0, 0)).toArray) rfl (by kernel_rfl) (by kernel_rfl) (by kernel_rfl) (fun _ _ _ h => h) (Or.inl ⟨by rfl, ?_⟩) SW ?_
  · intro W5 hW5
    go_simp <;> first | done | rfl | (rw [IntKind.wrap_i64]; omega) | omega
  go_simp
  refine wpAnyH_ready (rs := [4]) (by kernel_rfl) (by simp) ?_
  refine AllReadyH.cons rfl (fun K1 hK1 => ?_) AllReadyH.nil
  go_simp
  refine (HLE.out _ (DS.out _ SW).1 (DS.out _ SW).2).mono ?_
  rintro r w9 ⟨rfl, hw⟩
  subst w9
  refine hK1.out _ _ SW (fun SW => ?_)
  clear hK1 K1
  go_simp
  refine wpAnyH_ready (rs := [5]) (by kernel_rfl) (by simp) ?_
  refine AllReadyH.cons rfl (fun K1 hK1 => ?_) AllReadyH.nil
  go_simp
  refine (HOF.out _).mono ?_
  rintro r w9 ⟨rfl, hw⟩
  subst w9
  refine hK1.out _ _ SW (fun SW => ?_)
  clear hK1 K1
  go_simp
  refine wpAnyH_take (i := 7) (v := .int .i64 pv) rfl (by kernel_rfl) (by kernel_rfl) (by kernel_rfl) (fun _ _ _ h => h) (Or.inl ⟨by rfl, ?_⟩) SW ?_
  · intro W5 hW5
    go_simp <;> first | done | rfl | (rw [IntKind.wrap_i64]; omega) | omega
  go_simp
  refine wpAnyH_ready (rs := [8]) (by kernel_rfl) (by simp) ?_
  refine AllReadyH.cons rfl (fun K1 hK1 => ?_) AllReadyH.nil
  refine wp_store_mv (.tmp 7) (.tmp 30) rfl (g + 3) rfl rfl HMd.out ?_
  intro wc VC kk
  have SWb := SW.trans kk
  refine hK1.out _ _ SWb (fun SW => ?_)
  clear hK1 K1 SWb kk
  go_simp
  refine wpAnyH_done (by kernel_rfl) ?_ _
  have b2 : Below w.heap.size w w3 := HB1.out.trans (HB3.out.mono HB1.out.size)
  have HBW := hide (b2.trans (SW.below b2.size (fun j hj e => by have := HG.out; omega)))
  clear b2 SW
  go_wp2_with fail
  try simp only [Exit.inBlock, Exit.then]
  refine bodyPost_ret (results_tr rfl _ _ (g + 3) rfl rfl (load_mv VC)) rfl ?_
  exact ⟨rfl, HBW.out⟩

end Go.Proofs.YtdmlamnonbmboaaGreatDoor
