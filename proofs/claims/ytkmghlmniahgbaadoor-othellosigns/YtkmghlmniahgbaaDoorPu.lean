/-
  othello.Put, walked. No conditions beyond those that each theorem bears.
-/
import Derived.Test.YtkmghlmniahgbaaDoorFc
import Derived.Test.YtkmghlmniahgbaaDoorOc
import Derived.Test.YtkmghlmniahgbaaDoorShelfC
namespace Go.Proofs.YtkmghlmniahgbaaDoor
open Go.RowKit Go.Shelf

theorem build24z (w : World) : (Instr.build 24 #[]).run Tryd.prog w = .ok (.agg (gdA 0 0 none 0 0)) w := by
  simp [Instr.build, go_sem, run_underlying Tryd.underlying24]

theorem bodyPost_ret_marks {fn : Func} {n : Nat} {R : Ending → World → Prop} {tmps : Array Value} {w : World} {v : Value} (h : (results fn tmps).run Tryd.prog w = .ok v w) (hR : R (.returned v) w) : bodyPostM Fence.wide n Tryd.prog fn R .ret { tmps := tmps, defers := [] } w := ⟨v, h, hR⟩

theorem wp_calm {P : Program} {c : Code} {K : Act → World → Prop} {Q : Exit → Act → World → Prop} {a : Act} {w : World} (h : c.wp P (Exit.then K (fun _ _ _ => False)) a w) : c.wp P (Exit.then K Q) a w := wp_mono h (fun e _ _ h => by cases e <;> first | exact h | exact h.elim)

/-- Signs put one by one. -/
def stL (W : Nat) (zs : List Int) (m : Int) (L : List Nat) : List Int := L.foldl (fun Y i => Y.set (num W i) m) zs

theorem stL_nil (W : Nat) (zs : List Int) (m : Int) : stL W zs m [] = zs := rfl
theorem stL_snoc (W : Nat) (zs : List Int) (m : Int) (L : List Nat) (i : Nat) : stL W zs m (L ++ [i]) = (stL W zs m L).set (num W i) m := by unfold stL; rw [List.foldl_append]; rfl

theorem stL_pts {W n : Nat} {zs : List Int} {m : Int} (hl : zs.length = n) : ∀ L : List Nat, (∀ i, i ∈ L → num W i < n) → PtS n zs m (fun k => ∃ i, i ∈ L ∧ num W i = k) (stL W zs m L) := by
  intro L
  obtain ⟨k, hk⟩ : ∃ k, L.length = k := ⟨_, rfl⟩
  induction k generalizing L with
  | zero => obtain rfl := List.length_eq_zero_iff.1 hk; intro _; rw [stL_nil]; exact PtS.start hl (fun k ⟨i, hi, _⟩ => by cases hi)
  | succ k ih0 =>
    obtain rfl | ⟨L, x, e0⟩ := List.eq_nil_or_concat L
    · simp at hk
    rw [List.concat_eq_append] at e0
    subst e0
    have ih := ih0 L (by simpa using hk)
    intro h
    rw [stL_snoc]
    refine ((ih (fun i hi => h i (by simp [hi]))).set (h x (by simp))).congr (fun k _ => ?_)
    constructor
    · rintro ⟨i, hi, e⟩
      rcases List.mem_append.1 hi with hi | hi
      · exact Or.inl ⟨i, hi, e⟩
      · rw [List.mem_singleton.1 hi] at e; exact Or.inr e.symm
    · rintro (⟨i, hi, e⟩ | e)
      · exact ⟨i, by simp [hi], e⟩
      · exact ⟨x, by simp, e.symm⟩

/-- The set of a move: the place, and what is turned. -/
def mvT (W H : Nat) (Z : List Int) (m p : Nat) : Nat := bv ((p % W : Nat) : Int) ((p / W : Nat) : Int) ||| tnS W H Z m ((p % W : Nat) : Int) ((p / W : Nat) : Int)

theorem mvT_lt (W H : Nat) (Z : List Int) (m p : Nat) : mvT W H Z m p < 2 ^ 64 := Nat.or_lt_two_pow (bv_lt _ _) (tnS_lt _ _ _ _ _ _)

theorem mvT_is {gW gH n : Nat} {zs : List Int} {m p : Nat} (b : Og gW gH n zs) (hm : m = 1 ∨ m = 2) (hp : p < n) : stL gW zs m (bln (mvT gW gH zs m p) 64) = pz gW gH zs m p ∧ ∀ i, i ∈ bln (mvT gW gH zs m p) 64 → num gW i < n := by
  have hW := b.wd
  have hpl : p < gW * gH := by rw [b.mul]; exact hp
  have hpb := cl_at (zs := zs) (show 0 < gW by omega) hpl
  have h8 := on8_of b.wd.2 b.ht.2 hpb.2
  have hc := cl_onC b.wd.2 b.ht.2 zs
  have hbt : ∀ x y, bt (mvT gW gH zs m p) x y = true ↔ (x = ((p % gW : Nat) : Int) ∧ y = ((p / gW : Nat) : Int)) ∨ tn (cl gW gH zs) m ((p % gW : Nat) : Int) ((p / gW : Nat) : Int) x y = true := by
    intro x y
    unfold mvT
    rw [bt_or, Bool.or_eq_true, bv_bit, h8, Bool.true_and, Bool.and_eq_true, decide_eq_true_eq, decide_eq_true_eq]
    unfold tnS
    rw [setOf_bt, Bool.and_eq_true]
    constructor
    · rintro (h | h)
      · exact Or.inl h
      · exact Or.inr h.2
    · rintro (h | h)
      · exact Or.inl h
      · exact Or.inr ⟨hc x y (by rw [tn_other hc (by omega) h8 h]; omega), h⟩
  have hpl2 := places_of (W := gW) (H := gH) (S := mvT gW gH zs m p) b.w1 b.ht.2 (fun x y h => by
    rcases (hbt x y).1 h with ⟨rfl, rfl⟩ | h
    · exact hpb.2
    · exact cl_on (v := 3 - (m : Int)) (by omega) (tn_other hc (by omega) h8 h))
  have hnum : ∀ i, i ∈ bln (mvT gW gH zs m p) 64 → num gW i < n := by
    intro i hi
    have := List.mem_map_of_mem (f := num gW) hi
    rw [hpl2, List.mem_filter, List.mem_range, b.mul] at this
    exact this.1
  refine ⟨?_, hnum⟩
  have hP := stL_pts (m := (m : Int)) b.len _ hnum
  refine list_ext hP.1 (by rw [pz_len, b.mul]) fun k hk => ?_
  have hkW : k < gW * gH := by rw [b.mul]; exact hk
  rw [pz_at hkW]
  have hiff : (∃ i, i ∈ bln (mvT gW gH zs m p) 64 ∧ num gW i = k) ↔ (k = p ∨ tn (cl gW gH zs) m ((p % gW : Nat) : Int) ((p / gW : Nat) : Int) ((k % gW : Nat) : Int) ((k / gW : Nat) : Int) = true) := by
    rw [← List.mem_map, hpl2, List.mem_filter, List.mem_range, hbt]
    constructor
    · rintro ⟨_, ⟨h1, h2⟩ | h⟩
      · left
        have e1 := Nat.div_add_mod k gW
        have e2 := Nat.div_add_mod p gW
        rw [← e1, ← e2, show k % gW = p % gW by omega, show k / gW = p / gW by omega]
      · exact Or.inr h
    · rintro (rfl | h)
      · exact ⟨hkW, Or.inl ⟨rfl, rfl⟩⟩
      · exact ⟨hkW, Or.inr h⟩
  split
  · rename_i e; exact (hP.2 k hk).1 (hiff.2 e)
  · rename_i e; exact (hP.2 k hk).2 (fun h => e (hiff.1 h))

attribute [local go_sem] build24z Oper.semAt_some wide_fn wide_fn0 wide_depth

set_option maxRecDepth 100000 in
set_option maxHeartbeats 2000000 in
theorem Put_state (W H : Int) (a : Option Addr) (n c : Nat) (zs : List Int) (who at' : Int) (w : World) (hT : DTab w) (h : Rd w a n c zs) (hno : oMay W H zs = false) :
    Calls Tryd.prog 11 #[.agg (gdA W H a n c), .int .i64 who, .int .i64 at'] w fun e w' => e = .returned (.tuple #[.agg (gdA 0 0 none 0 0), .int .i64 12]) ∧ Below w.heap.size w w' := by
  obtain ⟨w1, hw1⟩ : ∃ w1, ((w.alloc (.cells (gdA W H a n c) 24)).alloc (.cells #[.int .i64 who] 3)).alloc (.cells (gdA 0 0 none 0 0) 24) = w1 := ⟨_, rfl⟩
  have HB1 : Hid (Below w.heap.size w w1) := hide (by rw [← hw1]; exact (((Below.refl _ w).alloc (Nat.le_refl _) _).alloc (by simp) _).alloc (by simp; omega) _)
  have G1 : Gd w1 w.heap.size W H a n c := by rw [← hw1]; exact ((Gd.new w _ _ _ _ _).old _).old _
  have cw1 : w1.cell? ⟨w.heap.size + 1, 0, none⟩ = some (.int .i64 who) := by
    rw [← hw1]
    have := old_cell (.cells (gdA 0 0 none 0 0) 24) (new_cell (w.alloc (.cells (gdA W H a n c) 24)) (.int .i64 who) 3)
    rw [World.size_alloc] at this
    exact this
  have Z1 : Gd w1 (w.heap.size + 2) 0 0 none 0 0 := by
    rw [← hw1]
    have := Gd.new ((w.alloc (.cells (gdA W H a n c) 24)).alloc (.cells #[.int .i64 who] 3)) 0 0 none 0 0
    rw [World.size_alloc, World.size_alloc] at this
    exact this
  have HG := hide G1
  have HZ := hide Z1
  have HCW := hide cw1
  have HD := hide (hT.mono HB1.out)
  have HBO := hide (boardOf_state W H a n c zs who w1 (h.mono HB1.out) hno)
  clear h hno hT
  refine (callsIn_wide (n := 3)).1 ?_
  refine callsIn_of_wp_marks Tryd.func11 rfl trivial ?_ rfl
  simp only [Tryd.ntmps11, List.size_toArray, List.length_cons, List.length_nil, Nat.reduceAdd, Nat.reduceSub, Array.replicate_succ, Array.replicate_zero, List.push_toArray, List.append_toArray, List.nil_append, List.cons_append]
  refine wpIn_wide.2 ?_
  go_upto_region 1 with fail
  clear hw1
  go_wp2_with (refine wpList_load_gd rfl (.tmp 3) rfl w.heap.size rfl G1 ?_)
  refine HBO.out.mono ?_
  rintro r w2 ⟨rfl, hb2⟩
  have HB2 := hide (HB1.out.trans (hb2.mono HB1.out.size))
  have HG2 := hide (HG.out.below hb2 HG.out.lt)
  have HZ2 := hide (HZ.out.below hb2 HZ.out.lt)
  have HCW2 := hide ((hb2.cell (p := ⟨w.heap.size + 1, 0, none⟩) (World.block_lt_of_cell? w1 _ HCW.out)).trans HCW.out)
  have K22 := Bd.new w2 0 0 0
  have HD2 := hide (HD.out.mono hb2)
  clear hb2 G1 cw1 Z1 HBO
  go_upto_region 2 with (refine wpList_store_bd rfl (.tmp 8) (.tmp 16) rfl w2.heap.size rfl rfl K22 ?_; intro w3 V3 kk3)
  have B23 : Below w2.heap.size w2 w3 := (((Keeps.refl (fun k => k = w2.heap.size) w2).alloc _).trans kk3).below (Nat.le_refl _) (fun k hk e => by omega)
  have HB3 := hide (HB2.out.trans (B23.mono HB2.out.size))
  have HG3 := hide (HG2.out.below B23 HG2.out.lt)
  have HZ3 := hide (HZ2.out.below B23 HZ2.out.lt)
  have HCW3 := hide ((B23.cell (p := ⟨w.heap.size + 1, 0, none⟩) (World.block_lt_of_cell? w2 _ HCW2.out)).trans HCW2.out)
  have HD3 := hide (HD2.out.mono B23)
  clear kk3 B23 K22 HB2 HD2 HG2 HZ2 HCW2
  have Z3 := HZ3.out
  go_wp2_with (refine wpList_store_gd rfl (.tmp 6) (.tmp 20) rfl (w.heap.size + 2) rfl rfl Z3 ?_; intro w6 k6 kk6)
  refine bodyPost_ret_marks (results_gdt rfl _ _ (w.heap.size + 2) rfl k6 rfl) ⟨rfl, ?_⟩
  exact HB3.out.trans ((kk6.mono (Y := fun q => w.heap.size ≤ q) (fun q _ e => by omega)).below (B := w.heap.size) HB3.out.size (fun q hq e => by omega))

set_option maxRecDepth 100000 in
set_option maxHeartbeats 2000000 in
theorem Put_who (gW gH : Nat) (a : Option Addr) (n c : Nat) (zs : List Int) (who at' : Int) (w : World) (hT : DTab w) (h : Rd w a n c zs) (b : Og gW gH n zs) (hn1 : who ≠ 1) (hn2 : who ≠ 2) :
    Calls Tryd.prog 11 #[.agg (gdA gW gH a n c), .int .i64 who, .int .i64 at'] w fun e w' => e = .returned (.tuple #[.agg (gdA 0 0 none 0 0), .int .i64 4]) ∧ Below w.heap.size w w' := by
  obtain ⟨w1, hw1⟩ : ∃ w1, ((w.alloc (.cells (gdA gW gH a n c) 24)).alloc (.cells #[.int .i64 who] 3)).alloc (.cells (gdA 0 0 none 0 0) 24) = w1 := ⟨_, rfl⟩
  have HB1 : Hid (Below w.heap.size w w1) := hide (by rw [← hw1]; exact (((Below.refl _ w).alloc (Nat.le_refl _) _).alloc (by simp) _).alloc (by simp; omega) _)
  have G1 : Gd w1 w.heap.size gW gH a n c := by rw [← hw1]; exact ((Gd.new w _ _ _ _ _).old _).old _
  have cw1 : w1.cell? ⟨w.heap.size + 1, 0, none⟩ = some (.int .i64 who) := by
    rw [← hw1]
    have := old_cell (.cells (gdA 0 0 none 0 0) 24) (new_cell (w.alloc (.cells (gdA gW gH a n c) 24)) (.int .i64 who) 3)
    rw [World.size_alloc] at this
    exact this
  have Z1 : Gd w1 (w.heap.size + 2) 0 0 none 0 0 := by
    rw [← hw1]
    have := Gd.new ((w.alloc (.cells (gdA gW gH a n c) 24)).alloc (.cells #[.int .i64 who] 3)) 0 0 none 0 0
    rw [World.size_alloc, World.size_alloc] at this
    exact this
  have HG := hide G1
  have HZ := hide Z1
  have HCW := hide cw1
  have HD := hide (hT.mono HB1.out)
  have HBO := hide (boardOf_who gW gH a n c zs who w1 (h.mono HB1.out) b hn1 hn2)
  clear h b hT hn1 hn2
  refine (callsIn_wide (n := 3)).1 ?_
  refine callsIn_of_wp_marks Tryd.func11 rfl trivial ?_ rfl
  simp only [Tryd.ntmps11, List.size_toArray, List.length_cons, List.length_nil, Nat.reduceAdd, Nat.reduceSub, Array.replicate_succ, Array.replicate_zero, List.push_toArray, List.append_toArray, List.nil_append, List.cons_append]
  refine wpIn_wide.2 ?_
  go_upto_region 1 with fail
  clear hw1
  go_wp2_with (refine wpList_load_gd rfl (.tmp 3) rfl w.heap.size rfl G1 ?_)
  refine HBO.out.mono ?_
  rintro r w2 ⟨rfl, hb2⟩
  have HB2 := hide (HB1.out.trans (hb2.mono HB1.out.size))
  have HG2 := hide (HG.out.below hb2 HG.out.lt)
  have HZ2 := hide (HZ.out.below hb2 HZ.out.lt)
  have HCW2 := hide ((hb2.cell (p := ⟨w.heap.size + 1, 0, none⟩) (World.block_lt_of_cell? w1 _ HCW.out)).trans HCW.out)
  have K22 := Bd.new w2 0 0 0
  have HD2 := hide (HD.out.mono hb2)
  clear hb2 G1 cw1 Z1 HBO
  go_upto_region 2 with (refine wpList_store_bd rfl (.tmp 8) (.tmp 16) rfl w2.heap.size rfl rfl K22 ?_; intro w3 V3 kk3)
  have B23 : Below w2.heap.size w2 w3 := (((Keeps.refl (fun k => k = w2.heap.size) w2).alloc _).trans kk3).below (Nat.le_refl _) (fun k hk e => by omega)
  have HB3 := hide (HB2.out.trans (B23.mono HB2.out.size))
  have HG3 := hide (HG2.out.below B23 HG2.out.lt)
  have HZ3 := hide (HZ2.out.below B23 HZ2.out.lt)
  have HCW3 := hide ((B23.cell (p := ⟨w.heap.size + 1, 0, none⟩) (World.block_lt_of_cell? w2 _ HCW2.out)).trans HCW2.out)
  have HD3 := hide (HD2.out.mono B23)
  clear kk3 B23 K22 HB2 HD2 HG2 HZ2 HCW2
  have Z3 := HZ3.out
  go_wp2_with (refine wpList_store_gd rfl (.tmp 6) (.tmp 20) rfl (w.heap.size + 2) rfl rfl Z3 ?_; intro w6 k6 kk6)
  refine bodyPost_ret_marks (results_gdt rfl _ _ (w.heap.size + 2) rfl k6 rfl) ⟨rfl, ?_⟩
  exact HB3.out.trans ((kk6.mono (Y := fun q => w.heap.size ≤ q) (fun q _ e => by omega)).below (B := w.heap.size) HB3.out.size (fun q hq e => by omega))

set_option maxRecDepth 100000 in
set_option maxHeartbeats 2000000 in
theorem Put_range (gW gH : Nat) (a : Option Addr) (n c : Nat) (zs : List Int) (m : Nat) (at' : Int) (w : World) (hT : DTab w) (h : Rd w a n c zs) (b : Og gW gH n zs) (hm : m = 1 ∨ m = 2) (hp : at' < 0 ∨ (n : Int) ≤ at') :
    Calls Tryd.prog 11 #[.agg (gdA gW gH a n c), .int .i64 (m : Nat), .int .i64 at'] w fun e w' => e = .returned (.tuple #[.agg (gdA 0 0 none 0 0), .int .i64 3]) ∧ Below w.heap.size w w' := by
  have hcm := h.max
  unfold maxLen at hcm
  have hcc := h.cap
  obtain ⟨w1, hw1⟩ : ∃ w1, ((w.alloc (.cells (gdA gW gH a n c) 24)).alloc (.cells #[.int .i64 (m : Nat)] 3)).alloc (.cells (gdA 0 0 none 0 0) 24) = w1 := ⟨_, rfl⟩
  have HB1 : Hid (Below w.heap.size w w1) := hide (by rw [← hw1]; exact (((Below.refl _ w).alloc (Nat.le_refl _) _).alloc (by simp) _).alloc (by simp; omega) _)
  have G1 : Gd w1 w.heap.size gW gH a n c := by rw [← hw1]; exact ((Gd.new w _ _ _ _ _).old _).old _
  have cw1 : w1.cell? ⟨w.heap.size + 1, 0, none⟩ = some (.int .i64 (m : Nat)) := by
    rw [← hw1]
    have := old_cell (.cells (gdA 0 0 none 0 0) 24) (new_cell (w.alloc (.cells (gdA gW gH a n c) 24)) (.int .i64 (m : Nat)) 3)
    rw [World.size_alloc] at this
    exact this
  have Z1 : Gd w1 (w.heap.size + 2) 0 0 none 0 0 := by
    rw [← hw1]
    have := Gd.new ((w.alloc (.cells (gdA gW gH a n c) 24)).alloc (.cells #[.int .i64 (m : Nat)] 3)) 0 0 none 0 0
    rw [World.size_alloc, World.size_alloc] at this
    exact this
  have HG := hide G1
  have HZ := hide Z1
  have HCW := hide cw1
  have HD := hide (hT.mono HB1.out)
  have HBO := hide (boardOf_yes gW gH a n c zs m w1 (h.mono HB1.out) b hm)
  clear h b hT hm
  dsimp only [brd] at HBO
  generalize so gW gH zs m = o at *
  generalize so gW gH zs (3 - m) = t at *
  generalize so gW gH zs 0 = e at *
  by_cases h1 : at' < 0
  · clear hp
    refine (callsIn_wide (n := 3)).1 ?_
    refine callsIn_of_wp_marks Tryd.func11 rfl trivial ?_ rfl
    simp only [Tryd.ntmps11, List.size_toArray, List.length_cons, List.length_nil, Nat.reduceAdd, Nat.reduceSub, Array.replicate_succ, Array.replicate_zero, List.push_toArray, List.append_toArray, List.nil_append, List.cons_append]
    refine wpIn_wide.2 ?_
    go_upto_region 1 with fail
    clear hw1
    go_wp2_with (refine wpList_load_gd rfl (.tmp 3) rfl w.heap.size rfl G1 ?_)
    refine HBO.out.mono ?_
    rintro r w2 ⟨rfl, hb2⟩
    have HB2 := hide (HB1.out.trans (hb2.mono HB1.out.size))
    have HG2 := hide (HG.out.below hb2 HG.out.lt)
    have HZ2 := hide (HZ.out.below hb2 HZ.out.lt)
    have HCW2 := hide ((hb2.cell (p := ⟨w.heap.size + 1, 0, none⟩) (World.block_lt_of_cell? w1 _ HCW.out)).trans HCW.out)
    have K22 := Bd.new w2 0 0 0
    have HD2 := hide (HD.out.mono hb2)
    clear hb2 G1 cw1 Z1 HBO
    go_upto_region 2 with (refine wpList_store_bd rfl (.tmp 8) (.tmp 16) rfl w2.heap.size rfl rfl K22 ?_; intro w3 V3 kk3)
    have B23 : Below w2.heap.size w2 w3 := (((Keeps.refl (fun k => k = w2.heap.size) w2).alloc _).trans kk3).below (Nat.le_refl _) (fun k hk e => by omega)
    have HB3 := hide (HB2.out.trans (B23.mono HB2.out.size))
    have HG3 := hide (HG2.out.below B23 HG2.out.lt)
    have HZ3 := hide (HZ2.out.below B23 HZ2.out.lt)
    have HCW3 := hide ((B23.cell (p := ⟨w.heap.size + 1, 0, none⟩) (World.block_lt_of_cell? w2 _ HCW2.out)).trans HCW2.out)
    have HD3 := hide (HD2.out.mono B23)
    clear kk3 B23 K22 HB2 HD2 HG2 HZ2 HCW2
    have Z3 := HZ3.out
    go_wp2_with (refine wpList_store_gd rfl (.tmp 6) (.tmp 31) rfl (w.heap.size + 2) rfl rfl Z3 ?_; intro w6 k6 kk6)
    refine bodyPost_ret_marks (results_gdt rfl _ _ (w.heap.size + 2) rfl k6 rfl) ⟨rfl, ?_⟩
    exact HB3.out.trans ((kk6.mono (Y := fun q => w.heap.size ≤ q) (fun q _ e => by omega)).below (B := w.heap.size) HB3.out.size (fun q hq e => by omega))
  · have h2 : at' ≥ (n : Int) := by omega
    clear hp
    refine (callsIn_wide (n := 3)).1 ?_
    refine callsIn_of_wp_marks Tryd.func11 rfl trivial ?_ rfl
    simp only [Tryd.ntmps11, List.size_toArray, List.length_cons, List.length_nil, Nat.reduceAdd, Nat.reduceSub, Array.replicate_succ, Array.replicate_zero, List.push_toArray, List.append_toArray, List.nil_append, List.cons_append]
    refine wpIn_wide.2 ?_
    go_upto_region 1 with fail
    clear hw1
    go_wp2_with (refine wpList_load_gd rfl (.tmp 3) rfl w.heap.size rfl G1 ?_)
    refine HBO.out.mono ?_
    rintro r w2 ⟨rfl, hb2⟩
    have HB2 := hide (HB1.out.trans (hb2.mono HB1.out.size))
    have HG2 := hide (HG.out.below hb2 HG.out.lt)
    have HZ2 := hide (HZ.out.below hb2 HZ.out.lt)
    have HCW2 := hide ((hb2.cell (p := ⟨w.heap.size + 1, 0, none⟩) (World.block_lt_of_cell? w1 _ HCW.out)).trans HCW.out)
    have K22 := Bd.new w2 0 0 0
    have HD2 := hide (HD.out.mono hb2)
    clear hb2 G1 cw1 Z1 HBO
    go_upto_region 2 with (refine wpList_store_bd rfl (.tmp 8) (.tmp 16) rfl w2.heap.size rfl rfl K22 ?_; intro w3 V3 kk3)
    have B23 : Below w2.heap.size w2 w3 := (((Keeps.refl (fun k => k = w2.heap.size) w2).alloc _).trans kk3).below (Nat.le_refl _) (fun k hk e => by omega)
    have HB3 := hide (HB2.out.trans (B23.mono HB2.out.size))
    have HG3 := hide (HG2.out.below B23 HG2.out.lt)
    have HZ3 := hide (HZ2.out.below B23 HZ2.out.lt)
    have HCW3 := hide ((B23.cell (p := ⟨w.heap.size + 1, 0, none⟩) (World.block_lt_of_cell? w2 _ HCW2.out)).trans HCW2.out)
    have HD3 := hide (HD2.out.mono B23)
    clear kk3 B23 K22 HB2 HD2 HG2 HZ2 HCW2
    have Z3 := HZ3.out
    obtain ⟨-, -, g2⟩ := HG3.out.cells
    go_wp2_with (refine wpList_store_gd rfl (.tmp 6) (.tmp 31) rfl (w.heap.size + 2) rfl rfl Z3 ?_; intro w6 k6 kk6)
    refine bodyPost_ret_marks (results_gdt rfl _ _ (w.heap.size + 2) rfl k6 rfl) ⟨rfl, ?_⟩
    exact HB3.out.trans ((kk6.mono (Y := fun q => w.heap.size ≤ q) (fun q _ e => by omega)).below (B := w.heap.size) HB3.out.size (fun q hq e => by omega))

/-- The place that is asked for, and whether it may be. -/
theorem mv_and {gW gH n : Nat} {zs : List Int} {m p : Nat} (b : Og gW gH n zs) (hp : p < n) : bits BinOp.and IntKind.u64 (mvS gW gH zs m : Nat) (bv ((p % gW : Nat) : Int) ((p / gW : Nat) : Int) : Nat) = if p ∈ sps gW gH zs m then ((bv ((p % gW : Nat) : Int) ((p / gW : Nat) : Int) : Nat) : Int) else 0 := by
  have hpl : p < gW * gH := by rw [b.mul]; exact hp
  rw [u64_and_nat _ _ (by rw [← p64]; exact mvS_lt _ _ _ _) (by rw [← p64]; exact bv_lt _ _), Nat.and_comm, bv_and, mvS_bt b.wd.2 b.ht.2]
  have : (p ∈ sps gW gH zs m) ↔ lg (cl gW gH zs) (m : Int) ((p % gW : Nat) : Int) ((p / gW : Nat) : Int) = true := by
    unfold sps
    rw [List.mem_filter, List.mem_range]
    exact ⟨fun h => h.2, fun h => ⟨hpl, h⟩⟩
  by_cases e : p ∈ sps gW gH zs m
  · rw [if_pos e, if_pos (this.1 e)]
  · rw [if_neg e, if_neg (fun h => e (this.2 h))]; rfl

theorem place_at {gW gH n : Nat} {zs : List Int} {p : Nat} (b : Og gW gH n zs) (hp : p < n) (W1 : World) : Calls Tryd.prog 34 #[.int .i64 (p : Nat), .int .i64 gW] W1 fun e w' => e = .returned (.int .u64 (bv ((p % gW : Nat) : Int) ((p / gW : Nat) : Int) : Nat)) ∧ ∃ k, w' = W1.drewN k := by
  have hx : p % gW < gW := Nat.mod_lt _ (by have := b.wd; omega)
  have hy : p / gW < gH := Nat.div_lt_of_lt_mul (by rw [b.mul]; exact hp)
  have hw := b.wd
  have hh := b.ht
  have hn := b.n64
  refine (placeOf_any p gW (by omega) (by omega) (by omega) (by omega) W1).mono ?_
  rintro e w' ⟨rfl, hk⟩
  exact ⟨by rw [bv_pow (p % gW) (p / gW) (by omega) (by omega)], hk⟩

theorem bv_pos {gW gH n : Nat} {zs : List Int} {p : Nat} (b : Og gW gH n zs) (hp : p < n) : bv ((p % gW : Nat) : Int) ((p / gW : Nat) : Int) ≠ 0 := by
  have hx : p % gW < gW := Nat.mod_lt _ (by have := b.wd; omega)
  have hy : p / gW < gH := Nat.div_lt_of_lt_mul (by rw [b.mul]; exact hp)
  have hw := b.wd
  have hh := b.ht
  rw [bv_pow (p % gW) (p / gW) (by omega) (by omega)]
  have := Nat.two_pow_pos (p / gW * 8 + p % gW)
  omega

attribute [local irreducible] mvS bln sps num bv tnS mvT pz stL

set_option maxRecDepth 100000 in
set_option maxHeartbeats 4000000 in
theorem Put_rule (gW gH : Nat) (a : Option Addr) (n c : Nat) (zs : List Int) (m p : Nat) (w : World) (hT : DTab w) (h : Rd w a n c zs) (b : Og gW gH n zs) (hm : m = 1 ∨ m = 2) (hp : p < n) (hno : p ∉ sps gW gH zs m) :
    Calls Tryd.prog 11 #[.agg (gdA gW gH a n c), .int .i64 (m : Nat), .int .i64 (p : Nat)] w fun e w' => e = .returned (.tuple #[.agg (gdA 0 0 none 0 0), .int .i64 8]) ∧ Below w.heap.size w w' := by
  have hcm := h.max
  unfold maxLen at hcm
  have hcc := h.cap
  obtain ⟨w1, hw1⟩ : ∃ w1, ((w.alloc (.cells (gdA gW gH a n c) 24)).alloc (.cells #[.int .i64 (m : Nat)] 3)).alloc (.cells (gdA 0 0 none 0 0) 24) = w1 := ⟨_, rfl⟩
  have HB1 : Hid (Below w.heap.size w w1) := hide (by rw [← hw1]; exact (((Below.refl _ w).alloc (Nat.le_refl _) _).alloc (by simp) _).alloc (by simp; omega) _)
  have G1 : Gd w1 w.heap.size gW gH a n c := by rw [← hw1]; exact ((Gd.new w _ _ _ _ _).old _).old _
  have cw1 : w1.cell? ⟨w.heap.size + 1, 0, none⟩ = some (.int .i64 (m : Nat)) := by
    rw [← hw1]
    have := old_cell (.cells (gdA 0 0 none 0 0) 24) (new_cell (w.alloc (.cells (gdA gW gH a n c) 24)) (.int .i64 (m : Nat)) 3)
    rw [World.size_alloc] at this
    exact this
  have Z1 : Gd w1 (w.heap.size + 2) 0 0 none 0 0 := by
    rw [← hw1]
    have := Gd.new ((w.alloc (.cells (gdA gW gH a n c) 24)).alloc (.cells #[.int .i64 (m : Nat)] 3)) 0 0 none 0 0
    rw [World.size_alloc, World.size_alloc] at this
    exact this
  have HG := hide G1
  have HZ := hide Z1
  have HCW := hide cw1
  have HD := hide (hT.mono HB1.out)
  have HBO := hide (boardOf_yes gW gH a n c zs m w1 (h.mono HB1.out) b hm)
  have HMV := hide (fun W1 h1 => moves_any (Z := zs) b.w1 b.ht.2 hm W1 h1)
  have HPA := hide (fun W1 => place_at (zs := zs) b hp W1)
  have hand := mv_and (m := m) b hp
  rw [if_neg hno] at hand
  have h1 : ¬ (p : Int) < 0 := by omega
  have h2 : ¬ (p : Int) ≥ (n : Int) := by omega
  clear h b hT hm hno hp
  dsimp only [brd] at HMV
  dsimp only [brd] at HBO
  generalize so gW gH zs m = o at *
  generalize so gW gH zs (3 - m) = t at *
  generalize so gW gH zs 0 = e at *
  generalize mvS gW gH zs m = MV at *
  generalize bv ((p % gW : Nat) : Int) ((p / gW : Nat) : Int) = B at *
  refine (callsIn_wide (n := 3)).1 ?_
  refine callsIn_of_wp_marks Tryd.func11 rfl trivial ?_ rfl
  simp only [Tryd.ntmps11, List.size_toArray, List.length_cons, List.length_nil, Nat.reduceAdd, Nat.reduceSub, Array.replicate_succ, Array.replicate_zero, List.push_toArray, List.append_toArray, List.nil_append, List.cons_append]
  refine wpIn_wide.2 ?_
  go_upto_region 1 with fail
  clear hw1
  go_wp2_with (refine wpList_load_gd rfl (.tmp 3) rfl w.heap.size rfl G1 ?_)
  refine HBO.out.mono ?_
  rintro r w2 ⟨rfl, hb2⟩
  have HB2 := hide (HB1.out.trans (hb2.mono HB1.out.size))
  have HG2 := hide (HG.out.below hb2 HG.out.lt)
  have HZ2 := hide (HZ.out.below hb2 HZ.out.lt)
  have HCW2 := hide ((hb2.cell (p := ⟨w.heap.size + 1, 0, none⟩) (World.block_lt_of_cell? w1 _ HCW.out)).trans HCW.out)
  have K22 := Bd.new w2 0 0 0
  have HD2 := hide (HD.out.mono hb2)
  clear hb2 G1 cw1 Z1 HBO
  go_upto_region 2 with (refine wpList_store_bd rfl (.tmp 8) (.tmp 16) rfl w2.heap.size rfl rfl K22 ?_; intro w3 V3 kk3)
  have B23 : Below w2.heap.size w2 w3 := (((Keeps.refl (fun k => k = w2.heap.size) w2).alloc _).trans kk3).below (Nat.le_refl _) (fun k hk e => by omega)
  have HB3 := hide (HB2.out.trans (B23.mono HB2.out.size))
  have HG3 := hide (HG2.out.below B23 HG2.out.lt)
  have HZ3 := hide (HZ2.out.below B23 HZ2.out.lt)
  have HCW3 := hide ((B23.cell (p := ⟨w.heap.size + 1, 0, none⟩) (World.block_lt_of_cell? w2 _ HCW2.out)).trans HCW2.out)
  have HD3 := hide (HD2.out.mono B23)
  clear kk3 B23 K22 HB2 HD2 HG2 HZ2 HCW2
  obtain ⟨g0, -, g2⟩ := HG3.out.cells
  go_wp2_with fail
  refine (HPA.out _).mono ?_
  rintro r w4 ⟨rfl, q, rfl⟩
  have B34 := drewN_below w3.heap.size w3 q
  have HB4 := hide (HB3.out.trans (B34.mono HB3.out.size))
  have V4 := V3.below B34 V3.lt
  have HZ4 := hide (HZ3.out.below B34 HZ3.out.lt)
  have HC4 := hide (HMV.out _ (HD3.out.mono B34))
  generalize w3.drewN q = w4 at *
  clear B34 V3 g0 g2 HPA
  go_wp2_with (refine wpList_load_bd rfl (.tmp 8) rfl w2.heap.size rfl V4 ?_)
  refine HC4.out.mono ?_
  rintro r w5 ⟨rfl, hb5⟩
  have HB5 := hide (HB4.out.trans (hb5.mono HB4.out.size))
  have Z5 := HZ4.out.below hb5 HZ4.out.lt
  clear hb5 HC4 V4
  have hzz : ((0 : Int) == 0) = true := by rfl
  go_wp2_with (refine wpList_store_gd rfl (.tmp 6) (.tmp 41) rfl (w.heap.size + 2) rfl rfl Z5 ?_; intro w6 k6 kk6)
  refine bodyPost_ret_marks (results_gdt rfl _ _ (w.heap.size + 2) rfl k6 rfl) ⟨rfl, ?_⟩
  exact HB5.out.trans ((kk6.mono (Y := fun q => w.heap.size ≤ q) (fun q _ e => by omega)).below (B := w.heap.size) HB5.out.size (fun q hq e => by omega))


end Go.Proofs.YtkmghlmniahgbaaDoor
