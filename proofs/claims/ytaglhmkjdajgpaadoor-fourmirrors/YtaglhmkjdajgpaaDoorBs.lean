/-
  The best column, so many plies deep: the search of four. No conditions beyond those that each theorem bears.
-/
import Derived.Test.YtaglhmkjdajgpaaDoorCn
import Derived.Laws.EntriesVeiled
namespace Go.Proofs.YtaglhmkjdajgpaaDoor
open Go.RowKit Go.Shelf

/-- One column more. -/
def stp1 (V : Nat × Nat → Int) (r : Int × Int) (x : Nat × Nat) : Int × Int := if r.2 = -1 ∨ r.1 < V x then (V x, (x.1 : Int)) else r

/-- What is best, d plies deep from here, s plies being played; and its column. -/
def bvl (W H k : Nat) : Nat → Nat → List Int → Nat → Int × Int
  | 0, _, _, _ => (0, -1)
  | d + 1, s, Z, m => match (drK W H Z W).find? (fun x => inR W H (Z.set x.2 (m : Int)) x.2 k) with
    | some x => (100 - ((s + 1 : Nat) : Int), (x.1 : Int))
    | none => (drK W H Z W).foldl (stp1 fun x => -(bvl W H k d (s + 1) (Z.set x.2 (m : Int)) (3 - m)).1) (0, -1)

theorem bvl_zero (W H k s : Nat) (Z : List Int) (m : Nat) : bvl W H k 0 s Z m = (0, -1) := by unfold bvl; rfl

theorem bvl_hit {W H k d s m : Nat} {Z : List Int} {pre rest : List (Nat × Nat)} {x : Nat × Nat} (h : drK W H Z W = pre ++ x :: rest) (hp : ∀ y, y ∈ pre → inR W H (Z.set y.2 (m : Int)) y.2 k = false) (hx : inR W H (Z.set x.2 (m : Int)) x.2 k = true) :
    bvl W H k (d + 1) s Z m = (100 - ((s + 1 : Nat) : Int), (x.1 : Int)) := by
  have hf : (drK W H Z W).find? (fun x => inR W H (Z.set x.2 (m : Int)) x.2 k) = some x := by
    rw [h, List.find?_append, List.find?_eq_none.2 (fun y hy => by rw [hp y hy]; simp)]
    simp [hx]
  unfold bvl
  rw [hf]

theorem bvl_all {W H k d s m : Nat} {Z : List Int} (hp : ∀ y, y ∈ drK W H Z W → inR W H (Z.set y.2 (m : Int)) y.2 k = false) :
    bvl W H k (d + 1) s Z m = (drK W H Z W).foldl (stp1 fun x => -(bvl W H k d (s + 1) (Z.set x.2 (m : Int)) (3 - m)).1) (0, -1) := by
  have hf : (drK W H Z W).find? (fun x => inR W H (Z.set x.2 (m : Int)) x.2 k) = none := List.find?_eq_none.2 (fun y hy => by rw [hp y hy]; simp)
  conv => lhs; unfold bvl
  rw [hf]

theorem stp1_bd {V : Nat × Nat → Int} (hV : ∀ x, -100 ≤ V x ∧ V x ≤ 100) : ∀ (xs : List (Nat × Nat)) (r : Int × Int), (-100 ≤ r.1 ∧ r.1 ≤ 100) → (-1 ≤ r.2 ∧ r.2 ≤ 1000) → (∀ x, x ∈ xs → x.1 ≤ 1000) → (-100 ≤ (xs.foldl (stp1 V) r).1 ∧ (xs.foldl (stp1 V) r).1 ≤ 100) ∧ (-1 ≤ (xs.foldl (stp1 V) r).2 ∧ (xs.foldl (stp1 V) r).2 ≤ 1000)
  | [], _, h1, h2, _ => ⟨h1, h2⟩
  | x :: xs, r, h1, h2, h3 => by
    rw [List.foldl_cons]
    have hx := h3 x (by simp)
    have := hV x
    apply stp1_bd hV xs
    · unfold stp1; split
      · exact this
      · exact h1
    · unfold stp1; split
      · dsimp only; omega
      · exact h2
    · intro y hy; exact h3 y (by simp [hy])

theorem drK_fst {W H : Nat} {Z : List Int} {x : Nat × Nat} : ∀ {j : Nat}, x ∈ drK W H Z j → x.1 < j
  | 0, h => by rw [drK_zero] at h; cases h
  | j + 1, h => by
    cases hf : fallN W Z j H with
    | none => rw [drK_none hf] at h; have := drK_fst h; omega
    | some p =>
      rw [drK_some hf] at h
      rcases List.mem_append.1 h with h | h
      · have := drK_fst h; omega
      · rw [List.mem_singleton.1 h]; dsimp only; omega

theorem bvl_bd (W H k : Nat) (hW : W ≤ 10) : ∀ (d s : Nat) (Z : List Int) (m : Nat), s + d ≤ 6 → (-100 ≤ (bvl W H k d s Z m).1 ∧ (bvl W H k d s Z m).1 ≤ 100) ∧ (-1 ≤ (bvl W H k d s Z m).2 ∧ (bvl W H k d s Z m).2 ≤ 1000)
  | 0, _, _, _, _ => by rw [bvl_zero]; simp
  | d + 1, s, Z, m, h => by
    unfold bvl
    split
    · rename_i x hx
      have := drK_fst (List.mem_of_find?_eq_some hx)
      dsimp only
      omega
    · refine stp1_bd (fun x => ?_) _ _ (by simp) (by simp) (fun x hx => by have := drK_fst hx; omega)
      have := (bvl_bd W H k hW d (s + 1) (Z.set x.2 (m : Int)) (3 - m) (by omega)).1
      omega

theorem results_two {fn : Func} {x y : Tmp} (h : fn.results = #[.cell x 3, .cell y 3]) (tmps : Array Value) (w : World) (p q : Addr) {u v : Int} (hx : tmps.getD x undef = .pointer (some p)) (hy : tmps.getD y undef = .pointer (some q))
    (hp : w.cell? p = some (.int .i64 u)) (hq : w.cell? q = some (.int .i64 v)) : (results fn tmps).run Tryd.prog w = .ok (.tuple #[.int .i64 u, .int .i64 v]) w := by
  have hx' : tmps[x]?.getD undef = .pointer (some p) := by simpa using hx
  have hy' : tmps[y]?.getD undef = .pointer (some q) := by simpa using hy
  simp [results, h, hx', hy', hp, hq, go_sem]

theorem allocs_below : ∀ (l : List Obj) (w : World), Below w.heap.size w (l.foldl World.alloc w) ∧ (l.foldl World.alloc w).heap.size = w.heap.size + l.length
  | [], w => ⟨Below.refl _ _, rfl⟩
  | o :: l, w => by
    obtain ⟨h1, h2⟩ := allocs_below l (w.alloc o)
    rw [World.size_alloc] at h1 h2
    exact ⟨((Below.refl _ w).alloc (Nat.le_refl _) o).trans (h1.mono (by omega)), by rw [List.foldl_cons, h2, List.length_cons]; omega⟩

theorem allocs_at : ∀ (l : List Obj) (w : World) (i : Nat) (o : Obj), l[i]? = some o → (l.foldl World.alloc w).heap[w.heap.size + i]? = some o
  | [], _, _, _, h => by simp at h
  | p :: l, w, 0, o, h => by
    obtain ⟨h1, -⟩ := allocs_below l (w.alloc p)
    rw [World.size_alloc] at h1
    simp only [List.getElem?_cons_zero, Option.some.injEq] at h
    subst h
    exact (h1.block w.heap.size (by omega)).trans (heap_alloc_new w p)
  | p :: l, w, i + 1, o, h => by
    have := allocs_at l (w.alloc p) i o (by simpa using h)
    rw [World.size_alloc] at this
    rw [List.foldl_cons, show w.heap.size + (i + 1) = w.heap.size + 1 + i by omega]
    exact this

/-- The search, d plies deep. -/
def BsOk (g : Wp) (d : Nat) : Prop := ∀ (Z : List Int) (m s : Nat) (w : World), (m = 1 ∨ m = 2) → s + d ≤ 6 → WS g w Z →
  Calls Tryd.prog 38 #[.pointer (some ⟨g.wb, 0, none⟩), .int .i64 (m : Nat), .int .i64 (s : Nat), .int .i64 ((s + d : Nat) : Int)] w fun e w' => e = .returned (.tuple #[.int .i64 (bvl g.W g.H g.k d s Z m).1, .int .i64 (bvl g.W g.H g.k d s Z m).2]) ∧ Below w.heap.size w w'

attribute [local irreducible] drK inR fallN bvl stp1
attribute [local go_sem] Oper.semAt_some wide_fn wide_fn0 wide_depth

set_option maxRecDepth 100000 in
set_option maxHeartbeats 2000000 in
theorem bs_zero (g : Wp) : BsOk g 0 := by
  intro Z m s w _ hs _
  rw [bvl_zero, Nat.add_zero]
  have hs6 : s ≤ 6 := by omega
  go_enter Tryd.func38, Tryd.ntmps38
  go_upto_region 3 with fail
  go_region
  go_wp2_with fail
  have hA := allocs_at [.cells #[.pointer (some ⟨g.wb, 0, none⟩)] 50, .cells #[.int .i64 (m : Int)] 3, .cells #[.int .i64 (s : Int)] 3, .cells #[.int .i64 (s : Int)] 3, .cells #[.int .i64 0] 3, .cells #[.int .i64 (-1)] 3, .cells #[.int .i64 0] 3, .cells #[.int .i64 (-1)] 3] w
  have hB := (allocs_below [.cells #[.pointer (some ⟨g.wb, 0, none⟩)] 50, .cells #[.int .i64 (m : Int)] 3, .cells #[.int .i64 (s : Int)] 3, .cells #[.int .i64 (s : Int)] 3, .cells #[.int .i64 0] 3, .cells #[.int .i64 (-1)] 3, .cells #[.int .i64 0] 3, .cells #[.int .i64 (-1)] 3] w).1
  refine bodyPost_ret (results_two rfl _ _ ⟨w.heap.size + 4, 0, none⟩ ⟨w.heap.size + 5, 0, none⟩ rfl rfl (u := 0) (v := -1) ?_ ?_) rfl ⟨rfl, hB.drew⟩
  · exact Blk.cell (L := [0]) (t := 3) (hA 4 _ rfl) (i := 0) (by simp)
  · exact Blk.cell (L := [-1]) (t := 3) (hA 5 _ rfl) (i := 0) (by simp)

set_option maxRecDepth 100000 in
set_option maxHeartbeats 4000000 in
theorem bs_succ (g : Wp) (hg : g.Ok) (d : Nat) (ih : BsOk g d) : BsOk g (d + 1) := by
  intro Z m s w hm hs h
  obtain ⟨hwb, hcb⟩ := h.lt
  have HSEQ := hide (fun bw bm h1 h2 ob => drops1_seq g hg bw bm m h1 h2 Z ob)
  have HIH := hide (fun p W1 (hW : WS g W1 (Z.set p (m : Int))) => ih (Z.set p (m : Int)) (3 - m) (s + 1) W1 (by omega) (by omega) hW)
  have HVB := hide (fun p => bvl_bd g.W g.H g.k hg.w.2 d (s + 1) (Z.set p (m : Int)) (3 - m) (by omega))
  have HFST := hide (fun x (hx : x ∈ drK g.W g.H Z g.W) => drK_fst hx)
  have HHIT := hide (fun pre x rest h1 h2 h3 => bvl_hit (W := g.W) (H := g.H) (k := g.k) (d := d) (s := s) (m := m) (Z := Z) (pre := pre) (x := x) (rest := rest) h1 h2 h3)
  have HALL := hide (bvl_all (W := g.W) (H := g.H) (k := g.k) (d := d) (s := s) (m := m) (Z := Z))
  obtain ⟨R, hR⟩ : ∃ R, bvl g.W g.H g.k (d + 1) s Z m = R := ⟨_, rfl⟩
  rw [hR] at HALL ⊢
  have HHIT2 : Hid (∀ pre x rest, drK g.W g.H Z g.W = pre ++ x :: rest → (∀ y, y ∈ pre → inR g.W g.H (Z.set y.2 (m : Int)) y.2 g.k = false) → inR g.W g.H (Z.set x.2 (m : Int)) x.2 g.k = true → R = (100 - ((s + 1 : Nat) : Int), (x.1 : Int))) := hide (fun pre x rest h1 h2 h3 => by rw [← hR]; exact HHIT.out pre x rest h1 h2 h3)
  obtain ⟨DL, hD⟩ : ∃ DL, drK g.W g.H Z g.W = DL := ⟨_, rfl⟩
  rw [hD] at HSEQ HFST HHIT2 HALL
  obtain ⟨V, hV⟩ : ∃ V : Nat × Nat → Int, (fun x : Nat × Nat => -(bvl g.W g.H g.k d (s + 1) (Z.set x.2 (m : Int)) (3 - m)).1) = V := ⟨_, rfl⟩
  rw [hV] at HALL
  have HV : Hid (∀ x, -(bvl g.W g.H g.k d (s + 1) (Z.set x.2 (m : Int)) (3 - m)).1 = V x) := hide (fun x => by rw [← hV])
  have HVB2 : Hid (∀ x, -100 ≤ V x ∧ V x ≤ 100) := hide (fun x => by rw [← HV.out]; have := (HVB.out x.2).1; omega)
  have hW10 := hg.w.2
  have HG := hide hg
  have HW0 := hide h
  have c0 := hg.c0
  obtain ⟨S1, hS1⟩ : ∃ S1, s + 1 = S1 := ⟨_, rfl⟩
  obtain ⟨D, hDp⟩ : ∃ D, s + (d + 1) = D := ⟨_, rfl⟩
  have hD2 : S1 + d = D := by omega
  have hne : ((s : Int) == (D : Int)) = false := by simp; omega
  have hsS : (s : Int) + 1 = (S1 : Int) := by omega
  have hSb : S1 ≤ 6 := by omega
  rw [hS1] at HIH HHIT2 HV
  rw [hD2] at HIH
  rw [hDp]
  clear hR hD hV ih h hg HHIT HVB hDp hS1 hs
  refine (callsIn_wide (n := 3)).1 ?_
  refine callsIn_of_wp_marks Tryd.func38 rfl trivial ?_ rfl
  simp only [Tryd.ntmps38, List.size_toArray, List.length_cons, List.length_nil, Nat.reduceAdd, Nat.reduceSub, Array.replicate_succ, Array.replicate_zero, List.push_toArray, List.append_toArray, List.nil_append, List.cons_append]
  refine wpIn_wide.2 ?_
  go_upto_region 5 with fail
  have hA := allocs_at [.cells #[.pointer (some ⟨g.wb, 0, none⟩)] 50, .cells #[.int .i64 (m : Int)] 3, .cells #[.int .i64 (S1 : Int)] 3, .cells #[.int .i64 (D : Int)] 3, .cells #[.int .i64 0] 3, .cells #[.int .i64 0] 3, .cells #[.int .i64 0] 3, .cells #[.int .i64 (-1)] 3] w
  obtain ⟨B1, hs1⟩ := allocs_below [.cells #[.pointer (some ⟨g.wb, 0, none⟩)] 50, .cells #[.int .i64 (m : Int)] 3, .cells #[.int .i64 (S1 : Int)] 3, .cells #[.int .i64 (D : Int)] 3, .cells #[.int .i64 0] 3, .cells #[.int .i64 0] 3, .cells #[.int .i64 0] 3, .cells #[.int .i64 (-1)] 3] w
  simp only [List.foldl_cons, List.foldl_nil, List.length_cons, List.length_nil, Nat.zero_add, Nat.reduceAdd] at hA B1 hs1
  simp only [Nat.add_assoc, Nat.reduceAdd]
  obtain ⟨w1, hw1⟩ : ∃ w1, (((((((w.alloc (Obj.cells #[.pointer (some ⟨g.wb, 0, none⟩)] 50)).alloc (Obj.cells #[.int .i64 (m : Int)] 3)).alloc (Obj.cells #[.int .i64 (S1 : Int)] 3)).alloc (Obj.cells #[.int .i64 (D : Int)] 3)).alloc (Obj.cells #[.int .i64 0] 3)).alloc (Obj.cells #[.int .i64 0] 3)).alloc (Obj.cells #[.int .i64 0] 3)).alloc (Obj.cells #[.int .i64 (-1)] 3) = w1 := ⟨_, rfl⟩
  rw [hw1] at hA B1 hs1 ⊢
  clear hw1
  obtain ⟨s0, hs0⟩ : ∃ s0, w.heap.size = s0 := ⟨_, rfl⟩
  rw [hs0] at hA B1 hs1 hwb hcb ⊢
  have q0 : w1.cell? ⟨s0, 0, none⟩ = some (.pointer (some ⟨g.wb, 0, none⟩)) := by
    have := hA 0 _ rfl
    rw [Nat.add_zero] at this
    unfold World.cell?
    simp only [this]
    rfl
  have q1 : w1.cell? ⟨s0 + 1, 0, none⟩ = some (.int .i64 (m : Int)) := Blk.cell (L := [(m : Int)]) (t := 3) (hA 1 _ rfl) (i := 0) (by simp)
  have q2 : w1.cell? ⟨s0 + 2, 0, none⟩ = some (.int .i64 (S1 : Int)) := Blk.cell (L := [(S1 : Int)]) (t := 3) (hA 2 _ rfl) (i := 0) (by simp)
  have q3 : w1.cell? ⟨s0 + 3, 0, none⟩ = some (.int .i64 (D : Int)) := Blk.cell (L := [(D : Int)]) (t := 3) (hA 3 _ rfl) (i := 0) (by simp)
  have q4 : Blk w1 (s0 + 4) 3 [0] := hA 4 _ rfl
  have q5 : Blk w1 (s0 + 5) 3 [0] := hA 5 _ rfl
  have q6 : Blk w1 (s0 + 6) 3 [0] := hA 6 _ rfl
  have q7 : Blk w1 (s0 + 7) 3 [-1] := hA 7 _ rfl
  clear hA
  go_wp2_with fail
  refine (drops_any (.pointer (some ⟨g.wb, 0, none⟩)) rfl m w1 ⟨_, rfl⟩).mono ?_
  rintro e w2 ⟨rfl, cw2, cm2, hB2, hS2⟩
  rw [hs1] at cw2 cm2 hB2 hS2
  have r0 := (hB2.cell (p := ⟨s0, 0, none⟩) (by show s0 < _; omega)).trans q0
  have r1 := (hB2.cell (p := ⟨s0 + 1, 0, none⟩) (by show s0 + 1 < _; omega)).trans q1
  have r2 := (hB2.cell (p := ⟨s0 + 2, 0, none⟩) (by show s0 + 2 < _; omega)).trans q2
  have r3 := (hB2.cell (p := ⟨s0 + 3, 0, none⟩) (by show s0 + 3 < _; omega)).trans q3
  have r4 := q4.below hB2 (by omega)
  have r5 := q5.below hB2 (by omega)
  have r6 := q6.below hB2 (by omega)
  have r7 := q7.below hB2 (by omega)
  have B2 := B1.trans (hB2.mono (by omega))
  have W2 : WS g w2 Z := HW0.out.grow (by rw [hs0]; exact B2)
  clear q0 q1 q2 q3 q4 q5 q6 q7 B1 hB2
  rw [hs1]
  clear hs1
  simp only [Nat.add_assoc, Nat.reduceAdd] at cw2 cm2 hS2 ⊢
  go_wp2_with fail
  refine (wpIn_wide (n := 1)).1 (wp_range_st (gf := 49) (lb := #[.pointer (some ⟨s0 + 8, 0, none⟩), .pointer (some ⟨s0 + 9, 0, none⟩)]) (by simp [Act.eval]) (enters_of Tryd.func49 (by kernel_rfl) rfl)
    (HSEQ.out (s0 + 8) (s0 + 9) (by omega) (by omega) (w2.heap[g.cb]?)) ?hT ?hY ?hRk ⟨⟨W2, cw2, cm2⟩, rfl⟩ (fun k => s0 + 4 ≤ k ∧ k ≤ s0 + 7) ?hX ?hps
    (fun pre W => Blk W (s0 + 4) 3 [0] ∧ Blk W (s0 + 5) 3 [0] ∧ Blk W (s0 + 6) 3 [(pre.foldl (stp1 V) (0, -1)).1] ∧ Blk W (s0 + 7) 3 [(pre.foldl (stp1 V) (0, -1)).2] ∧ (∀ y, y ∈ pre → inR g.W g.H (Z.set y.2 (m : Int)) y.2 g.k = false) ∧ Keeps (fun k => k = g.cb ∨ (s0 + 4 ≤ k ∧ k ≤ s0 + 7)) w2 W)
    (fun W => Blk W (s0 + 4) 3 [R.1] ∧ Blk W (s0 + 5) 3 [R.2] ∧ Keeps (fun k => k = g.cb ∨ (s0 + 4 ≤ k ∧ k ≤ s0 + 7)) w2 W) ?hI ?hIx ⟨r4, r5, r6, r7, (fun y hy => by cases hy), Keeps.refl _ _⟩ ?round ?done ?stop)
  case hT =>
    rintro k (rfl | rfl | rfl | rfl | rfl) <;> omega
  case hY =>
    rintro k rfl
    omega
  case hRk =>
    rintro A B ⟨hA, hA2⟩ hk
    exact ⟨hA.keeps hk (fun _ h => h), (hk.block _ hA.s.lt.2 (fun e => e (Or.inr (Or.inl rfl)))).trans hA2⟩
  case hX =>
    rintro k ⟨h1, h2⟩
    refine ⟨by omega, ?_⟩
    rintro (e | e | e | e | e) <;> omega
  case hps =>
    rintro x args W ⟨rfl, _⟩
    rfl
  case hI =>
    rintro pre A B ⟨k4, k5, k6, k7, k8, k9⟩ hk
    refine ⟨k4.keeps hk (by omega), k5.keeps hk (by omega), k6.keeps hk (by omega), k7.keeps hk (by omega), k8, ?_⟩
    exact ⟨hk.os.trans k9.os, hk.tape.trans k9.tape, hk.output.trans k9.output, Nat.le_trans k9.size hk.size, fun i hi hx => (hk.block i (Nat.lt_of_lt_of_le hi k9.size) (fun e => Or.elim e (fun e => hx (Or.inl e)) (fun e => by omega))).trans (k9.block i hi hx)⟩
  case hIx =>
    rintro A B ⟨k4, k5, k9⟩ hk
    refine ⟨k4.keeps hk (by omega), k5.keeps hk (by omega), ?_⟩
    exact ⟨hk.os.trans k9.os, hk.tape.trans k9.tape, hk.output.trans k9.output, Nat.le_trans k9.size hk.size, fun i hi hx => (hk.block i (Nat.lt_of_lt_of_le hi k9.size) (fun e => Or.elim e (fun e => hx (Or.inl e)) (fun e => by omega))).trans (k9.block i hi hx)⟩
  case round =>
    rintro l2 pre x args W hl2 ⟨rec, hrec⟩ ⟨k4, k5, k6, k7, k8, k9⟩ hpre ⟨rfl, hWx⟩
    have hlt2 : l2 < W.heap.size := (Array.getElem?_eq_some_iff.1 hrec).1
    have hFB := stp1_bd HVB2.out pre (0, -1) (by simp) (by simp) (fun y hy => by have := HFST.out y (hpre.subset (by simp [hy])); omega)
    have hxc := HFST.out x (hpre.subset (by simp))
    have HSM : Hid ((pre ++ [x]).foldl (stp1 V) (0, -1) = stp1 V (pre.foldl (stp1 V) (0, -1)) x) := hide (by rw [List.foldl_append]; rfl)
    have HPRE := hide hpre
    have HVX := hide (HV.out x)
    have hVX := HVB2.out x
    obtain ⟨F, hF⟩ : ∃ F, pre.foldl (stp1 V) (0, -1) = F := ⟨_, rfl⟩
    rw [hF] at k6 k7 hFB HSM
    obtain ⟨cx, px⟩ := x
    dsimp only at hWx HVX hxc ⊢
    obtain ⟨Fv, Fc⟩ := F
    dsimp only at k6 k7 hFB
    obtain ⟨VX, hVXe⟩ : ∃ VX, V (cx, px) = VX := ⟨_, rfl⟩
    rw [hVXe] at hVX HVX
    have HVXe := hide hVXe
    have HCALL := hide (HIH.out px)
    obtain ⟨⟨Vv, Vc⟩, hVV⟩ : ∃ P, bvl g.W g.H g.k d S1 (Z.set px (m : Int)) (3 - m) = P := ⟨_, rfl⟩
    rw [hVV] at HCALL HVX
    dsimp only at HCALL HVX
    have HK4 := hide k4
    have HK5 := hide k5
    have HK6 := hide k6
    have HK7 := hide k7
    have HK8 := hide k8
    have HK9 := hide k9
    have HWX := hide hWx
    clear k4 k5 k6 k7 k8 k9 hWx hrec hF hpre hVV hVXe
    gi_wp2
    refine ⟨Keeps.refl _ _, ?_⟩
    intro W3 hk3
    have z4 := HK4.out.keeps hk3 (by omega)
    have z5 := HK5.out.keeps hk3 (by omega)
    have z6 := HK6.out.keeps hk3 (by omega)
    have z7 := HK7.out.keeps hk3 (by omega)
    have k0 : ∀ b, b < s0 + 4 → b ≠ g.cb → W3.heap[b]? = w2.heap[b]? := fun b hb hne => (hk3.block b (by have := HK9.out.size; omega) (by omega)).trans (HK9.out.block b (by omega) (by omega))
    have b0 : W3.cell? ⟨s0, 0, none⟩ = some (.pointer (some ⟨g.wb, 0, none⟩)) := (World.cell?_of_block (w := w2) (k0 s0 (by omega) (by omega))).trans r0
    have b1 : W3.cell? ⟨s0 + 1, 0, none⟩ = some (.int .i64 (m : Int)) := (World.cell?_of_block (w := w2) (k0 (s0 + 1) (by omega) (by omega))).trans r1
    have b2 : W3.cell? ⟨s0 + 2, 0, none⟩ = some (.int .i64 (S1 : Int)) := (World.cell?_of_block (w := w2) (k0 (s0 + 2) (by omega) (by omega))).trans r2
    have b3 : W3.cell? ⟨s0 + 3, 0, none⟩ = some (.int .i64 (D : Int)) := (World.cell?_of_block (w := w2) (k0 (s0 + 3) (by omega) (by omega))).trans r3
    have HW3 : Hid (WS g W3 (Z.set px (m : Int))) := hide (HWX.out.keeps hk3 (by omega) (by omega) (by omega))
    have HKK : Hid (Keeps (fun k => k = g.cb ∨ (s0 + 4 ≤ k ∧ k ≤ s0 + 7)) w2 W3) := hide ⟨hk3.os.trans HK9.out.os, hk3.tape.trans HK9.out.tape, hk3.output.trans HK9.out.output, Nat.le_trans HK9.out.size hk3.size, fun i hi hx => (hk3.block i (Nat.lt_of_lt_of_le hi HK9.out.size) (by omega)).trans (HK9.out.block i hi hx)⟩
    have Z4 := hide z4
    have Z5 := hide z5
    have Z6 := hide z6
    have Z7 := hide z7
    clear k0 hk3 HK4 HK5 HK6 HK7 HK9 HWX r0 r1 r2 r3 r4 r5 r6 r7 cw2 cm2 W2 B2 z4 z5 z6 z7
    cases hin : inR g.W g.H (Z.set px (m : Int)) px g.k with
    | true =>
      have HR : Hid (R = (100 - (S1 : Int), (cx : Int))) := hide (by
        obtain ⟨rest, hr⟩ := HPRE.out
        exact HHIT2.out pre (cx, px) rest (by rw [← hr]; simp) HK8.out hin)
      clear hin
      have y4 := Z4.out.cell (i := 0) (by simp)
      have f4 := Z4.out.frozen 0
      have y5 := Z5.out.cell (i := 0) (by simp)
      have f5 := Z5.out.frozen 0
      simp only [List.getD, List.getElem?_cons_zero, Option.getD_some] at y4 y5
      gi_wp2
      have e1 := Z4.out.set 0 (100 - (S1 : Int))
      have e2 := (e1.other (show s0 + 4 ≠ s0 + 5 by omega) 0 (.int .i64 (cx : Int)))
      have e3 := (Z5.out.other (show s0 + 5 ≠ s0 + 4 by omega) 0 (.int .i64 (100 - (S1 : Int)))).set 0 (cx : Int)
      have kk : Keeps (fun k => s0 + 4 ≤ k ∧ k ≤ s0 + 7) W3 ((W3.setCell ⟨s0 + 4, 0, none⟩ (.int .i64 (100 - (S1 : Int)))).setCell ⟨s0 + 5, 0, none⟩ (.int .i64 (cx : Int))) := ((Keeps.refl _ W3).setCell (p := ⟨s0 + 4, 0, none⟩) (X := fun k => s0 + 4 ≤ k ∧ k ≤ s0 + 7) (by show s0 + 4 ≤ s0 + 4 ∧ s0 + 4 ≤ s0 + 7; omega) _).setCell (p := ⟨s0 + 5, 0, none⟩) (X := fun k => s0 + 4 ≤ k ∧ k ≤ s0 + 7) (by show s0 + 4 ≤ s0 + 5 ∧ s0 + 5 ≤ s0 + 7; omega) _
      refine ⟨kk, ?_, ?_, HKK.out.trans (kk.mono (fun _ _ e => Or.inr e))⟩
      · rw [HR.out]; exact e2
      · rw [HR.out]; exact e3
    | false =>
      have HK8' : Hid (∀ y, y ∈ pre ++ [(cx, px)] → inR g.W g.H (Z.set y.2 (m : Int)) y.2 g.k = false) := hide (fun y hy => by
        rcases List.mem_append.1 hy with hy | hy
        · exact HK8.out y hy
        · rw [List.mem_singleton.1 hy]; exact hin)
      clear hin HK8
      have hm3 : m ≤ 3 := by omega
      have hVv : -Vv = VX := HVX.out
      gi_wp2_with fail
      have SF : Hid (∀ W4, Below W3.heap.size W3 W4 → W4.cell? ⟨s0, 0, none⟩ = some (.pointer (some ⟨g.wb, 0, none⟩)) ∧ W4.cell? ⟨s0 + 1, 0, none⟩ = some (.int .i64 (m : Int)) ∧ W4.cell? ⟨s0 + 2, 0, none⟩ = some (.int .i64 (S1 : Int)) ∧ W4.cell? ⟨s0 + 3, 0, none⟩ = some (.int .i64 (D : Int))) := hide (fun W4 hb => ⟨(hb.cell (p := ⟨s0, 0, none⟩) (World.block_lt_of_cell? W3 _ b0)).trans b0, (hb.cell (p := ⟨s0 + 1, 0, none⟩) (World.block_lt_of_cell? W3 _ b1)).trans b1, (hb.cell (p := ⟨s0 + 2, 0, none⟩) (World.block_lt_of_cell? W3 _ b2)).trans b2, (hb.cell (p := ⟨s0 + 3, 0, none⟩) (World.block_lt_of_cell? W3 _ b3)).trans b3⟩)
      clear b0 b1 b2 b3
      refine wp_region_round (S := fun W4 => W4.cell? ⟨s0, 0, none⟩ = some (.pointer (some ⟨g.wb, 0, none⟩)) ∧ W4.cell? ⟨s0 + 1, 0, none⟩ = some (.int .i64 (m : Int)) ∧ W4.cell? ⟨s0 + 2, 0, none⟩ = some (.int .i64 (S1 : Int)) ∧ W4.cell? ⟨s0 + 3, 0, none⟩ = some (.int .i64 (D : Int))) (by kernel_rfl) (by kernel_rfl) (by rintro ⟨_, _, h⟩; exact h) ?_
      have SW := SF.out W3.drew (Below.refl _ W3).drew
      refine wpAnyH_take (i := 0) (v := .pointer (some ⟨g.wb, 0, none⟩)) rfl (by kernel_rfl) (by kernel_rfl) (by kernel_rfl) (fun _ _ _ h => h) (Or.inl ⟨by rfl, ?_⟩) SW ?_
      · intro W4 hW4
        obtain ⟨x0, x1, x2, x3⟩ := hW4
        go_simp <;> first | done | rfl | (rw [IntKind.wrap_i64]; omega) | omega
      go_simp
      refine wpAnyH_take (i := 1) (v := .int .i64 (m : Nat)) rfl (by kernel_rfl) (by kernel_rfl) (by kernel_rfl) (fun _ _ _ h => h) (Or.inl ⟨by rfl, ?_⟩) SW ?_
      · intro W4 hW4
        obtain ⟨x0, x1, x2, x3⟩ := hW4
        go_simp <;> first | done | rfl | (rw [IntKind.wrap_i64]; omega) | omega
      go_simp
      refine wpAnyH_take (i := 3) (v := .int .i64 (S1 : Nat)) rfl (by kernel_rfl) (by kernel_rfl) (by kernel_rfl) (fun _ _ _ h => h) (Or.inl ⟨by rfl, ?_⟩) SW ?_
      · intro W4 hW4
        obtain ⟨x0, x1, x2, x3⟩ := hW4
        go_simp <;> first | done | rfl | (rw [IntKind.wrap_i64]; omega) | omega
      go_simp
      refine wpAnyH_take (i := 4) (v := .int .i64 (D : Nat)) rfl (by kernel_rfl) (by kernel_rfl) (by kernel_rfl) (fun _ _ _ h => h) (Or.inl ⟨by rfl, ?_⟩) SW ?_
      · intro W4 hW4
        obtain ⟨x0, x1, x2, x3⟩ := hW4
        go_simp <;> first | done | rfl | (rw [IntKind.wrap_i64]; omega) | omega
      go_simp
      refine wpAnyH_ready (rs := [2]) (by kernel_rfl) (by simp) ?_
      refine AllReadyH.cons rfl (fun K1 hK1 => ?_) AllReadyH.nil
      go_simp
      refine (theOther_any m hm3 _).mono ?_
      rintro e w5 ⟨rfl, hw5⟩
      subst w5
      refine hK1.out _ _ SW (fun SW => ?_)
      clear hK1 K1
      go_simp
      refine wpAnyH_ready (rs := [5]) (by kernel_rfl) (by simp) ?_
      refine AllReadyH.cons rfl (fun K1 hK1 => ?_) AllReadyH.nil
      go_simp
      refine (HCALL.out _ (HW3.out.grow (Below.refl _ _).drew)).mono ?_
      rintro e w6 ⟨rfl, hb6⟩
      have B6 : Below W3.heap.size W3 w6 := (Below.refl _ _).drew.trans hb6
      refine hK1.out _ _ (SF.out w6 B6) (fun SW => ?_)
      clear hK1 K1 hb6
      go_simp
      refine wpAnyH_take (i := 6) (v := .tuple #[.int .i64 Vv, .int .i64 Vc]) rfl (by kernel_rfl) (by kernel_rfl) (by kernel_rfl) (fun _ _ _ h => h) (Or.inl ⟨by rfl, ?_⟩) SW ?_
      · intro W4 hW4
        go_simp <;> first | done | rfl | (rw [IntKind.wrap_i64]; omega) | omega
      go_simp
      refine wpAnyH_take (i := 7) (v := .int .i64 Vv) rfl (by kernel_rfl) (by kernel_rfl) (by kernel_rfl) (fun _ _ _ h => h) (Or.inl ⟨by rfl, ?_⟩) SW ?_
      · intro W4 hW4
        go_simp <;> first | done | rfl | (rw [IntKind.wrap_i64]; omega) | omega
      go_simp
      refine wpAnyH_take (i := 8) (v := .int .i64 Vc) rfl (by kernel_rfl) (by kernel_rfl) (by kernel_rfl) (fun _ _ _ h => h) (Or.inl ⟨by rfl, ?_⟩) SW ?_
      · intro W4 hW4
        go_simp <;> first | done | rfl | (rw [IntKind.wrap_i64]; omega) | omega
      go_simp
      refine wpAnyH_take (i := 9) (v := .int .i64 Vv) rfl (by kernel_rfl) (by kernel_rfl) (by kernel_rfl) (fun _ _ _ h => h) (Or.inl ⟨by rfl, ?_⟩) SW ?_
      · intro W4 hW4
        go_simp <;> first | done | rfl | (rw [IntKind.wrap_i64]; omega) | omega
      go_simp
      refine wpAnyH_take (i := 10) (v := .int .i64 Vc) rfl (by kernel_rfl) (by kernel_rfl) (by kernel_rfl) (fun _ _ _ h => h) (Or.inl ⟨by rfl, ?_⟩) SW ?_
      · intro W4 hW4
        go_simp <;> first | done | rfl | (rw [IntKind.wrap_i64]; omega) | omega
      go_simp
      refine wpAnyH_done (by kernel_rfl) ?_ _
      have A6 := hide (Z6.out.below B6 Z6.out.lt)
      have A7 := hide (Z7.out.below B6 Z7.out.lt)
      have A4 := hide (Z4.out.below B6 Z4.out.lt)
      have A5 := hide (Z5.out.below B6 Z5.out.lt)
      have HB6 := hide B6
      have y6 := A6.out.cell (i := 0) (by simp)
      have f6 := A6.out.frozen 0
      have y7 := A7.out.cell (i := 0) (by simp)
      have f7 := A7.out.frozen 0
      simp only [List.getD, List.getElem?_cons_zero, Option.getD_some] at y6 y7
      clear SW B6
      by_cases hup : Fc = -1 ∨ Fv < VX
      · have HST : Hid (stp1 V (Fv, Fc) (cx, px) = (VX, (cx : Int))) := hide (by unfold stp1; rw [HVXe.out, if_pos hup])
        have hgo : ((Fc == -1) = true) ∨ ((Fc == -1) = false ∧ Fv < VX) := by
          by_cases e : Fc = -1
          · exact Or.inl (by simpa using e)
          · exact Or.inr ⟨by simpa using e, by omega⟩
        clear hup
        have FIN : ∀ Q6, w6 = Q6 → Keeps (fun k => s0 + 4 ≤ k ∧ k ≤ s0 + 7) W3 ((Q6.setCell ⟨s0 + 6, 0, none⟩ (.int .i64 VX)).setCell ⟨s0 + 7, 0, none⟩ (.int .i64 (cx : Int))) ∧ Blk ((Q6.setCell ⟨s0 + 6, 0, none⟩ (.int .i64 VX)).setCell ⟨s0 + 7, 0, none⟩ (.int .i64 (cx : Int))) (s0 + 4) 3 [0] ∧ Blk ((Q6.setCell ⟨s0 + 6, 0, none⟩ (.int .i64 VX)).setCell ⟨s0 + 7, 0, none⟩ (.int .i64 (cx : Int))) (s0 + 5) 3 [0] ∧ Blk ((Q6.setCell ⟨s0 + 6, 0, none⟩ (.int .i64 VX)).setCell ⟨s0 + 7, 0, none⟩ (.int .i64 (cx : Int))) (s0 + 6) 3 [VX] ∧ Blk ((Q6.setCell ⟨s0 + 6, 0, none⟩ (.int .i64 VX)).setCell ⟨s0 + 7, 0, none⟩ (.int .i64 (cx : Int))) (s0 + 7) 3 [(cx : Int)] := by
          rintro Q6 rfl
          refine ⟨((Keeps.of_all HB6.out).setCell (p := ⟨s0 + 6, 0, none⟩) (X := fun k => s0 + 4 ≤ k ∧ k ≤ s0 + 7) (by show s0 + 4 ≤ s0 + 6 ∧ s0 + 6 ≤ s0 + 7; omega) _).setCell (p := ⟨s0 + 7, 0, none⟩) (X := fun k => s0 + 4 ≤ k ∧ k ≤ s0 + 7) (by show s0 + 4 ≤ s0 + 7 ∧ s0 + 7 ≤ s0 + 7; omega) _, ?_, ?_, ?_, ?_⟩
          · exact (A4.out.other (by omega) 0 _).other (by omega) 0 _
          · exact (A5.out.other (by omega) 0 _).other (by omega) 0 _
          · exact (A6.out.set 0 VX).other (by omega) 0 _
          · exact (A7.out.other (by omega) 0 _).set 0 (cx : Int)
        have HFIN := hide (FIN w6 rfl)
        clear FIN
        rcases hgo with h1 | ⟨h1, h2⟩
        · gi_wp2_with fail
          obtain ⟨u1, u2, u3, u4, u5⟩ := HFIN.out
          exact ⟨u1, u2, u3, by rw [HSM.out, HST.out]; exact u4, by rw [HSM.out, HST.out]; exact u5, (by first | exact HK8'.out | exact fun a b h => HK8'.out (a, b) h), HKK.out.trans (u1.mono (fun _ _ e => Or.inr e))⟩
        · gi_wp2_with fail
          obtain ⟨u1, u2, u3, u4, u5⟩ := HFIN.out
          exact ⟨u1, u2, u3, by rw [HSM.out, HST.out]; exact u4, by rw [HSM.out, HST.out]; exact u5, (by first | exact HK8'.out | exact fun a b h => HK8'.out (a, b) h), HKK.out.trans (u1.mono (fun _ _ e => Or.inr e))⟩
      · have HST : Hid (stp1 V (Fv, Fc) (cx, px) = (Fv, Fc)) := hide (by unfold stp1; rw [HVXe.out, if_neg hup])
        have h1 : (Fc == -1) = false := by simpa using fun e : Fc = -1 => hup (Or.inl e)
        have h2 : ¬ Fv < VX := fun e => hup (Or.inr e)
        clear hup
        gi_wp2_with fail
        refine ⟨Keeps.of_all HB6.out, A4.out, A5.out, ?_, ?_, (by first | exact HK8'.out | exact fun a b h => HK8'.out (a, b) h), HKK.out.trans (Keeps.of_all HB6.out)⟩
        · rw [HSM.out, HST.out]; exact A6.out
        · rw [HSM.out, HST.out]; exact A7.out
  case done =>
    rintro D2 W hD2 ⟨k4, k5, k6, k7, k8, k9⟩ ⟨hRW, hob⟩ hDD
    have HR := HALL.out (fun y hy => k8 y hy)
    rw [← HR] at k6 k7
    obtain ⟨Rv, Rc⟩ := R
    dsimp only at k6 k7 ⊢
    have HK9 := hide k9
    have HOB := hide hob
    have K4 := hide k4
    have K5 := hide k5
    have y4 := k4.cell (i := 0) (by simp)
    have f4 := k4.frozen 0
    have y5 := k5.cell (i := 0) (by simp)
    have f5 := k5.frozen 0
    have y6 := k6.cell (i := 0) (by simp)
    have y7 := k7.cell (i := 0) (by simp)
    simp only [List.getD, List.getElem?_cons_zero, Option.getD_some] at y4 y5 y6 y7
    clear k4 k5 k6 k7 k8 k9 hob hRW HR HALL HHIT2 r0 r1 r2 r3 r4 r5 r6 r7 cw2 cm2 W2
    gi_wp2
    go_upto_region 13 with fail
    go_region
    go_wp2_with fail
    have kx : Keeps (fun k => k = s0 + 4 ∨ k = s0 + 5) W ((W.setCell ⟨s0 + 4, 0, none⟩ (.int .i64 Rv)).setCell ⟨s0 + 5, 0, none⟩ (.int .i64 Rc)).drew := (((Keeps.refl _ W).setCell (p := ⟨s0 + 4, 0, none⟩) (X := fun k => k = s0 + 4 ∨ k = s0 + 5) (Or.inl rfl) _).setCell (p := ⟨s0 + 5, 0, none⟩) (X := fun k => k = s0 + 4 ∨ k = s0 + 5) (Or.inr rfl) _).drew
    have m4 : Blk ((W.setCell ⟨s0 + 4, 0, none⟩ (.int .i64 Rv)).setCell ⟨s0 + 5, 0, none⟩ (.int .i64 Rc)).drew (s0 + 4) 3 [Rv] := (K4.out.set 0 Rv).other (by omega) 0 _
    have m5 : Blk ((W.setCell ⟨s0 + 4, 0, none⟩ (.int .i64 Rv)).setCell ⟨s0 + 5, 0, none⟩ (.int .i64 Rc)).drew (s0 + 5) 3 [Rc] := (K5.out.other (by omega) 0 _).set 0 Rc
    have hD5 := (kx.block D2 (Array.getElem?_eq_some_iff.1 hDD).1 (by omega)).trans hDD
    generalize ((W.setCell ⟨s0 + 4, 0, none⟩ (.int .i64 Rv)).setCell ⟨s0 + 5, 0, none⟩ (.int .i64 Rc)).drew = W5 at *
    refine ⟨by simp, .inl ⟨_, _, rfl, run_takeDeferred hD5, ?_⟩⟩
    have kp := Keeps.put (X := fun k => k = D2) (Keeps.refl _ W5) (l := D2) rfl (Obj.deferred none)
    have n4 := m4.keeps kp (by omega)
    have n5 := m5.keeps kp (by omega)
    have HB : Below s0 w W5 := B2.trans ⟨kx.os.trans HK9.out.os, kx.tape.trans HK9.out.tape, kx.output.trans HK9.out.output, Nat.le_trans HK9.out.size kx.size, fun i hi => by
      refine (kx.block i (by have := HK9.out.size; omega) (by omega)).trans ?_
      by_cases e : i = g.cb
      · subst e; exact HOB.out
      · exact HK9.out.block i (by omega) (by omega)⟩
    refine ⟨_, results_two rfl _ _ ⟨s0 + 4, 0, none⟩ ⟨s0 + 5, 0, none⟩ rfl rfl (u := Rv) (v := Rc) (n4.cell (i := 0) (by simp)) (n5.cell (i := 0) (by simp)), rfl, ?_⟩
    exact HB.trans ((kp.mono (Y := fun k => s0 ≤ k) (fun k _ e => by omega)).below (by have := HB.size; omega) (fun k hk e => by omega))
  case stop =>
    rintro D2 W hD2 ⟨k4, k5, k9⟩ ⟨hRW, hob⟩ hDD
    obtain ⟨Rv, Rc⟩ := R
    dsimp only at k4 k5 ⊢
    have HK9 := hide k9
    have HOB := hide hob
    have K4 := hide k4
    have K5 := hide k5
    clear k4 k5 k9 hob hRW HALL HHIT2 r0 r1 r2 r3 r4 r5 r6 r7 cw2 cm2 W2
    gi_wp2
    go_wp2
    refine ⟨by simp, .inl ⟨_, _, rfl, run_takeDeferred hDD, ?_⟩⟩
    have kp := Keeps.put (X := fun k => k = D2) (Keeps.refl _ W) (l := D2) rfl (Obj.deferred none)
    have n4 := K4.out.keeps kp (by omega)
    have n5 := K5.out.keeps kp (by omega)
    have HB : Below s0 w W := B2.trans ⟨HK9.out.os, HK9.out.tape, HK9.out.output, HK9.out.size, fun i hi => by
      by_cases e : i = g.cb
      · subst e; exact HOB.out
      · exact HK9.out.block i (by omega) (by omega)⟩
    refine ⟨_, results_two rfl _ _ ⟨s0 + 4, 0, none⟩ ⟨s0 + 5, 0, none⟩ rfl rfl (u := Rv) (v := Rc) (n4.cell (i := 0) (by simp)) (n5.cell (i := 0) (by simp)), rfl, ?_⟩
    exact HB.trans ((kp.mono (Y := fun k => s0 ≤ k) (fun k _ e => by omega)).below (by have := HB.size; omega) (fun k hk e => by omega))

theorem bs_all (g : Wp) (hg : g.Ok) : ∀ d, BsOk g d
  | 0 => bs_zero g
  | d + 1 => bs_succ g hg d (bs_all g hg d)

end Go.Proofs.YtaglhmkjdajgpaaDoor
