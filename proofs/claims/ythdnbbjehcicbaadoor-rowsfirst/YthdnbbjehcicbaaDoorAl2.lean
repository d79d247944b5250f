/-
  How many signs beside a place are like its own. No conditions beyond those that each theorem bears.
-/
import Derived.Test.YthdnbbjehcicbaaDoorRound
namespace Go.Proofs.YthdnbbjehcicbaaDoor
open Go.RowKit Go.Shelf

set_option maxHeartbeats 400000 in
theorem along_any (gW gH : Int) (a : Option Addr) (n c : Nat) (p dx dy : Int) (w : World) :
    Calls Tryd.prog 58 #[.agg (gdA gW gH a n c), .int .i64 p, .int .i64 dx, .int .i64 dy] w fun e w' => e = .returned (.func (.func 75) #[] #[.pointer (some ⟨w.heap.size + 1, 0, none⟩), .pointer (some ⟨w.heap.size, 0, none⟩), .pointer (some ⟨w.heap.size + 2, 0, none⟩), .pointer (some ⟨w.heap.size + 3, 0, none⟩)]) ∧ Cap w' w.heap.size gW gH a n c p dx dy ∧ Below w.heap.size w w' ∧ w'.heap.size = w.heap.size + 4 := by
  go_enter Tryd.func58, Tryd.ntmps58
  go_wp2
  go_ret
  refine ⟨rfl, ⟨?_, ?_, ?_, ?_⟩, ?_, ?_⟩
  · exact (((Gd.new w gW gH a n c).old _).old _).old _
  · have := (((Blk.new (w.alloc (.cells (gdA gW gH a n c) 24)) 3 [p] _ rfl).old (.cells #[.int .i64 dx] 3)).old (.cells #[.int .i64 dy] 3)).cell (i := 0) (by simp)
    rw [World.size_alloc] at this
    exact this
  · have := ((Blk.new ((w.alloc (.cells (gdA gW gH a n c) 24)).alloc (.cells #[.int .i64 p] 3)) 3 [dx] _ rfl).old (.cells #[.int .i64 dy] 3)).cell (i := 0) (by simp)
    rw [World.size_alloc, World.size_alloc] at this
    exact this
  · have := (Blk.new (((w.alloc (.cells (gdA gW gH a n c) 24)).alloc (.cells #[.int .i64 p] 3)).alloc (.cells #[.int .i64 dx] 3)) 3 [dy] _ rfl).cell (i := 0) (by simp)
    rw [World.size_alloc, World.size_alloc, World.size_alloc] at this
    exact this
  · exact ((((Below.refl _ _).alloc (Nat.le_refl _) _).alloc (by simp) _).alloc (by simp; omega) _).alloc (by simp; omega) _
  · simp

theorem tw_all (f : Nat → Bool) : ∀ (l : List Nat), (∀ o, o ∈ l → f o = true) → l.takeWhile f = l
  | [], _ => rfl
  | x :: l, h => by rw [List.takeWhile_cons, if_pos (h x (by simp)), tw_all f l (fun o ho => h o (by simp [ho]))]

theorem tw_part (f : Nat → Bool) (x : Nat) (r : List Nat) : ∀ (l : List Nat), (∀ o, o ∈ l → f o = true) → f x = false → (l ++ x :: r).takeWhile f = l
  | [], _, hx => by rw [List.nil_append, List.takeWhile_cons, if_neg (by rw [hx]; simp)]
  | y :: l, h, hx => by rw [List.cons_append, List.takeWhile_cons, if_pos (h y (by simp)), tw_part f x r l (fun o ho => h o (by simp [ho])) hx]

theorem wide_fn (l f : Nat) : (Fence.wide.inRound l).fn f = True := rfl
theorem wide_fn0 (f : Nat) : Fence.wide.fn f = True := rfl
theorem wide_depth (l : Nat) : (Fence.wide.inRound l).depth = none := rfl

attribute [local irreducible] line meas
attribute [local go_sem] Oper.semAt_some wide_fn wide_fn0 wide_depth

set_option maxRecDepth 100000 in
set_option maxHeartbeats 2000000 in
theorem alikeAlong_any (gW gH : Nat) (a : Option Addr) (n c p : Nat) (zs : List Int) (dx dy : Int) (hd : Dir dx dy) (hgW : 1 ≤ gW ∧ gW ≤ 10) (hgH : 1 ≤ gH ∧ gH ≤ 10) (hm : gW * gH = n) (hp : p < n) (w : World) (h : Rd w a n c zs) :
    Calls Tryd.prog 45 #[.agg (gdA gW gH a n c), .int .i64 p, .int .i64 dx, .int .i64 dy] w fun e w' => e = .returned (.int .i64 (al gW gH zs p dx dy : Nat)) ∧ Below w.heap.size w w' := by
  have HR := hide h
  have hcap := h.cap
  have hmax := h.max
  unfold maxLen at hmax
  obtain ⟨ba, oa, rfl, hca⟩ := h.cells (by omega)
  have hba := World.block_lt_of_cell? w _ (hca p hp)
  have HD := hide hd
  have HM := hide hm
  have HAL : Hid (al gW gH zs p dx dy = ((line gW gH dx dy ((p % gW : Nat) + dx) ((p / gW : Nat) + dy)).takeWhile fun o => zs.getD o 0 == zs.getD p 0).length) := hide rfl
  obtain ⟨R, hRR⟩ : ∃ R, al gW gH zs p dx dy = R := ⟨_, rfl⟩
  rw [hRR] at HAL ⊢
  clear hRR h hd
  refine (callsIn_wide (n := 3)).1 ?_
  refine callsIn_of_wp_marks Tryd.func45 rfl trivial ?_ rfl
  simp only [Tryd.ntmps45, List.size_toArray, List.length_cons, List.length_nil, Nat.reduceAdd, Nat.reduceSub, Array.replicate_succ, Array.replicate_zero, List.push_toArray, List.append_toArray, List.nil_append, List.cons_append]
  refine wpIn_wide.2 ?_
  go_upto_region 2 with fail
  obtain ⟨w1, hw1⟩ : ∃ w1, (((w.alloc (Obj.cells (gdA gW gH (some ⟨ba, oa, none⟩) n c) 24)).alloc (Obj.cells #[.int .i64 p] 3)).alloc (Obj.cells #[.int .i64 0] 3)) = w1 := ⟨_, rfl⟩
  have G1 : Gd w1 w.heap.size gW gH (some ⟨ba, oa, none⟩) n c := by rw [← hw1]; exact ((Gd.new w _ _ _ _ _).old _).old _
  have P1 : w1.cell? ⟨w.heap.size + 1, 0, none⟩ = some (.int .i64 p) := by
    rw [← hw1]
    have := ((Blk.new (w.alloc (Obj.cells (gdA gW gH (some ⟨ba, oa, none⟩) n c) 24)) 3 [(p : Int)] _ rfl).old (Obj.cells #[.int .i64 0] 3)).cell (i := 0) (by simp)
    rw [World.size_alloc] at this
    exact this
  have N1 : Blk w1 (w.heap.size + 1 + 1) 3 [0] := by
    rw [← hw1]
    have := Blk.new ((w.alloc (Obj.cells (gdA gW gH (some ⟨ba, oa, none⟩) n c) 24)).alloc (Obj.cells #[.int .i64 p] 3)) 3 [0] _ rfl
    rw [World.size_alloc, World.size_alloc] at this
    exact this
  have B1 : Below w.heap.size w w1 := by rw [← hw1]; exact (((Below.refl _ _).alloc (Nat.le_refl _) _).alloc (by simp) _).alloc (by simp; omega) _
  have S1 : w1.heap.size = w.heap.size + 1 + 1 + 1 := by rw [← hw1]; simp
  rw [hw1]
  clear hw1
  go_wp2_with (refine wpList_load_gd rfl (.tmp 4) rfl w.heap.size rfl G1 ?_)
  refine (along_any gW gH (some ⟨ba, oa, none⟩) n c p dx dy w1).mono ?_
  rintro e w2 ⟨rfl, hCap, hB2, hS2⟩
  rw [S1] at hCap hB2 hS2
  have G2 := G1.below hB2 (by omega)
  have P2 := (hB2.cell (p := ⟨w.heap.size + 1, 0, none⟩) (by show w.heap.size + 1 < _; omega)).trans P1
  have N2 := N1.below hB2 (by omega)
  have B2 := B1.trans (hB2.mono (by omega))
  have R2 := HR.out.mono B2
  clear G1 P1 N1 B1 hB2
  rw [S1]
  clear S1
  go_wp2_with fail
  refine (wpIn_wide (n := 3)).1 (wpIn_rangeFunc_ownF (n := 3) rfl (by omega) (gf := 75) (lb := #[.pointer (some ⟨w.heap.size + 1 + 1 + 1 + 1, 0, none⟩), .pointer (some ⟨w.heap.size + 1 + 1 + 1, 0, none⟩), .pointer (some ⟨w.heap.size + 1 + 1 + 1 + 2, 0, none⟩), .pointer (some ⟨w.heap.size + 1 + 1 + 1 + 3, 0, none⟩)]) rfl trivial (enters_of Tryd.func75 (by kernel_rfl) rfl)
    (along1_stops (w.heap.size + 1 + 1) (w.heap.size + 1 + 1 + 1) n gW gH (some ⟨ba, oa, none⟩) n c p 2 dx dy HD.out hgW hgH HM.out hp (by omega) w2 hCap) (fun h k => h.trans k) ?_ (Below.refl _ _) (fun _ => rfl)
    (fun pre W => Keeps (fun k => k = w.heap.size + 1 + 1) w2 W ∧ W.cell? ⟨w.heap.size + 1 + 1, 0, none⟩ = some (.int .i64 (pre.length : Nat)) ∧ W.frozen? ⟨w.heap.size + 1 + 1, 0, none⟩ = false ∧ ∀ x ∈ pre, zs.getD x.v 0 = zs.getD p 0)
    (fun c pre W => c = .exit 0 ∧ Keeps (fun k => k = w.heap.size + 1 + 1) w2 W ∧ ∃ (q : List (Pl n)) (x : Pl n), pre = q ++ [x] ∧ W.cell? ⟨w.heap.size + 1 + 1, 0, none⟩ = some (.int .i64 (q.length : Nat)) ∧ (∀ x ∈ q, zs.getD x.v 0 = zs.getD p 0) ∧ zs.getD x.v 0 ≠ zs.getD p 0)
    ?_ ?_ ⟨Keeps.refl _ _, N2.cell (i := 0) (by simp), N2.frozen 0, fun x hx => by cases hx⟩
    (fun x => { tmps := #[.agg (gdA gW gH (some ⟨ba, oa, none⟩) n c), .int .i64 p, .int .i64 dx, .int .i64 dy, .pointer (some ⟨w.heap.size, 0, none⟩), .pointer (some ⟨w.heap.size + 1, 0, none⟩), undef, undef, .int .i64 0, .pointer (some ⟨w.heap.size + 1 + 1, 0, none⟩), .int .i64 (x.v : Nat), .agg (gdA gW gH (some ⟨ba, oa, none⟩) n c), .int .i64 p, .int .i64 dx, .int .i64 dy,
      .func (.func 75) #[] #[.pointer (some ⟨w.heap.size + 1 + 1 + 1 + 1, 0, none⟩), .pointer (some ⟨w.heap.size + 1 + 1 + 1, 0, none⟩), .pointer (some ⟨w.heap.size + 1 + 1 + 1 + 2, 0, none⟩), .pointer (some ⟨w.heap.size + 1 + 1 + 1 + 3, 0, none⟩)], .int .i64 (x.v : Nat), undef, undef, undef, undef, undef, undef, undef, undef, undef, undef, undef, undef, undef, undef], defers := [] }) ?assign ?body ?done ?stop)
  · intro W l o o' hl _ _ _
    exact (Keeps.refl _ W).put (Or.inr (by omega)) o'
  · intro pre W W' row ⟨k1, k2, k3, k4⟩ hg hr
    have kg : ∀ k, k < w2.heap.size → W'.heap[k]? = W.heap[k]? := fun k hk => hg.block k (Nat.lt_of_lt_of_le hk k1.size) (fun e => by have := (hr k e.symm).1; omega)
    exact ⟨⟨hg.os.trans k1.os, hg.tape.trans k1.tape, hg.output.trans k1.output, Nat.le_trans k1.size hg.size, fun k hk hx => (kg k hk).trans (k1.block k hk hx)⟩, (World.cell?_of_block (w := W) (kg _ (by show w.heap.size + 1 + 1 < _; omega))).trans k2, (World.frozen?_of_block (w := W) (kg _ (by show w.heap.size + 1 + 1 < _; omega))).trans k3, k4⟩
  · intro cc pre W W' row ⟨k0, k1, q, x, k2, k3, k4⟩ hg hr
    have kg : ∀ k, k < w2.heap.size → W'.heap[k]? = W.heap[k]? := fun k hk => hg.block k (Nat.lt_of_lt_of_le hk k1.size) (fun e => by have := (hr k e.symm).1; omega)
    exact ⟨k0, ⟨hg.os.trans k1.os, hg.tape.trans k1.tape, hg.output.trans k1.output, Nat.le_trans k1.size hg.size, fun k hk hx => (kg k hk).trans (k1.block k hk hx)⟩, q, x, k2, (World.cell?_of_block (w := W) (kg _ (by show w.heap.size + 1 + 1 < _; omega))).trans k3, k4⟩
  case assign =>
    intro l x W K hK
    gi_wp2
    exact hK
  case body =>
    rintro l pre x W ⟨k1, k2, k3, k4⟩ hlt
    have G3 := G2.keeps k1 (by omega)
    have P3 := k1.cell P2 (by show ¬ w.heap.size + 1 = w.heap.size + 1 + 1; omega)
    have R3 := R2.keeps k1 (fun b off e => by cases e; show ¬ ba = w.heap.size + 1 + 1; omega)
    obtain ⟨-, -, g3⟩ := G3.cells
    have hxl := x.h
    have cx := (R3.cell hxl).2
    have cp := (R3.cell hp).2
    have HK1 := hide k1
    have HK4 := hide k4
    have hpl : pre.length ≤ 12 := by omega
    clear G3 R3 k1 k4
    obtain ⟨xv, hxv⟩ : ∃ xv, x.v = xv := ⟨_, rfl⟩
    rw [hxv] at hxl cx ⊢
    have HXV := hide hxv
    clear hxv
    have HEQ : Hid (zs.getD xv 0 = zs.getD p 0 → ∀ y ∈ pre ++ [x], zs.getD y.v 0 = zs.getD p 0) := hide (fun h y hy => by
      rcases List.mem_append.1 hy with hy | hy
      · exact HK4.out y hy
      · rw [List.mem_singleton.1 hy, HXV.out]; exact h)
    have HNE : Hid (zs.getD xv 0 ≠ zs.getD p 0 → zs.getD x.v 0 ≠ zs.getD p 0) := hide (fun h => by rw [HXV.out]; exact h)
    obtain ⟨vx, hvx⟩ : ∃ vx, zs.getD xv 0 = vx := ⟨_, rfl⟩
    obtain ⟨vp, hvp⟩ : ∃ vp, zs.getD p 0 = vp := ⟨_, rfl⟩
    rw [hvx] at cx HEQ HNE
    rw [hvp] at cp HEQ HNE HK4
    have HVP := hide hvp
    clear hvx hvp
    by_cases he : vx = vp
    · have hne : (vx != vp) = false := by simp [he]
      have HE := hide (HEQ.out he)
      clear he HEQ HNE
      gi_wp2
      have HFC : Hid (∀ W4, Below W.heap.size W W4 → W4.cell? ⟨w.heap.size, 2, none⟩ = some (.slice (some ⟨ba, oa, none⟩) n c) ∧ W4.cell? ⟨w.heap.size + 1, 0, none⟩ = some (.int .i64 p) ∧ W4.cell? ⟨ba, oa + xv, none⟩ = some (.int .i64 vx) ∧ W4.cell? ⟨ba, oa + p, none⟩ = some (.int .i64 vp)) := hide (fun W4 hb => ⟨(hb.cell (p := ⟨w.heap.size, 2, none⟩) (World.block_lt_of_cell? _ _ g3)).trans g3, (hb.cell (p := ⟨w.heap.size + 1, 0, none⟩) (World.block_lt_of_cell? _ _ P3)).trans P3, (hb.cell (p := ⟨ba, oa + xv, none⟩) (World.block_lt_of_cell? _ _ cx)).trans cx, (hb.cell (p := ⟨ba, oa + p, none⟩) (World.block_lt_of_cell? _ _ cp)).trans cp⟩)
      clear g3 P3 cx cp
      refine wp_region_round (S := fun W4 => Below W.heap.size W W4) (by kernel_rfl) (by kernel_rfl) (by rintro ⟨_, _, h⟩; exact h) ?_
      have SW : Below W.heap.size W W.drew := (Below.refl _ W).drew
      refine wpAnyH_take (i := 0) (v := .pointer (some ⟨w.heap.size, 2, none⟩)) rfl (by kernel_rfl) (by kernel_rfl) (by kernel_rfl) (fun _ _ _ h => h) (Or.inl ⟨by rfl, ?_⟩) SW ?_
      · intro W4 hW4
        obtain ⟨x0, x1, x2, x3⟩ := HFC.out W4 hW4
        go_simp <;> first | done | rfl | omega
      go_simp
      refine wpAnyH_take (i := 1) (v := .slice (some ⟨ba, oa, none⟩) n c) rfl (by kernel_rfl) (by kernel_rfl) (by kernel_rfl) (fun _ _ _ h => h) (Or.inl ⟨by rfl, ?_⟩) SW ?_
      · intro W4 hW4
        obtain ⟨x0, x1, x2, x3⟩ := HFC.out W4 hW4
        go_simp <;> first | done | rfl | omega
      go_simp
      refine wpAnyH_take (i := 2) (v := .int .i64 xv) rfl (by kernel_rfl) (by kernel_rfl) (by kernel_rfl) (fun _ _ _ h => h) (Or.inl ⟨by rfl, ?_⟩) SW ?_
      · intro W4 hW4
        obtain ⟨x0, x1, x2, x3⟩ := HFC.out W4 hW4
        go_simp <;> first | done | rfl | omega
      go_simp
      refine wpAnyH_take (i := 3) (v := .pointer (some ⟨ba, oa + xv, none⟩)) rfl (by kernel_rfl) (by kernel_rfl) (by kernel_rfl) (fun _ _ _ h => h) (Or.inl ⟨by rfl, ?_⟩) SW ?_
      · intro W4 hW4
        obtain ⟨x0, x1, x2, x3⟩ := HFC.out W4 hW4
        go_simp <;> first | done | rfl | omega
      go_simp
      refine wpAnyH_take (i := 4) (v := .int .i64 vx) rfl (by kernel_rfl) (by kernel_rfl) (by kernel_rfl) (fun _ _ _ h => h) (Or.inl ⟨by rfl, ?_⟩) SW ?_
      · intro W4 hW4
        obtain ⟨x0, x1, x2, x3⟩ := HFC.out W4 hW4
        go_simp <;> first | done | rfl | omega
      go_simp
      refine wpAnyH_take (i := 5) (v := .pointer (some ⟨w.heap.size, 2, none⟩)) rfl (by kernel_rfl) (by kernel_rfl) (by kernel_rfl) (fun _ _ _ h => h) (Or.inl ⟨by rfl, ?_⟩) SW ?_
      · intro W4 hW4
        obtain ⟨x0, x1, x2, x3⟩ := HFC.out W4 hW4
        go_simp <;> first | done | rfl | omega
      go_simp
      refine wpAnyH_take (i := 6) (v := .slice (some ⟨ba, oa, none⟩) n c) rfl (by kernel_rfl) (by kernel_rfl) (by kernel_rfl) (fun _ _ _ h => h) (Or.inl ⟨by rfl, ?_⟩) SW ?_
      · intro W4 hW4
        obtain ⟨x0, x1, x2, x3⟩ := HFC.out W4 hW4
        go_simp <;> first | done | rfl | omega
      go_simp
      refine wpAnyH_take (i := 7) (v := .int .i64 p) rfl (by kernel_rfl) (by kernel_rfl) (by kernel_rfl) (fun _ _ _ h => h) (Or.inl ⟨by rfl, ?_⟩) SW ?_
      · intro W4 hW4
        obtain ⟨x0, x1, x2, x3⟩ := HFC.out W4 hW4
        go_simp <;> first | done | rfl | omega
      go_simp
      refine wpAnyH_take (i := 8) (v := .pointer (some ⟨ba, oa + p, none⟩)) rfl (by kernel_rfl) (by kernel_rfl) (by kernel_rfl) (fun _ _ _ h => h) (Or.inl ⟨by rfl, ?_⟩) SW ?_
      · intro W4 hW4
        obtain ⟨x0, x1, x2, x3⟩ := HFC.out W4 hW4
        go_simp <;> first | done | rfl | omega
      go_simp
      refine wpAnyH_take (i := 9) (v := .int .i64 vp) rfl (by kernel_rfl) (by kernel_rfl) (by kernel_rfl) (fun _ _ _ h => h) (Or.inl ⟨by rfl, ?_⟩) SW ?_
      · intro W4 hW4
        obtain ⟨x0, x1, x2, x3⟩ := HFC.out W4 hW4
        go_simp <;> first | done | rfl | omega
      go_simp
      refine wpAnyH_take (i := 10) (v := .bool false) rfl (by kernel_rfl) (by kernel_rfl) (by kernel_rfl) (fun _ _ _ h => h) (Or.inl ⟨by rfl, ?_⟩) SW ?_
      · intro W4 hW4
        obtain ⟨x0, x1, x2, x3⟩ := HFC.out W4 hW4
        go_simp <;> first | done | rfl | omega
      go_simp
      refine wpAnyH_done (by kernel_rfl) ?_ _
      gi_wp2
      refine ⟨(KeepsOthers.setCell W _ _).trans (KeepsOthers.drew _), ((Keeps.refl _ W).setCell (Or.inl rfl) _).drew, (HK1.out.setCell (X := fun k => k = w.heap.size + 1 + 1) rfl _).drew, ?_, ?_, fun y hy => by rw [HVP.out]; exact HE.out y hy⟩
      · show (W.setCell ⟨w.heap.size + 1 + 1, 0, none⟩ _).cell? _ = _
        rw [World.cell?_setCell_same' _ _ _ (by show (W.cell? _).isSome = true; rw [k2]; rfl), List.length_append, List.length_singleton]
        rfl
      · show (W.setCell ⟨w.heap.size + 1 + 1, 0, none⟩ _).frozen? _ = _
        rw [World.frozen?_setCell]; exact k3
    · have hne : (vx != vp) = true := by simpa using he
      have HE := hide (HNE.out he)
      clear he HEQ HNE
      gi_wp2
      have HFC : Hid (∀ W4, Below W.heap.size W W4 → W4.cell? ⟨w.heap.size, 2, none⟩ = some (.slice (some ⟨ba, oa, none⟩) n c) ∧ W4.cell? ⟨w.heap.size + 1, 0, none⟩ = some (.int .i64 p) ∧ W4.cell? ⟨ba, oa + xv, none⟩ = some (.int .i64 vx) ∧ W4.cell? ⟨ba, oa + p, none⟩ = some (.int .i64 vp)) := hide (fun W4 hb => ⟨(hb.cell (p := ⟨w.heap.size, 2, none⟩) (World.block_lt_of_cell? _ _ g3)).trans g3, (hb.cell (p := ⟨w.heap.size + 1, 0, none⟩) (World.block_lt_of_cell? _ _ P3)).trans P3, (hb.cell (p := ⟨ba, oa + xv, none⟩) (World.block_lt_of_cell? _ _ cx)).trans cx, (hb.cell (p := ⟨ba, oa + p, none⟩) (World.block_lt_of_cell? _ _ cp)).trans cp⟩)
      clear g3 P3 cx cp
      refine wp_region_round (S := fun W4 => Below W.heap.size W W4) (by kernel_rfl) (by kernel_rfl) (by rintro ⟨_, _, h⟩; exact h) ?_
      have SW : Below W.heap.size W W.drew := (Below.refl _ W).drew
      refine wpAnyH_take (i := 0) (v := .pointer (some ⟨w.heap.size, 2, none⟩)) rfl (by kernel_rfl) (by kernel_rfl) (by kernel_rfl) (fun _ _ _ h => h) (Or.inl ⟨by rfl, ?_⟩) SW ?_
      · intro W4 hW4
        obtain ⟨x0, x1, x2, x3⟩ := HFC.out W4 hW4
        go_simp <;> first | done | rfl | omega
      go_simp
      refine wpAnyH_take (i := 1) (v := .slice (some ⟨ba, oa, none⟩) n c) rfl (by kernel_rfl) (by kernel_rfl) (by kernel_rfl) (fun _ _ _ h => h) (Or.inl ⟨by rfl, ?_⟩) SW ?_
      · intro W4 hW4
        obtain ⟨x0, x1, x2, x3⟩ := HFC.out W4 hW4
        go_simp <;> first | done | rfl | omega
      go_simp
      refine wpAnyH_take (i := 2) (v := .int .i64 xv) rfl (by kernel_rfl) (by kernel_rfl) (by kernel_rfl) (fun _ _ _ h => h) (Or.inl ⟨by rfl, ?_⟩) SW ?_
      · intro W4 hW4
        obtain ⟨x0, x1, x2, x3⟩ := HFC.out W4 hW4
        go_simp <;> first | done | rfl | omega
      go_simp
      refine wpAnyH_take (i := 3) (v := .pointer (some ⟨ba, oa + xv, none⟩)) rfl (by kernel_rfl) (by kernel_rfl) (by kernel_rfl) (fun _ _ _ h => h) (Or.inl ⟨by rfl, ?_⟩) SW ?_
      · intro W4 hW4
        obtain ⟨x0, x1, x2, x3⟩ := HFC.out W4 hW4
        go_simp <;> first | done | rfl | omega
      go_simp
      refine wpAnyH_take (i := 4) (v := .int .i64 vx) rfl (by kernel_rfl) (by kernel_rfl) (by kernel_rfl) (fun _ _ _ h => h) (Or.inl ⟨by rfl, ?_⟩) SW ?_
      · intro W4 hW4
        obtain ⟨x0, x1, x2, x3⟩ := HFC.out W4 hW4
        go_simp <;> first | done | rfl | omega
      go_simp
      refine wpAnyH_take (i := 5) (v := .pointer (some ⟨w.heap.size, 2, none⟩)) rfl (by kernel_rfl) (by kernel_rfl) (by kernel_rfl) (fun _ _ _ h => h) (Or.inl ⟨by rfl, ?_⟩) SW ?_
      · intro W4 hW4
        obtain ⟨x0, x1, x2, x3⟩ := HFC.out W4 hW4
        go_simp <;> first | done | rfl | omega
      go_simp
      refine wpAnyH_take (i := 6) (v := .slice (some ⟨ba, oa, none⟩) n c) rfl (by kernel_rfl) (by kernel_rfl) (by kernel_rfl) (fun _ _ _ h => h) (Or.inl ⟨by rfl, ?_⟩) SW ?_
      · intro W4 hW4
        obtain ⟨x0, x1, x2, x3⟩ := HFC.out W4 hW4
        go_simp <;> first | done | rfl | omega
      go_simp
      refine wpAnyH_take (i := 7) (v := .int .i64 p) rfl (by kernel_rfl) (by kernel_rfl) (by kernel_rfl) (fun _ _ _ h => h) (Or.inl ⟨by rfl, ?_⟩) SW ?_
      · intro W4 hW4
        obtain ⟨x0, x1, x2, x3⟩ := HFC.out W4 hW4
        go_simp <;> first | done | rfl | omega
      go_simp
      refine wpAnyH_take (i := 8) (v := .pointer (some ⟨ba, oa + p, none⟩)) rfl (by kernel_rfl) (by kernel_rfl) (by kernel_rfl) (fun _ _ _ h => h) (Or.inl ⟨by rfl, ?_⟩) SW ?_
      · intro W4 hW4
        obtain ⟨x0, x1, x2, x3⟩ := HFC.out W4 hW4
        go_simp <;> first | done | rfl | omega
      go_simp
      refine wpAnyH_take (i := 9) (v := .int .i64 vp) rfl (by kernel_rfl) (by kernel_rfl) (by kernel_rfl) (fun _ _ _ h => h) (Or.inl ⟨by rfl, ?_⟩) SW ?_
      · intro W4 hW4
        obtain ⟨x0, x1, x2, x3⟩ := HFC.out W4 hW4
        go_simp <;> first | done | rfl | omega
      go_simp
      refine wpAnyH_take (i := 10) (v := .bool true) rfl (by kernel_rfl) (by kernel_rfl) (by kernel_rfl) (fun _ _ _ h => h) (Or.inl ⟨by rfl, ?_⟩) SW ?_
      · intro W4 hW4
        obtain ⟨x0, x1, x2, x3⟩ := HFC.out W4 hW4
        go_simp <;> first | done | rfl | omega
      go_simp
      refine wpAnyH_done (by kernel_rfl) ?_ _
      gi_wp2
      exact ⟨KeepsOthers.drew W, rfl, HK1.out.drew, pre, x, rfl, k2, fun y hy => by rw [HVP.out]; exact HK4.out y hy, by rw [HVP.out]; exact HE.out⟩
  case done =>
    rintro D ys W hD hS ⟨k1, k2, k3, k4⟩ hK
    have HS := hide hS
    have HK1 := hide k1
    have HK4 := hide k4
    clear hS k1 k4
    gi_wp2
    go_wp2
    refine ⟨by simp, .inl ⟨_, _, rfl, run_takeDeferred hK, ?_⟩⟩
    refine ⟨_, results_tmp rfl _ _ _, ?_⟩
    refine ⟨ret_int ?_, ?_⟩
    · rw [HAL.out, ← HS.out, tw_all _ _ (fun o ho => by
        obtain ⟨y, hy, rfl⟩ := List.mem_map.1 ho
        simp only [beq_iff_eq]
        exact HK4.out y hy), List.length_map]
    · exact B2.trans ((Keeps.put (X := fun k => w.heap.size ≤ k) (HK1.out.mono (fun k _ e => by omega)) (l := D) (by omega) _).below (by omega) (fun k hk e => by omega))
  case stop =>
    rintro D cc pre W hD hS ⟨rfl, k1, q, x, rfl, k2, k3, k4⟩ hK
    have HS := hide hS
    have HK1 := hide k1
    have HK4 := hide k4
    clear hS k1 k4
    gi_wp2
    go_wp2
    refine ⟨by simp, .inl ⟨_, _, rfl, run_takeDeferred hK, ?_⟩⟩
    refine ⟨_, results_tmp rfl _ _ _, ?_⟩
    refine ⟨ret_int ?_, ?_⟩
    · obtain ⟨r, hr⟩ := HS.out
      rw [HAL.out, ← hr, List.map_append, List.append_assoc, List.map_singleton, List.singleton_append, tw_part _ _ _ _ (fun o ho => by
        obtain ⟨y, hy, rfl⟩ := List.mem_map.1 ho
        simp only [beq_iff_eq]
        exact k3 y hy) (by simpa using HK4.out), List.length_map]
    · exact B2.trans ((Keeps.put (X := fun k => w.heap.size ≤ k) (HK1.out.mono (fun k _ e => by omega)) (l := D) (by omega) _).below (by omega) (fun k hk e => by omega))

end Go.Proofs.YthdnbbjehcicbaaDoor
