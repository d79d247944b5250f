/-
  All fives of a list of cards, one behind another, as poker.fives hands them out. No conditions beyond those that each theorem bears.
-/
import Derived.Test.YtdhacmcdbpojlaaSets
namespace Go.Proofs.Ytdhacmcdbpojlaa
open Go.RowKit Go.Shelf

theorem wpIn_len {F : Fence} {n : Nat} {o : Oper} {a : Act} {w : World} {K : Act → World → Prop} {Q : Exit → Act → World → Prop} (s : Operand)
    (ho : o.op = .call { callee := .builtin .len, args := #[s], argTypes := #[22] }) (ad : Option Addr) (m c : Nat) (hs : a.eval s = .slice ad m c) (h : K (a.put o.dst (.int .i64 m)) w) :
    o.wpIn F n Try.prog a w K Q := by
  unfold Oper.wpIn
  refine ⟨?_, ?_⟩
  · intro f hf
    simp [Oper.about, ho, resolve, go_sem] at hf
  · have hsem : o.semAt F.round a.eval = execOp a.eval o := Oper.semAt_eq _ _ _ (fun c hc => by rw [ho] at hc; cases hc)
    rw [hsem]
    simp [execOp, ho, resolve, invoke, builtin, hs, Builtin.len_, run_underlying Try.underlying22, goInt, Result.andThen]
    exact h

theorem wpListIn_len {F : Fence} {n : Nat} {ops : Array Oper} {rest : List Oper} {o : Oper} {a : Act} {w : World} {Q : Exit → Act → World → Prop} (hgd : o.guard = none) (s : Operand)
    (ho : o.op = .call { callee := .builtin .len, args := #[s], argTypes := #[22] }) (ad : Option Addr) (m c : Nat) (hs : a.eval s = .slice ad m c) (h : wpListIn F n Try.prog ops Q rest (a.put o.dst (.int .i64 m)) w) :
    wpListIn F n Try.prog ops Q (o :: rest) a w :=
  wpListIn_plain hgd fun _ hK => wpIn_len s ho ad m c hs (hK _ _ h)

theorem new_cell (W : World) (v : Value) (t : TypeId) : (W.alloc (.cells #[v] t)).cell? ⟨W.heap.size, 0, none⟩ = some v :=
  (Boxed.new W t v).cell
theorem new_frozen (W : World) (v : Value) (t : TypeId) : (W.alloc (.cells #[v] t)).frozen? ⟨W.heap.size, 0, none⟩ = false :=
  (Boxed.new W t v).frozen
theorem old_cell {W : World} {a : Addr} {v : Value} (o : Obj) (h : W.cell? a = some v) : (W.alloc o).cell? a = some v := cell_kept h (World.grownBy_alloc W o none) (fun r e => by cases e)

set_option maxHeartbeats 400000 in
theorem sets_any (n k : Nat) (w : World) :
    Calls Try.prog 33 #[.int .i64 n, .int .i64 k] w fun e w' => e = .returned (.func (.func 47) #[] #[.pointer (some ⟨w.heap.size + 1, 0, none⟩), .pointer (some ⟨w.heap.size, 0, none⟩)]) ∧ w' = (w.alloc (.cells #[.int .i64 n] 3)).alloc (.cells #[.int .i64 k] 3) := by
  go_enter Try.func33, Try.ntmps33
  go_wp2
  go_ret
  exact ⟨rfl, rfl⟩

set_option maxHeartbeats 400000 in
theorem fives_any (a : Option Addr) (n c : Nat) (w : World) :
    Calls Try.prog 27 #[.slice a n c] w fun e w' => e = .returned (.func (.func 38) #[] #[.pointer (some ⟨w.heap.size, 0, none⟩)]) ∧ w' = w.alloc (.cells #[.slice a n c] 22) := by
  go_enter Try.func27, Try.ntmps27
  go_wp2
  go_ret
  exact ⟨rfl, rfl⟩

/-- The cards at these places. -/
def handOf (zs : List Int) (s : List Nat) : List Int := s.map (fun i => zs.getD i 0)

def arr5 (h : List Int) : Value := .agg #[.int .i64 (h.getD 0 0), .int .i64 (h.getD 1 0), .int .i64 (h.getD 2 0), .int .i64 (h.getD 3 0), .int .i64 (h.getD 4 0)]

def GFive (h : List Int) (args : Array Value) (_ : World) : Prop := args = #[arr5 h] ∧ h.length = 5

def RFive (bl : Nat) (a : Option Addr) (n c : Nat) (zs : List Int) (W : World) : Prop := W.cell? ⟨bl, 0, none⟩ = some (.slice a n c) ∧ Rd W a n c zs

theorem wide_fn (l f : Nat) : (Fence.wide.inRound l).fn f = True := rfl
theorem wide_fn0 (f : Nat) : Fence.wide.fn f = True := rfl
theorem wide_depth (l : Nat) : (Fence.wide.inRound l).depth = none := rfl

attribute [local go_sem] Oper.semAt_some wide_fn wide_fn0 wide_depth

theorem Rd.keeps {X : Nat → Prop} {w w' : World} {a n c zs} (h : Rd w a n c zs) (hb : Keeps X w w') (hX : ∀ b off, a = some ⟨b, off, none⟩ → ¬ X b) : Rd w' a n c zs := by
  refine ⟨h.len, h.cap, h.max, h.nil, fun hn => ?_⟩
  obtain ⟨b, off, rfl, hc⟩ := h.cells hn
  exact ⟨b, off, rfl, fun i hi => hb.cell (hc i hi) (hX b off rfl)⟩

set_option maxRecDepth 100000 in
set_option maxHeartbeats 2000000 in
theorem fives1_all (bl : Nat) (a : Option Addr) (n c : Nat) (zs : List Int) (h5 : 5 ≤ n) (hn : n ≤ 1000) (rest : List (List Nat)) (hrun : Run n 5 (List.range 5) rest) (hlen : ∀ x ∈ (List.range 5 :: rest), x.length = 5 ∧ ∀ i, x.getD i 0 < n) :
    SeqAll Try.prog 38 #[.pointer (some ⟨bl, 0, none⟩)] GFive ((List.range 5 :: rest).map (handOf zs)) (RFive bl a n c zs) := by
  intro l X J W hR hRk hX hJ hY h0
  obtain ⟨hbl, hRd⟩ := hR
  have hbll : bl < W.heap.size := World.block_lt_of_cell? W _ hbl
  refine callsIn_of_wp_marks Try.func38 rfl trivial ?_ rfl
  simp only [Try.ntmps38, List.size_toArray, List.length_cons, List.length_nil, Nat.reduceAdd, Nat.reduceSub, Array.replicate_succ, Array.replicate_zero, List.push_toArray, List.append_toArray, List.nil_append, List.cons_append]
  refine wpIn_wide.2 ?_
  go_wp2_with fail
  refine (sets_any n 5 _).mono ?_
  rintro e w1 ⟨rfl, hw⟩
  subst w1
  go_wp2
  obtain ⟨w0, hw0⟩ : ∃ w0, ((W.alloc (Obj.cells #[Value.func (Fn.yield l) #[] #[]] 66)).alloc (Obj.cells #[Value.int IntKind.i64 n] 3)).alloc (Obj.cells #[Value.int IntKind.i64 5] 3) = w0 := ⟨_, rfl⟩
  have hsz : w0.heap.size = W.heap.size + 3 := by rw [← hw0]; simp
  have hB0 : Below W.heap.size W w0 := by rw [← hw0]; exact ((((Below.refl _ W).alloc (Nat.le_refl _) _).alloc (by simp) _).alloc (by simp; omega) _)
  have hc1 : w0.cell? ⟨W.heap.size, 0, none⟩ = some (.func (.yield l) #[] #[]) := by
    rw [← hw0]; exact old_cell _ (old_cell _ (new_cell W _ 66))
  have hc2 : w0.cell? ⟨W.heap.size + 1, 0, none⟩ = some (.int .i64 n) := by
    rw [← hw0]
    have := (new_cell (W.alloc (Obj.cells #[Value.func (Fn.yield l) #[] #[]] 66)) (.int .i64 n) 3)
    rw [World.size_alloc] at this
    exact old_cell _ this
  have hc3 : w0.cell? ⟨W.heap.size + 2, 0, none⟩ = some (.int .i64 5) := by
    rw [← hw0]
    have := (new_cell ((W.alloc (Obj.cells #[Value.func (Fn.yield l) #[] #[]] 66)).alloc (Obj.cells #[Value.int IntKind.i64 n] 3)) (.int .i64 5) 3)
    rw [World.size_alloc, World.size_alloc] at this
    exact this
  rw [hw0]
  have hab : ∀ b off, a = some ⟨b, off, none⟩ → b < W.heap.size := by
    intro b off e
    obtain ⟨b', off', e', hc⟩ := hRd.cells (by omega)
    rw [e'] at e
    cases e
    exact World.block_lt_of_cell? W _ (hc 0 (by omega))
  have hRB : ∀ A B, RFive bl a n c zs A → Below W.heap.size A B → RFive bl a n c zs B := by
    intro A B hA hb
    refine ⟨(hb.cell (p := ⟨bl, 0, none⟩) hbll).trans hA.1, hA.2.keeps (Keeps.of_below hb) (fun b off e => by have := hab b off e; omega)⟩
  refine (wpIn_wide (n := 1)).1 (wp_range_all (gf := 47) (lb := #[.pointer (some ⟨W.heap.size + 2, 0, none⟩), .pointer (some ⟨W.heap.size + 1, 0, none⟩)]) (G := GSet 5) (R := RSet (W.heap.size + 2) (W.heap.size + 1) n 5) (xs := List.range 5 :: rest) (by simp [Act.eval]) (enters_of Try.func47 (by kernel_rfl) rfl)
    (sets1_all (W.heap.size + 2) (W.heap.size + 1) n 5 h5 hn rest hrun (fun x hx => ⟨(hlen x hx).1, fun i => by have := (hlen x hx).2 i; omega⟩)) X (fun k hk => by have := hX k hk; omega) ⟨hc3, hc2⟩ ?_ ?_
    (fun pre W' => J (pre.map (handOf zs)) W' ∧ W'.cell? ⟨W.heap.size, 0, none⟩ = some (.func (.yield l) #[] #[]) ∧ RFive bl a n c zs W') ?_ ⟨hJ _ _ _ h0 hB0, hc1, hRB _ _ ⟨hbl, hRd⟩ hB0⟩ ?_ ?_)
  · intro l' A B hl' hA hk
    refine ⟨hk.cell hA.1 ?_, hk.cell hA.2 ?_⟩
    · rintro (hx | hx)
      · have := hX _ hx; simp at this; omega
      · simp at hx; omega
    · rintro (hx | hx)
      · have := hX _ hx; simp at this; omega
      · simp at hx; omega
  · rintro x args W' ⟨ad, rfl, _⟩; rfl
  · rintro s A B ⟨h1, h2, h3⟩ hb
    exact ⟨hJ _ _ _ h1 (hb.mono (by omega)), (hb.cell (p := ⟨W.heap.size, 0, none⟩) (by simp; omega)).trans h2, hRB _ _ h3 (hb.mono (by omega))⟩
  · rintro l2 pre s args W2 hl2 ⟨rec, hrec⟩ ⟨hJ2, hy2, hR2⟩ hpre ⟨ad, rfl, hrd⟩
    have hmem : s ∈ List.range 5 :: rest := hpre.subset (by simp)
    obtain ⟨hs5, hsb⟩ := hlen s hmem
    obtain ⟨x0, x1, x2, x3, x4, rfl⟩ : ∃ x0 x1 x2 x3 x4, s = [x0, x1, x2, x3, x4] := by
      match s, hs5 with
      | [x0, x1, x2, x3, x4], _ => exact ⟨x0, x1, x2, x3, x4, rfl⟩
    have b0 := hsb 0
    have b1 := hsb 1
    have b2 := hsb 2
    have b3 := hsb 3
    have b4 := hsb 4
    simp only [List.getD, List.getElem?_cons_zero, List.getElem?_cons_succ, Option.getD_some] at b0 b1 b2 b3 b4
    obtain ⟨bs, os, rfl, hcs⟩ := hrd.cells (by omega)
    obtain ⟨ba, oa, ea, hca⟩ := hR2.2.cells (by omega)
    subst ea
    gi_wp2
    refine ⟨Keeps.refl _ _, ?_⟩
    intro W3 hk3
    have s0 := hk3.cell (hcs 0 (by omega)) (cell_ne_loop hrec (hcs 0 (by omega)))
    have s1 := hk3.cell (hcs 1 (by omega)) (cell_ne_loop hrec (hcs 1 (by omega)))
    have s2 := hk3.cell (hcs 2 (by omega)) (cell_ne_loop hrec (hcs 2 (by omega)))
    have s3 := hk3.cell (hcs 3 (by omega)) (cell_ne_loop hrec (hcs 3 (by omega)))
    have s4 := hk3.cell (hcs 4 (by omega)) (cell_ne_loop hrec (hcs 4 (by omega)))
    have z0 := hk3.cell (hca x0 b0) (cell_ne_loop hrec (hca x0 b0))
    have z1 := hk3.cell (hca x1 b1) (cell_ne_loop hrec (hca x1 b1))
    have z2 := hk3.cell (hca x2 b2) (cell_ne_loop hrec (hca x2 b2))
    have z3 := hk3.cell (hca x3 b3) (cell_ne_loop hrec (hca x3 b3))
    have z4 := hk3.cell (hca x4 b4) (cell_ne_loop hrec (hca x4 b4))
    have hl3 := hk3.cell hR2.1 (cell_ne_loop hrec hR2.1)
    have hy3 := hk3.cell hy2 (cell_ne_loop hrec hy2)
    simp only [toI, List.map_cons, List.map_nil, List.getD, List.getElem?_cons_zero, List.getElem?_cons_succ, Option.getD_some, Nat.add_zero] at s0 s1 s2 s3 s4
    replace s0 := fun o => old_cell o s0
    replace s1 := fun o => old_cell o s1
    replace s2 := fun o => old_cell o s2
    replace s3 := fun o => old_cell o s3
    replace s4 := fun o => old_cell o s4
    replace z0 := fun o => old_cell o z0
    replace z1 := fun o => old_cell o z1
    replace z2 := fun o => old_cell o z2
    replace z3 := fun o => old_cell o z3
    replace z4 := fun o => old_cell o z4
    replace hl3 := fun o => old_cell o hl3
    replace hy3 := fun o => old_cell o hy3
    have B3 : Below W.heap.size W2 W3 := hk3.below (by have := (Array.getElem?_eq_some_iff.1 hrec).1; omega) (fun k hk e => by omega)
    have HJ := hide (hJ _ _ _ hJ2 B3)
    have hsz3 : Hid (W.heap.size ≤ W3.heap.size) := Nat.le_of_lt (World.block_lt_of_cell? W3 ⟨W.heap.size, 0, none⟩ (hk3.cell hy2 (cell_ne_loop hrec hy2)))
    have HRW := hide (hRB _ _ hR2 B3)
    clear hJ2 hy2 hR2 hcs hca hrd hk3 hrec hw0 hc1 hc2 hc3 hbl hRd B3
    have BH : Below W.heap.size W3 (W3.alloc (Obj.cells #[Value.int IntKind.i64 (zs[x0]?.getD 0), Value.int IntKind.i64 (zs[x1]?.getD 0), Value.int IntKind.i64 (zs[x2]?.getD 0), Value.int IntKind.i64 (zs[x3]?.getD 0), Value.int IntKind.i64 (zs[x4]?.getD 0)] 48)) :=
      (Below.refl _ W3).alloc hsz3.out _
    obtain ⟨fn, tmps, assign, body, hy, hR⟩ := YieldAt.anyD (m' := 0) (hY (pre.map (handOf zs)) (handOf zs [x0, x1, x2, x3, x4]) #[arr5 (handOf zs [x0, x1, x2, x3, x4])] _ (hJ _ _ _ HJ.out BH) (by obtain ⟨u, hu⟩ := hpre; exact ⟨u.map (handOf zs), by rw [← hu]; simp⟩) ⟨rfl, rfl⟩)
    simp only [arr5, handOf, List.map_cons, List.map_nil, List.getD, List.getElem?_cons_zero, List.getElem?_cons_succ, Option.getD_some] at hy
    have HBH := hide BH
    clear BH hY hJ
    gi_wp2
    refine wpIn_loop_rounds 6 ?_
    rw [roundsIn_succ]
    gi_wp2
    rw [roundsIn_succ]
    gi_wp2
    rw [roundsIn_succ]
    gi_wp2
    rw [roundsIn_succ]
    gi_wp2
    rw [roundsIn_succ]
    gi_wp2
    rw [roundsIn_succ]
    gi_wp2
    refine RoundIn.mono (F := Fence.wide.inRound l2) hR ?_
    rintro e W4 ⟨rfl, hJ4, hk4⟩
    have hy4 := hk4.cell (hy3 _) (fun hx => by have := hX _ hx; simp at this)
    have HR4 := hide (hRk _ _ (hRB _ _ HRW.out HBH.out) hk4)
    have HJ4 := hide hJ4
    have HK4 := hide (((Keeps.refl X W3).alloc _).trans hk4)
    have HY4 := hide hy4
    clear hy hR hJ4 hk4 hy4
    gi_wp2
    exact ⟨HK4.out, by rw [List.map_append]; exact HJ4.out, HY4.out, HR4.out⟩
  · rintro D W3 hD ⟨hJ3, _, _⟩ hK
    go_wp2
    refine ⟨by simp, .inl ⟨_, _, rfl, run_takeDeferred hK, ?_⟩⟩
    refine ⟨_, results_none rfl _ _ _, ⟨_, rfl⟩, hJ _ _ _ hJ3 ?_⟩
    exact (Below.refl W.heap.size W3).grown (grownBy_putObj' W3 _ _) (by have := (Array.getElem?_eq_some_iff.1 hK).1; omega) (fun k e => by cases e; omega)

end Go.Proofs.Ytdhacmcdbpojlaa
