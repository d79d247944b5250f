/-
  What poker.Showdown answers for cards that may be, where one card or none is still to come. No conditions beyond those that each theorem bears.
-/
import Derived.Test.YtdhacmcdbpojlaaRound
import Derived.Test.YtdhacmcdbpojlaaBest
import Derived.Test.YtdhacmcdbpojlaaCat
import Derived.Test.YtdhacmcdbpojlaaRuns
import Derived.Test.YtdhacmcdbpojlaaCounts
import Derived.Test.YtdhacmcdbpojlaaFaces
import Derived.Sort.CutIn
namespace Go.Proofs.Ytdhacmcdbpojlaa
open Go.RowKit Go.Shelf

/-- The best value of seven cards. -/
def bv7 (L : List Nat) : Int := (bestF ((comb 5 (List.range 7)).map (pick L))).1
def xv (A D R s : List Nat) : Int := bv7 (A ++ D ++ pick R s)
def winC (A E D R : List Nat) (xs : List (List Nat)) : Nat := (xs.filter (fun s => decide (xv E D R s < xv A D R s))).length
def tieC (A E D R : List Nat) (xs : List (List Nat)) : Nat := (xs.filter (fun s => decide (xv A D R s = xv E D R s))).length

theorem keeps_below {X : Nat → Prop} {w A C : World} (h : Keeps X w A) (hb : Below w.heap.size A C) : Keeps X w C :=
  ⟨hb.os.trans h.os, hb.tape.trans h.tape, hb.output.trans h.output, Nat.le_trans h.size hb.size, fun k hk hx => (hb.block k hk).trans (h.block k hk hx)⟩

theorem may_good {L : List Nat} (hlt : ∀ x ∈ L, x < 52) (hnd : L.Nodup) : mayE (toI L) = 0 := by
  have h1 : inRange (toI L) = true := by
    simp only [inRange, List.all_eq_true, decide_eq_true_eq, toI]
    intro z hz
    obtain ⟨x, hx, rfl⟩ := List.mem_map.1 hz
    have := hlt x hx
    omega
  have h2 : (toI L).Nodup := by
    unfold toI
    refine List.Pairwise.map _ ?_ hnd
    intro a b h e
    exact h (by omega)
  rw [mayE, if_pos h1, if_pos h2]

theorem boxed_below {w w' : World} {b t base : Nat} {v : Value} (h : Boxed w b t v) (hB : Below base w w') (hb : b < base) : Boxed w' b t v :=
  (hB.block b hb).trans h

theorem toI_app (L M : List Nat) : toI (L ++ M) = toI L ++ toI M := by simp [toI]

theorem keeps_box {X : Nat → Prop} {A C : World} {k : Nat} {t : TypeId} {v : Value} (h : Boxed A k t v) (hk : Keeps X A C) (hx : ¬ X k) : Boxed C k t v := (hk.block k h.lt hx).trans h

theorem own_below {w w' : World} {base n : Nat} {v : Value} {xs : List Value} (h : w.ownsRow base 3 1 v n xs) (hB : Below w.heap.size w w') : w'.ownsRow base 3 1 v n xs := by
  refine ⟨h.1, ?_⟩
  rcases h.2 with h0 | ⟨g, cap, cur, h1, h2, h3, h4, h5, h6, h7⟩
  · exact .inl h0
  · exact .inr ⟨g, cap, cur, h1, h2, (hB.block g (Array.getElem?_eq_some_iff.1 h3).1).trans h3, h4, h5, h6, h7⟩

theorem own_base {w : World} {base base' n : Nat} {v : Value} {xs : List Value} (h : w.ownsRow base 3 1 v n xs) (hb : base' ≤ base) : w.ownsRow base' 3 1 v n xs := by
  refine ⟨h.1, ?_⟩
  rcases h.2 with h0 | ⟨g, cap, cur, h1, h2, h3, h4, h5, h6, h7⟩
  · exact .inl h0
  · exact .inr ⟨g, cap, cur, h1, by omega, h3, h4, h5, h6, h7⟩

theorem conc2 (g : Nat) (x y : Option Addr) (cx cy n : Nat) (X Y : List Nat) (W : World) (hx : W.cell? ⟨g, 0, none⟩ = some (.slice x 2 cx)) (hy : W.cell? ⟨g, 1, none⟩ = some (.slice y n cy)) (RX : Rd W x 2 cx (toI X)) (RY : Rd W y n cy (toI Y)) (hn : n ≤ 5) :
    Calls Try.prog 31 #[.slice (some ⟨g, 0, none⟩) 2 2] W fun e w' => ∃ a' c', e = .returned (.slice a' (2 + n) c') ∧ w'.ownsRow W.heap.size 3 1 (.slice a' (2 + n) c') (2 + n) ((toI (X ++ Y)).map (Value.int .i64)) ∧ Below W.heap.size W w' := by
  have h := concat_any g 2 2 (fun | 0 => x | _ => y) (fun | 0 => 2 | _ => n) (fun | 0 => cx | _ => cy) (fun | 0 => toI X | _ => toI Y) W (by omega) (by omega) (by omega)
    (fun j hj => by
      rcases (by omega : j = 0 ∨ j = 1) with rfl | rfl
      · exact hx
      · exact hy)
    (fun j hj => by
      rcases (by omega : j = 0 ∨ j = 1) with rfl | rfl
      · exact RX
      · exact RY)
    (fun j => by
      match j with
      | 0 => simp
      | j + 1 => simp; omega)
    (by simp only [tot]; omega)
  have ht : tot (fun | 0 => 2 | _ => n) 2 = 2 + n := by simp [tot]
  have hct : cat (fun | 0 => toI X | _ => toI Y) 2 = toI (X ++ Y) := by rw [toI_app]; rfl
  rw [ht, hct] at h
  exact h

theorem two_cells (W : World) (x y : Value) (t : TypeId) : (W.alloc (Obj.cells #[x, y] t)).cell? ⟨W.heap.size, 0, none⟩ = some x ∧ (W.alloc (Obj.cells #[x, y] t)).cell? ⟨W.heap.size, 1, none⟩ = some y := by
  refine ⟨?_, ?_⟩ <;> go_simp

theorem own_apart {w w' : World} {base n n' : Nat} {v v' : Value} {xs xs' : List Value} (h : w.ownsRow base 3 1 v n xs) (h' : w'.ownsRow w.heap.size 3 1 v' n' xs') (hn : 0 < n) : v.ownBlock ≠ v'.ownBlock := by
  intro e
  cases hb : v.ownBlock with
  | none =>
    rcases h.2 with ⟨_, h0⟩ | ⟨g, cap, cur, h1, _⟩
    · omega
    · rw [h1] at hb; simp [Value.ownBlock] at hb
  | some k =>
    have h1 := (h.lt k hb).2
    have h2 := (h'.lt k (by rw [← e]; exact hb)).1
    omega

theorem box_far {W : World} {k : Nat} {t : TypeId} {v : Value} (h : Boxed W k t v) {q : Addr} (hq : q.block ≠ k) (u : Value) : Boxed (W.setCell q u) k t v := by
  have h' : W.heap[k]? = _ := h
  simp [Boxed, World.setCell, Array.getElem?_modify, hq, h']

theorem box_set {W : World} {k : Nat} {t : TypeId} {v : Value} (h : Boxed W k t v) (u : Value) : Boxed (W.setCell ⟨k, 0, none⟩ u) k t u := by
  have h' : W.heap[k]? = _ := h
  simp [Boxed, World.setCell, Array.getElem?_modify, h']

theorem getD_lt52 {L : List Nat} (h : ∀ x ∈ L, x < 52) (i : Nat) : L.getD i 0 < 52 := by
  by_cases hi : i < L.length
  · have : L.getD i 0 = L[i] := by simp [List.getD, hi]
    rw [this]; exact h _ (List.getElem_mem hi)
  · simp [List.getD, hi]

theorem one_own (W : World) (x : Int) : (W.alloc (Obj.cells #[Value.int .i64 x] 3)).ownsRow 0 3 1 (.slice (some ⟨W.heap.size, 0, none⟩) 1 1) 1 ([x].map (Value.int .i64)) :=
  ⟨by simp, .inr ⟨W.heap.size, 1, _, rfl, Nat.zero_le _, heap_alloc_new W _, Nat.le_refl _, by unfold maxLen; omega, by simp, by simp⟩⟩

theorem own_drew {w : World} {base n : Nat} {v : Value} {xs : List Value} (h : w.ownsRow base 3 1 v n xs) : w.drew.ownsRow base 3 1 v n xs := h

theorem own_ne {w : World} {b b' n n' : Nat} {v v' : Value} {xs xs' : List Value} (h : w.ownsRow b 3 1 v n xs) (h' : w.ownsRow b' 3 1 v' n' xs') (hn : 0 < n) (hn' : 0 < n') (hne : xs[0]? ≠ xs'[0]?) : v.ownBlock ≠ v'.ownBlock := by
  intro e
  rcases h.2 with ⟨_, h0⟩ | ⟨g, cap, cur, rfl, _, hg, _, _, _, ht⟩
  · omega
  rcases h'.2 with ⟨_, h0⟩ | ⟨g', cap', cur', rfl, _, hg', _, _, _, ht'⟩
  · omega
  simp only [Value.ownBlock, Option.some.injEq] at e
  subst e
  rw [hg] at hg'
  simp only [Option.some.injEq, Obj.cells.injEq, and_true] at hg'
  subst hg'
  apply hne
  rw [← ht, ← ht', List.getElem?_take, List.getElem?_take, if_pos (by omega), if_pos (by omega)]

theorem own_ne1 {w : World} {b b' n g : Nat} {v : Value} {xs ys : List Value} (h : w.ownsRow b 3 1 v n xs) (h' : w.ownsRow b' 3 1 (.slice (some ⟨g, 0, none⟩) 1 1) 1 ys) (hn : 1 < n) : (Value.slice (some ⟨g, 0, none⟩) 1 1).ownBlock ≠ v.ownBlock := by
  intro e
  rcases h.2 with ⟨_, h0⟩ | ⟨g1, cap, cur, rfl, _, hg, hc, _, hcs, ht⟩
  · omega
  rcases h'.2 with ⟨_, h0⟩ | ⟨g', cap', cur', hv, _, hg', _, _, hcs', ht'⟩
  · omega
  simp only [Value.slice.injEq, Option.some.injEq, Addr.mk.injEq] at hv
  simp only [Value.ownBlock, Option.some.injEq] at e
  obtain ⟨⟨hvg, _⟩, _, hvc⟩ := hv
  subst e
  rw [hvg] at hg
  rw [hg] at hg'
  simp only [Option.some.injEq, Obj.cells.injEq, and_true] at hg'
  subst hg'
  omega

theorem heads {A E : List Nat} (hA : A.length = 2) (hE : E.length = 2) (D : List Nat) (hnd : (A ++ E ++ D).Nodup) (L M : List Nat) : ((toI (A ++ L)).map (Value.int .i64))[0]? ≠ ((toI (E ++ M)).map (Value.int .i64))[0]? := by
  match A, E, hA, hE with
  | [a0, a1], [e0, e1], _, _ =>
    intro e
    simp [toI] at e
    simp at hnd
    omega

theorem pick1 {R : List Nat} {t0 tv : Nat} (h : R.getD t0 0 = tv) : toI (pick R [t0]) = [(tv : Int)] := by
  simp only [pick, List.map_cons, List.map_nil, h, toI]

theorem results_ccct {fn : Func} {t u v x : Tmp} (h : fn.results = #[.cell t 3, .cell u 3, .cell v 3, .tmp x]) (tmps : Array Value) (w : World) (b b' b'' : Nat) (hb : tmps.getD t undef = .pointer (some ⟨b, 0, none⟩)) (hb2 : tmps.getD u undef = .pointer (some ⟨b', 0, none⟩)) (hb3 : tmps.getD v undef = .pointer (some ⟨b'', 0, none⟩)) (x0 x1 x2 : Int) (h0 : w.cell? ⟨b, 0, none⟩ = some (.int .i64 x0)) (h1 : w.cell? ⟨b', 0, none⟩ = some (.int .i64 x1)) (h2 : w.cell? ⟨b'', 0, none⟩ = some (.int .i64 x2)) :
    (results fn tmps).run Try.prog w = .ok (.tuple #[.int .i64 x0, .int .i64 x1, .int .i64 x2, tmps.getD x undef]) w := by
  have hl := load3 w b x0 h0
  have hl' := load3 w b' x1 h1
  have hl'' := load3 w b'' x2 h2
  have e1 : tmps[t]?.getD undef = .pointer (some ⟨b, 0, none⟩) := by simpa using hb
  have e2 : tmps[u]?.getD undef = .pointer (some ⟨b', 0, none⟩) := by simpa using hb2
  have e3 : tmps[v]?.getD undef = .pointer (some ⟨b'', 0, none⟩) := by simpa using hb3
  have ha : (asAddr (.pointer (some ⟨b, 0, none⟩))).run Try.prog w = .ok ⟨b, 0, none⟩ w := rfl
  have ha' : (asAddr (.pointer (some ⟨b', 0, none⟩))).run Try.prog w = .ok ⟨b', 0, none⟩ w := rfl
  have ha'' : (asAddr (.pointer (some ⟨b'', 0, none⟩))).run Try.prog w = .ok ⟨b'', 0, none⟩ w := rfl
  simp [results, h, e1, e2, e3, ha, ha', ha'', hl, hl', hl'', Sem.run_bind, Result.andThen]

theorem othK_lower : ∀ (k : Nat) (zs : List Int), k ≤ (othK zs k).length + zs.length
  | 0, zs => by omega
  | k + 1, zs => by
    rw [othK_succ]
    by_cases h : zs.contains (k : Int) = true
    · have hm : (k : Int) ∈ zs := by simpa using h
      have e : othK zs k = othK (zs.erase (k : Int)) k := by
        unfold othK
        apply List.filter_congr
        intro c hc
        have hne : (c : Int) ≠ (k : Int) := by have := List.mem_range.1 hc; omega
        simp [List.mem_erase_of_ne hne]
      have hi := othK_lower k (zs.erase (k : Int))
      rw [List.length_erase_of_mem hm] at hi
      have hp : 0 < zs.length := List.length_pos_of_mem hm
      rw [if_pos h, List.append_nil, e]
      omega
    · have hi := othK_lower k zs
      rw [if_neg h, List.length_append, List.length_singleton]
      omega

theorem winC_snoc (A E D R : List Nat) (pre : List (List Nat)) (s : List Nat) : winC A E D R (pre ++ [s]) = winC A E D R pre + (if xv E D R s < xv A D R s then 1 else 0) := by
  unfold winC
  rw [List.filter_append, List.length_append]
  by_cases h : xv E D R s < xv A D R s <;> simp [h]
theorem tieC_snoc (A E D R : List Nat) (pre : List (List Nat)) (s : List Nat) : tieC A E D R (pre ++ [s]) = tieC A E D R pre + (if xv A D R s = xv E D R s then 1 else 0) := by
  unfold tieC
  rw [List.filter_append, List.length_append]
  by_cases h : xv A D R s = xv E D R s <;> simp [h]
theorem winC_le (A E D R : List Nat) (pre : List (List Nat)) : winC A E D R pre ≤ pre.length := List.length_filter_le _ _
theorem tieC_le (A E D R : List Nat) (pre : List (List Nat)) : tieC A E D R pre ≤ pre.length := List.length_filter_le _ _

theorem best7 (f : Option Addr) (e : Nat) (L : List Nat) (h52 : ∀ x ∈ L, x < 52) (W : World) (h : Rd W f 7 e (toI L)) :
    Calls Try.prog 23 #[.slice f 7 e] W fun ee w' => ∃ x0 x1 x2 x3 x4 : Nat, ee = .returned (.tuple #[.int .i64 (bv7 L), arrN x0 x1 x2 x3 x4]) ∧ Below W.heap.size W w' := by
  obtain ⟨rest5, hc5, hrun5, hok5⟩ := sets567 7 (by omega) (by omega)
  refine (best_any f 7 e L (by omega) (by omega) (getD_lt52 h52) rest5 hrun5 hok5 W h).mono ?_
  rintro ee w' ⟨v, x0, x1, x2, x3, x4, hb, rfl, hB⟩
  refine ⟨x0, x1, x2, x3, x4, ?_, hB⟩
  rw [bv7, hc5, hb]

/-- What holds between the rounds. -/
structure DuelI (A E D R : List Nat) (w0 : World) (b : Nat) (pre : List (List Nat)) (W : World) : Prop where
  win : Boxed W (b + 3) 3 (.int .i64 (winC A E D R pre : Nat))
  tie : Boxed W (b + 4) 3 (.int .i64 (tieC A E D R pre : Nat))
  all : Boxed W (b + 5) 3 (.int .i64 (pre.length : Nat))
  keeps : Keeps (fun q => q = b + 3 ∨ q = b + 4 ∨ q = b + 5) w0 W

attribute [local go_sem] Oper.semAt_some wide_fn wide_fn0 wide_depth

set_option maxRecDepth 100000 in
set_option maxHeartbeats 4000000 in
theorem Showdown_ok (aA aE aD : Option Addr) (cA cE cD m : Nat) (A E D : List Nat) (hA : A.length = 2) (hE : E.length = 2) (hD : D.length = m) (hm : m = 4 ∨ m = 5)
    (hlt : ∀ x ∈ A ++ E ++ D, x < 52) (hnd : (A ++ E ++ D).Nodup) (w : World) (RA : Rd w aA 2 cA (toI A)) (RE : Rd w aE 2 cE (toI E)) (RD : Rd w aD m cD (toI D)) :
    Calls Try.prog 17 #[.slice aA 2 cA, .slice aE 2 cE, .slice aD m cD] w fun e w' => e = .returned (.tuple #[.int .i64 (winC A E D (othK (toI (A ++ E ++ D)) 52) (comb (5 - m) (List.range (othK (toI (A ++ E ++ D)) 52).length)) : Nat), .int .i64 (tieC A E D (othK (toI (A ++ E ++ D)) 52) (comb (5 - m) (List.range (othK (toI (A ++ E ++ D)) 52).length)) : Nat), .int .i64 ((comb (5 - m) (List.range (othK (toI (A ++ E ++ D)) 52).length)).length : Nat), .int .i64 0]) ∧ Below w.heap.size w w' := by
  obtain ⟨k, hk⟩ : ∃ k, 5 - m = k := ⟨_, rfl⟩
  have hk2 : (5 : Int) - (m : Int) = (k : Int) := by omega
  rw [hk]
  have HA := hide RA
  have HE := hide RE
  have HD := hide RD
  have g3 : ¬ (m : Int) < 3 := by omega
  have g5 : ¬ (5 : Int) < (m : Int) := by omega
  have d3 : decide ((m : Int) < 3) = false := by simp; omega
  have d5 : decide ((5 : Int) < (m : Int)) = false := by simp; omega
  have hmy := may_good hlt hnd
  have HMY := hide hmy
  have hkl : (toI (A ++ E ++ D)).length = 4 + m := by rw [toI_length]; simp [hA, hE, hD]; omega
  have HKL := hide hkl
  have HCAT : Hid (toI (A ++ E ++ D) = [] ++ toI A ++ toI E ++ toI D) := hide (by rw [toI_app, toI_app]; simp)
  obtain ⟨KN, hKN⟩ : ∃ K, toI (A ++ E ++ D) = K := ⟨_, rfl⟩
  rw [hKN] at HMY HKL HCAT ⊢
  obtain ⟨R, hR⟩ : ∃ R, othK KN 52 = R := ⟨_, rfl⟩
  have hRl : R.length ≤ 52 := by rw [← hR]; exact othK_len _ _
  rw [hR]
  have HROTH := hide hR
  have HRPOS : Hid (1 ≤ R.length) := hide (by have h1 := othK_lower 52 KN; have h2 := HKL.out; rw [HROTH.out] at h1; omega)
  clear RA RE RD hmy hkl hKN hR
  refine (callsIn_wide (n := 0)).1 ?_
  refine callsIn_of_wp_marks Try.func17 rfl trivial ?_ rfl
  simp only [Try.ntmps17, List.size_toArray, List.length_cons, List.length_nil, Nat.reduceAdd, Nat.reduceSub, Array.replicate_succ, Array.replicate_zero, List.push_toArray, List.append_toArray, List.nil_append, List.cons_append]
  refine wpIn_wide.2 ?_
  go_wp2_with fail
  obtain ⟨w1, hw1⟩ : ∃ w1, ((((((w.alloc (Obj.cells #[Value.slice aA 2 cA] 22)).alloc (Obj.cells #[Value.slice aE 2 cE] 22)).alloc (Obj.cells #[Value.slice aD m cD] 22)).alloc (Obj.cells #[Value.int IntKind.i64 0] 3)).alloc (Obj.cells #[Value.int IntKind.i64 0] 3)).alloc (Obj.cells #[Value.int IntKind.i64 0] 3)).alloc (Obj.cells #[Value.slice aA 2 cA, Value.slice aE 2 cE, Value.slice aD m cD] 22) = w1 := ⟨_, rfl⟩
  have B1 : Below w.heap.size w w1 := by
    rw [← hw1]
    exact (((((((Below.refl _ w).alloc (Nat.le_refl _) _).alloc (by simp) _).alloc (by simp; omega) _).alloc (by simp; omega) _).alloc (by simp; omega) _).alloc (by simp; omega) _).alloc (by simp; omega) _
  have hs1 : w1.heap.size = w.heap.size + 7 := by rw [← hw1]; simp
  have bx0 : Boxed w1 w.heap.size 22 (.slice aA 2 cA) := by rw [← hw1]; exact ((((((Boxed.new w 22 _).alloc _).alloc _).alloc _).alloc _).alloc _).alloc _
  have bx1 : Boxed w1 (w.heap.size + 1) 22 (.slice aE 2 cE) := by
    rw [← hw1]
    have := (((((Boxed.new (w.alloc (Obj.cells #[Value.slice aA 2 cA] 22)) 22 (.slice aE 2 cE)).alloc (Obj.cells #[Value.slice aD m cD] 22)).alloc (Obj.cells #[Value.int IntKind.i64 0] 3)).alloc (Obj.cells #[Value.int IntKind.i64 0] 3)).alloc (Obj.cells #[Value.int IntKind.i64 0] 3)).alloc (Obj.cells #[Value.slice aA 2 cA, Value.slice aE 2 cE, Value.slice aD m cD] 22)
    simpa using this
  have bx2 : Boxed w1 (w.heap.size + 2) 22 (.slice aD m cD) := by
    rw [← hw1]
    have := ((((Boxed.new ((w.alloc (Obj.cells #[Value.slice aA 2 cA] 22)).alloc (Obj.cells #[Value.slice aE 2 cE] 22)) 22 (.slice aD m cD)).alloc (Obj.cells #[Value.int IntKind.i64 0] 3)).alloc (Obj.cells #[Value.int IntKind.i64 0] 3)).alloc (Obj.cells #[Value.int IntKind.i64 0] 3)).alloc (Obj.cells #[Value.slice aA 2 cA, Value.slice aE 2 cE, Value.slice aD m cD] 22)
    simpa using this
  have bx3 : Boxed w1 (w.heap.size + 3) 3 (.int .i64 0) := by
    rw [← hw1]
    have := (((Boxed.new (((w.alloc (Obj.cells #[Value.slice aA 2 cA] 22)).alloc (Obj.cells #[Value.slice aE 2 cE] 22)).alloc (Obj.cells #[Value.slice aD m cD] 22)) 3 (.int .i64 0)).alloc (Obj.cells #[Value.int IntKind.i64 0] 3)).alloc (Obj.cells #[Value.int IntKind.i64 0] 3)).alloc (Obj.cells #[Value.slice aA 2 cA, Value.slice aE 2 cE, Value.slice aD m cD] 22)
    simpa using this
  have bx4 : Boxed w1 (w.heap.size + 4) 3 (.int .i64 0) := by
    rw [← hw1]
    have := ((Boxed.new ((((w.alloc (Obj.cells #[Value.slice aA 2 cA] 22)).alloc (Obj.cells #[Value.slice aE 2 cE] 22)).alloc (Obj.cells #[Value.slice aD m cD] 22)).alloc (Obj.cells #[Value.int IntKind.i64 0] 3)) 3 (.int .i64 0)).alloc (Obj.cells #[Value.int IntKind.i64 0] 3)).alloc (Obj.cells #[Value.slice aA 2 cA, Value.slice aE 2 cE, Value.slice aD m cD] 22)
    simpa using this
  have bx5 : Boxed w1 (w.heap.size + 5) 3 (.int .i64 0) := by
    rw [← hw1]
    have := (Boxed.new (((((w.alloc (Obj.cells #[Value.slice aA 2 cA] 22)).alloc (Obj.cells #[Value.slice aE 2 cE] 22)).alloc (Obj.cells #[Value.slice aD m cD] 22)).alloc (Obj.cells #[Value.int IntKind.i64 0] 3)).alloc (Obj.cells #[Value.int IntKind.i64 0] 3)) 3 (.int .i64 0)).alloc (Obj.cells #[Value.slice aA 2 cA, Value.slice aE 2 cE, Value.slice aD m cD] 22)
    simpa using this
  have cc : ∀ j, j < 3 → w1.cell? ⟨w.heap.size + 6, j, none⟩ = some (match j with | 0 => .slice aA 2 cA | 1 => .slice aE 2 cE | _ => .slice aD m cD) := by
    intro j hj
    have h6 : w1.heap[w.heap.size + 6]? = some (Obj.cells #[Value.slice aA 2 cA, Value.slice aE 2 cE, Value.slice aD m cD] 22) := by
      rw [← hw1]
      have := World.alloc_heap_new ((((((w.alloc (Obj.cells #[Value.slice aA 2 cA] 22)).alloc (Obj.cells #[Value.slice aE 2 cE] 22)).alloc (Obj.cells #[Value.slice aD m cD] 22)).alloc (Obj.cells #[Value.int IntKind.i64 0] 3)).alloc (Obj.cells #[Value.int IntKind.i64 0] 3)).alloc (Obj.cells #[Value.int IntKind.i64 0] 3)) (Obj.cells #[Value.slice aA 2 cA, Value.slice aE 2 cE, Value.slice aD m cD] 22)
      rw [show ((((((w.alloc (Obj.cells #[Value.slice aA 2 cA] 22)).alloc (Obj.cells #[Value.slice aE 2 cE] 22)).alloc (Obj.cells #[Value.slice aD m cD] 22)).alloc (Obj.cells #[Value.int IntKind.i64 0] 3)).alloc (Obj.cells #[Value.int IntKind.i64 0] 3)).alloc (Obj.cells #[Value.int IntKind.i64 0] 3)).heap.size = w.heap.size + 6 by simp] at this
      exact this
    rcases (by omega : j = 0 ∨ j = 1 ∨ j = 2) with rfl | rfl | rfl <;> simp [World.cell?, h6]
  rw [hw1]
  have CT := hide (concat_any (w.heap.size + 6) 3 3 (fun | 0 => aA | 1 => aE | _ => aD) (fun | 0 => 2 | 1 => 2 | _ => m) (fun | 0 => cA | 1 => cE | _ => cD) (fun | 0 => toI A | 1 => toI E | _ => toI D) w1 (by omega) (by omega) (by omega)
    (fun j hj => by rw [cc j hj]; rcases (by omega : j = 0 ∨ j = 1 ∨ j = 2) with rfl | rfl | rfl <;> rfl)
    (fun j hj => by
      rcases (by omega : j = 0 ∨ j = 1 ∨ j = 2) with rfl | rfl | rfl
      · exact HA.out.mono B1
      · exact HE.out.mono B1
      · exact HD.out.mono B1)
    (fun j => by
      match j with
      | 0 => simp
      | 1 => simp
      | j + 2 => simp; omega)
    (by simp only [tot]; omega))
  have HBX := hide (And.intro bx0 (And.intro bx1 (And.intro bx2 (And.intro bx3 (And.intro bx4 bx5)))))
  have HB1 := hide B1
  clear hw1 bx0 bx1 bx2 bx3 bx4 bx5 cc B1
  refine CT.out.mono ?_
  rintro e w2 ⟨a2, c2, rfl, hO2, hB2⟩
  have ht : tot (fun | 0 => 2 | 1 => 2 | _ => m) 3 = 4 + m := by simp [tot]
  have hct : cat (fun | 0 => toI A | 1 => toI E | _ => toI D) 3 = KN := by rw [HCAT.out]; rfl
  rw [ht, hct] at hO2
  rw [ht]
  have HR2 := hide (Rd.of_own hO2)
  have HB2 := hide (HB1.out.trans (hB2.mono HB1.out.size))
  obtain ⟨y0, y1, y2, y3, y4, y5⟩ := HBX.out
  have BX2 := hide (And.intro (boxed_below y0 hB2 y0.lt) (And.intro (boxed_below y1 hB2 y1.lt) (And.intro (boxed_below y2 hB2 y2.lt) (And.intro (boxed_below y3 hB2 y3.lt) (And.intro (boxed_below y4 hB2 y4.lt) (boxed_below y5 hB2 y5.lt))))))
  have hs2 := hB2.size
  clear hO2 hB2 ht hct y0 y1 y2 y3 y4 y5 HBX HB1 CT HCAT
  have CA := hide (cards_any a2 (4 + m) c2 KN w2 HR2.out (by omega))
  rw [HMY.out] at CA
  go_wp2_with fail
  refine CA.out.mono ?_
  rintro e w3 ⟨rfl, hB3⟩
  have HR3 := hide (HR2.out.mono hB3)
  have HB3 := hide (HB2.out.trans (hB3.mono HB2.out.size))
  obtain ⟨y0, y1, y2, y3, y4, y5⟩ := BX2.out
  have BX3 := hide (And.intro (boxed_below y0 hB3 y0.lt) (And.intro (boxed_below y1 hB3 y1.lt) (And.intro (boxed_below y2 hB3 y2.lt) (And.intro (boxed_below y3 hB3 y3.lt) (And.intro (boxed_below y4 hB3 y4.lt) (boxed_below y5 hB3 y5.lt))))))
  have hs3 := hB3.size
  clear hB3 y0 y1 y2 y3 y4 y5 BX2 HB2 CA HR2
  have OT := hide (others_any a2 (4 + m) c2 KN w3 HR3.out)
  rw [HROTH.out] at OT
  go_wp2_with fail
  refine OT.out.mono ?_
  rintro e w4 ⟨a4, c4, rfl, hR4, hnew4, hB4⟩
  have HR4 := hide hR4
  have HB4 := hide (HB3.out.trans (hB4.mono HB3.out.size))
  obtain ⟨y0, y1, y2, y3, y4, y5⟩ := BX3.out
  have BX4 := hide (And.intro (boxed_below y0 hB4 y0.lt) (And.intro (boxed_below y1 hB4 y1.lt) (And.intro (boxed_below y2 hB4 y2.lt) (And.intro (boxed_below y3 hB4 y3.lt) (And.intro (boxed_below y4 hB4 y4.lt) (boxed_below y5 hB4 y5.lt))))))
  have hs4 := hB4.size
  have HN4 := hide hnew4
  clear hB4 hR4 hnew4 y0 y1 y2 y3 y4 y5 BX3 HB3 OT HR3
  obtain ⟨z0, z1, z2, z3, z4, z5⟩ := BX4.out
  have q2 : (w4.alloc (Obj.cells #[Value.slice a4 R.length c4] 22)).cell? ⟨w.heap.size + 1 + 1, 0, none⟩ = some (.slice aD m cD) := old_cell _ z2.cell
  go_wp2_with fail
  refine (sets_any R.length k _).mono ?_
  rintro e w5 ⟨rfl, hw5⟩
  subst hw5
  go_wp2_with fail
  obtain ⟨P, hP⟩ : ∃ P, w4.heap.size = P := ⟨_, rfl⟩
  obtain ⟨w0, hw0⟩ : ∃ w0, ((w4.alloc (Obj.cells #[Value.slice a4 R.length c4] 22)).alloc (Obj.cells #[Value.int IntKind.i64 R.length] 3)).alloc (Obj.cells #[Value.int IntKind.i64 k] 3) = w0 := ⟨_, rfl⟩
  have hsz : w0.heap.size = P + 3 := by rw [← hw0]; simp; omega
  have hB0 : Below w4.heap.size w4 w0 := by rw [← hw0]; exact (((Below.refl _ w4).alloc (Nat.le_refl _) _).alloc (by simp) _).alloc (by simp; omega) _
  have hrest0 : Boxed w0 P 22 (.slice a4 R.length c4) := by rw [← hw0, ← hP]; exact ((Boxed.new w4 22 _).alloc _).alloc _
  have hn0 : w0.cell? ⟨P + 1, 0, none⟩ = some (.int .i64 (R.length : Nat)) := by
    rw [← hw0, ← hP]
    have := (old_cell (Obj.cells #[Value.int IntKind.i64 k] 3) (new_cell (w4.alloc (Obj.cells #[Value.slice a4 R.length c4] 22)) (.int .i64 R.length) 3))
    rw [World.size_alloc] at this
    exact this
  have hk0 : w0.cell? ⟨P + 2, 0, none⟩ = some (.int .i64 (k : Nat)) := by
    rw [← hw0, ← hP]
    have := (new_cell ((w4.alloc (Obj.cells #[Value.slice a4 R.length c4] 22)).alloc (Obj.cells #[Value.int IntKind.i64 R.length] 3)) (.int .i64 k) 3)
    rw [World.size_alloc, World.size_alloc] at this
    exact this
  rw [hw0, hP]
  have HBX0 := hide (And.intro (boxed_below z0 hB0 z0.lt) (And.intro (boxed_below z1 hB0 z1.lt) (boxed_below z2 hB0 z2.lt)))
  have x3 := boxed_below z3 hB0 z3.lt
  have x4 := boxed_below z4 hB0 z4.lt
  have x5 := boxed_below z5 hB0 z5.lt
  have HBW0 := hide (HB4.out.trans (hB0.mono HB4.out.size))
  have HRR0 := hide (HR4.out.mono hB0)
  have hbP : w.heap.size + 7 ≤ P := by omega
  have hI0 : DuelI A E D R w0 w.heap.size [] w0 := ⟨x3, x4, x5, Keeps.refl _ _⟩
  have HREST := hide hrest0
  clear hw0 x3 x4 x5 hrest0 hB0 z0 z1 z2 z3 z4 z5 q2 BX4 HB4 HR4
  have hkR : k ≤ R.length := by have := HRPOS.out; omega
  obtain ⟨rest, hcomb, hrun⟩ := sets_run R.length k hkR
  have hok := sets_ok R.length k (by have := HRPOS.out; omega)
  rw [hcomb] at hok
  have HCOMB := hide hcomb
  clear hcomb
  have HRA0 : Hid (∀ W, Keeps (fun q => q = w.heap.size + 3 ∨ q = w.heap.size + 4 ∨ q = w.heap.size + 5) w0 W → Rd W aA 2 cA (toI A) ∧ Rd W aE 2 cE (toI E) ∧ Rd W aD m cD (toI D) ∧ Rd W a4 R.length c4 (toI R) ∧ Boxed W w.heap.size 22 (.slice aA 2 cA) ∧ Boxed W (w.heap.size + 1) 22 (.slice aE 2 cE) ∧ Boxed W (w.heap.size + 2) 22 (.slice aD m cD) ∧ Boxed W P 22 (.slice a4 R.length c4)) := hide (fun W hW => by
    have old : ∀ {a : Option Addr} {n c : Nat} {zs : List Int}, Rd w a n c zs → 0 < n → Rd W a n c zs := fun h h0 => (h.mono HBW0.out).keeps hW (fun b off e => by
      obtain ⟨b', off', e', hc⟩ := h.cells h0
      have hlt' : b' < w.heap.size := World.block_lt_of_cell? w ⟨b', off' + 0, none⟩ (hc 0 h0)
      rw [e'] at e
      cases e
      omega)
    refine ⟨old HA.out (by omega), old HE.out (by omega), old HD.out (by omega), HRR0.out.keeps hW (fun b off e => by have := HN4.out b off e; omega), keeps_box HBX0.out.1 hW (by omega), keeps_box HBX0.out.2.1 hW (by omega), keeps_box HBX0.out.2.2 hW (by omega), keeps_box HREST.out hW (by omega)⟩)
  refine (wpIn_wide (n := 1)).1 (wp_range_all (gf := 47) (lb := #[.pointer (some ⟨P + 2, 0, none⟩), .pointer (some ⟨P + 1, 0, none⟩)]) (G := GSet k) (R := RSet (P + 2) (P + 1) R.length k) (xs := List.range k :: rest) (by simp [Act.eval]) (enters_of Try.func47 (by kernel_rfl) rfl)
    (sets1_all (P + 2) (P + 1) R.length k hkR (by omega) rest hrun (fun x hx => ⟨(hok x hx).1, fun i => by have := (hok x hx).2 i; omega⟩)) (fun q => q = w.heap.size + 3 ∨ q = w.heap.size + 4 ∨ q = w.heap.size + 5) (fun q hq => by omega) ⟨hk0, hn0⟩ ?_ ?_
    (fun pre W' => DuelI A E D R w0 w.heap.size pre W') ?_ hI0 ?_ ?_)
  · intro l' A' B' hl' hA' hkk
    refine ⟨hkk.cell hA'.1 ?_, hkk.cell hA'.2 ?_⟩
    · rintro (hx | hx)
      · simp at hx; omega
      · simp at hx; omega
    · rintro (hx | hx)
      · simp at hx; omega
      · simp at hx; omega
  · rintro x args W' ⟨ad, rfl, _⟩; rfl
  · rintro pre A' B' hI hb
    exact ⟨boxed_below hI.win hb (by omega), boxed_below hI.tie hb (by omega), boxed_below hI.all hb (by omega), keeps_below hI.keeps hb⟩
  · rintro l2 pre s args W2 hl2 ⟨rec, hrec⟩ hI hpre ⟨ad, rfl, hrd⟩
    have hmem : s ∈ List.range k :: rest := hpre.subset (by simp)
    obtain ⟨hsk, hsb⟩ := hok s hmem
    gi_wp2
    refine ⟨Keeps.refl _ _, ?_⟩
    intro W3 hk3
    have hk03 : Keeps (fun q => q = w.heap.size + 3 ∨ q = w.heap.size + 4 ∨ q = w.heap.size + 5) w0 W3 := by
      refine ⟨hk3.os.trans hI.keeps.os, hk3.tape.trans hI.keeps.tape, hk3.output.trans hI.keeps.output, Nat.le_trans hI.keeps.size hk3.size, fun q hq hx => ?_⟩
      exact (hk3.block q (Nat.lt_of_lt_of_le hq hI.keeps.size) (by omega)).trans (hI.keeps.block q hq hx)
    have hrd3 : Rd W3 ad k k (toI s) := by
      refine ⟨hrd.len, hrd.cap, hrd.max, hrd.nil, fun h0 => ?_⟩
      obtain ⟨b', off', e', hc⟩ := hrd.cells h0
      exact ⟨b', off', e', fun i hi => hk3.cell (hc i hi) (cell_ne_loop hrec (hc i hi))⟩
    have bw3 : Boxed W3 (w.heap.size + 3) 3 (.int .i64 (winC A E D R pre : Nat)) := keeps_box hI.win hk3 (by omega)
    have bt3 : Boxed W3 (w.heap.size + 4) 3 (.int .i64 (tieC A E D R pre : Nat)) := keeps_box hI.tie hk3 (by omega)
    have bn3 : Boxed W3 (w.heap.size + 5) 3 (.int .i64 (pre.length : Nat)) := keeps_box hI.all hk3 (by omega)
    obtain ⟨ra3, re3, rd3, rr3, ba3, be3, bd3, br3⟩ := HRA0.out W3 hk03
    have HA3 := hide ra3
    have HE3 := hide re3
    have HD3 := hide rd3
    have HRR3 := hide rr3
    have HBW3 := hide (And.intro bw3 (And.intro bt3 bn3))
    have HSET := hide hrd3
    have HK03 := hide hk03
    have HK : Hid (∀ W, Below W3.heap.size W3 W → W.cell? ⟨w.heap.size, 0, none⟩ = some (.slice aA 2 cA) ∧ W.cell? ⟨w.heap.size + 1, 0, none⟩ = some (.slice aE 2 cE) ∧ W.cell? ⟨w.heap.size + 1 + 1, 0, none⟩ = some (.slice aD m cD) ∧ W.cell? ⟨P, 0, none⟩ = some (.slice a4 R.length c4)) := hide (fun W hW =>
      ⟨(boxed_below ba3 hW ba3.lt).cell, (boxed_below be3 hW be3.lt).cell, (boxed_below bd3 hW bd3.lt).cell, (boxed_below br3 hW br3.lt).cell⟩)
    have hs3' : P + 3 ≤ W3.heap.size := by have := hk03.size; omega
    have HPRE := hide hpre
    have HOKS := hide (And.intro hsk hsb)
    clear ra3 re3 rd3 rr3 ba3 be3 bd3 br3 bw3 bt3 bn3 hrd3 hk03 hk3 hI hrd hrec hmem hpre hsk hsb
    gi_upto_region 10 with fail
    gi_cut [14, 15] from 59 (fun s14 s15 wc => ∃ f1 e1 f2 e2, s14 = .slice f1 (2 + m) e1 ∧ s15 = .slice f2 (2 + m) e2 ∧ Hid (wc.ownsRow W3.heap.size 3 1 (.slice f1 (2 + m) e1) (2 + m) ((toI (A ++ D)).map (Value.int .i64))) ∧ Hid (wc.ownsRow W3.heap.size 3 1 (.slice f2 (2 + m) e2) (2 + m) ((toI (E ++ D)).map (Value.int .i64))) ∧ Hid (Below W3.heap.size W3 wc) ∧ Hid ((Value.slice f1 (2 + m) e1).ownBlock ≠ (Value.slice f2 (2 + m) e2).ownBlock))
    case first =>
      refine wp_region_round (S := fun W => Below W3.heap.size W3 W) (by kernel_rfl) (by kernel_rfl) (by rintro ⟨_, _, h⟩; exact h) ?_
      have SW : Below W3.heap.size W3 W3.drew := (Below.refl _ W3).drew
      refine wpAnyH_take (i := 0) (v := .slice aA 2 cA) rfl (by kernel_rfl) (by kernel_rfl) (by kernel_rfl) (fun _ _ _ h => h) (Or.inl ⟨by rfl, ?_⟩) SW ?_
      · intro W hW
        obtain ⟨x0, x1, x2, x3⟩ := HK.out W hW
        go_simp
      go_simp
      refine wpAnyH_take (i := 1) (v := .slice aD m cD) rfl (by kernel_rfl) (by kernel_rfl) (by kernel_rfl) (fun _ _ _ h => h) (Or.inl ⟨by rfl, ?_⟩) SW ?_
      · intro W hW
        obtain ⟨x0, x1, x2, x3⟩ := HK.out W hW
        go_simp
      go_simp
      refine wpAnyH_take (i := 4) (v := .slice aE 2 cE) rfl (by kernel_rfl) (by kernel_rfl) (by kernel_rfl) (fun _ _ _ h => h) (Or.inl ⟨by rfl, ?_⟩) SW ?_
      · intro W hW
        obtain ⟨x0, x1, x2, x3⟩ := HK.out W hW
        go_simp
      go_simp
      refine wpAnyH_take (i := 5) (v := .slice aD m cD) rfl (by kernel_rfl) (by kernel_rfl) (by kernel_rfl) (fun _ _ _ h => h) (Or.inl ⟨by rfl, ?_⟩) SW ?_
      · intro W hW
        obtain ⟨x0, x1, x2, x3⟩ := HK.out W hW
        go_simp
      go_simp
      refine wpAnyH_ready (rs := [2, 6]) (by kernel_rfl) (by simp) ?_
      refine AllReadyH.cons rfl (fun K1 hK1 => ?_) (AllReadyH.cons rfl (fun K1 hK1 => ?_) AllReadyH.nil)
      · go_simp
        have SWn : Below W3.heap.size W3 (W3.alloc (Obj.cells #[Value.slice aA 2 cA, Value.slice aD m cD] 22)).drew := ((Below.refl _ W3).alloc (Nat.le_refl _) _).drew
        refine hK1.out _ _ SWn (fun _ => ?_)
        clear hK1 K1
        have G1 : Hid (((W3.alloc (Obj.cells #[Value.slice aA 2 cA, Value.slice aD m cD] 22)).drew).cell? ⟨W3.heap.size, 0, none⟩ = some (.slice aA 2 cA) ∧ ((W3.alloc (Obj.cells #[Value.slice aA 2 cA, Value.slice aD m cD] 22)).drew).cell? ⟨W3.heap.size, 1, none⟩ = some (.slice aD m cD)) := hide (two_cells _ _ _ _)
        clear SW
        obtain ⟨V0, hV0⟩ : ∃ V, (W3.alloc (Obj.cells #[Value.slice aA 2 cA, Value.slice aD m cD] 22)).drew = V := ⟨_, rfl⟩
        rw [hV0] at SWn G1 ⊢
        have SW := SWn
        clear SWn
        go_simp
        refine wpAnyH_ready (rs := [3, 6]) (by kernel_rfl) (by simp) ?_
        refine AllReadyH.cons rfl (fun K1 hK1 => ?_) (AllReadyH.cons rfl (fun K1 hK1 => ?_) AllReadyH.nil)
        · go_simp
          refine (conc2 W3.heap.size aA aD cA cD m A D V0 G1.out.1 G1.out.2 (HA3.out.mono SW) (HD3.out.mono SW) (by omega)).mono ?_
          rintro e V1 ⟨f1, e1, rfl, hO, hBn⟩
          have SWn : Below W3.heap.size W3 V1 := SW.trans (hBn.mono SW.size)
          have OW1 := hide (own_base hO SW.size)
          refine hK1.out _ _ SWn (fun _ => ?_)
          clear hK1 K1 hO hBn SW
          have SW := SWn
          clear SWn
          go_simp
          refine wpAnyH_ready (rs := [6]) (by kernel_rfl) (by simp) ?_
          refine AllReadyH.cons rfl (fun K1 hK1 => ?_) AllReadyH.nil
          go_simp
          have SWn : Below W3.heap.size W3 (V1.alloc (Obj.cells #[Value.slice aE 2 cE, Value.slice aD m cD] 22)) := SW.alloc SW.size _
          refine hK1.out _ _ SWn (fun _ => ?_)
          clear hK1 K1
          have G2 : Hid (((V1.alloc (Obj.cells #[Value.slice aE 2 cE, Value.slice aD m cD] 22))).cell? ⟨V1.heap.size, 0, none⟩ = some (.slice aE 2 cE) ∧ ((V1.alloc (Obj.cells #[Value.slice aE 2 cE, Value.slice aD m cD] 22))).cell? ⟨V1.heap.size, 1, none⟩ = some (.slice aD m cD)) := hide (two_cells _ _ _ _)
          replace OW1 := hide (OW1.out.alloc (Obj.cells #[Value.slice aE 2 cE, Value.slice aD m cD] 22))
          clear SW
          obtain ⟨V2, hV2⟩ : ∃ V, (V1.alloc (Obj.cells #[Value.slice aE 2 cE, Value.slice aD m cD] 22)) = V := ⟨_, rfl⟩
          rw [hV2] at SWn G2 OW1 ⊢
          have SW := SWn
          clear SWn
          go_simp
          refine wpAnyH_ready (rs := [7]) (by kernel_rfl) (by simp) ?_
          refine AllReadyH.cons rfl (fun K1 hK1 => ?_) AllReadyH.nil
          go_simp
          refine (conc2 V1.heap.size aE aD cE cD m E D V2 G2.out.1 G2.out.2 (HE3.out.mono SW) (HD3.out.mono SW) (by omega)).mono ?_
          rintro e V3 ⟨f2, e2, rfl, hO, hBn⟩
          have SWn : Below W3.heap.size W3 V3 := SW.trans (hBn.mono SW.size)
          have DST : Hid ((Value.slice f1 (2 + m) e1).ownBlock ≠ (Value.slice f2 (2 + m) e2).ownBlock) := hide (own_apart OW1.out hO (by omega))
          replace OW1 := hide (own_below OW1.out hBn)
          have OW2 := hide (own_base hO SW.size)
          refine hK1.out _ _ SWn (fun _ => ?_)
          clear hK1 K1 hO hBn SW
          have SW := SWn
          clear SWn
          go_simp
          refine wpAnyH_take (i := 8) (v := .slice f1 (2 + m) e1) rfl (by kernel_rfl) (by kernel_rfl) (by kernel_rfl) (fun _ _ _ h => h) (Or.inl ⟨by rfl, ?_⟩) SW ?_
          · intro W hW
            go_simp
          go_simp
          refine wpAnyH_take (i := 9) (v := .slice f2 (2 + m) e2) rfl (by kernel_rfl) (by kernel_rfl) (by kernel_rfl) (fun _ _ _ h => h) (Or.inl ⟨by rfl, ?_⟩) SW ?_
          · intro W hW
            go_simp
          go_simp
          refine wpAnyH_done (by kernel_rfl) ?_ _
          have HSW := hide SW
          clear SW
          gi_wp2_with fail
          gi_meet
          case rel => exact ⟨f1, e1, f2, e2, rfl, rfl, OW1, OW2, HSW, DST⟩
        · go_simp
          have SWn : Below W3.heap.size W3 (V0.alloc (Obj.cells #[Value.slice aE 2 cE, Value.slice aD m cD] 22)) := SW.alloc SW.size _
          refine hK1.out _ _ SWn (fun _ => ?_)
          clear hK1 K1
          have G2 : Hid (((V0.alloc (Obj.cells #[Value.slice aE 2 cE, Value.slice aD m cD] 22))).cell? ⟨V0.heap.size, 0, none⟩ = some (.slice aE 2 cE) ∧ ((V0.alloc (Obj.cells #[Value.slice aE 2 cE, Value.slice aD m cD] 22))).cell? ⟨V0.heap.size, 1, none⟩ = some (.slice aD m cD)) := hide (two_cells _ _ _ _)
          replace G1 := hide (And.intro (old_cell (Obj.cells #[Value.slice aE 2 cE, Value.slice aD m cD] 22) G1.out.1) (old_cell (Obj.cells #[Value.slice aE 2 cE, Value.slice aD m cD] 22) G1.out.2))
          clear SW
          obtain ⟨V1, hV1⟩ : ∃ V, (V0.alloc (Obj.cells #[Value.slice aE 2 cE, Value.slice aD m cD] 22)) = V := ⟨_, rfl⟩
          rw [hV1] at SWn G1 G2 ⊢
          have SW := SWn
          clear SWn
          go_simp
          refine wpAnyH_ready (rs := [3]) (by kernel_rfl) (by simp) ?_
          refine AllReadyH.cons rfl (fun K1 hK1 => ?_) AllReadyH.nil
          go_simp
          refine (conc2 W3.heap.size aA aD cA cD m A D V1 G1.out.1 G1.out.2 (HA3.out.mono SW) (HD3.out.mono SW) (by omega)).mono ?_
          rintro e V2 ⟨f1, e1, rfl, hO, hBn⟩
          have SWn : Below W3.heap.size W3 V2 := SW.trans (hBn.mono SW.size)
          replace G2 := hide (And.intro ((hBn.cell (World.block_lt_of_cell? _ _ G2.out.1)).trans G2.out.1) ((hBn.cell (World.block_lt_of_cell? _ _ G2.out.2)).trans G2.out.2))
          have OW1 := hide (own_base hO SW.size)
          refine hK1.out _ _ SWn (fun _ => ?_)
          clear hK1 K1 hO hBn SW
          have SW := SWn
          clear SWn
          go_simp
          refine wpAnyH_ready (rs := [7]) (by kernel_rfl) (by simp) ?_
          refine AllReadyH.cons rfl (fun K1 hK1 => ?_) AllReadyH.nil
          go_simp
          refine (conc2 V0.heap.size aE aD cE cD m E D V2 G2.out.1 G2.out.2 (HE3.out.mono SW) (HD3.out.mono SW) (by omega)).mono ?_
          rintro e V3 ⟨f2, e2, rfl, hO, hBn⟩
          have SWn : Below W3.heap.size W3 V3 := SW.trans (hBn.mono SW.size)
          have DST : Hid ((Value.slice f1 (2 + m) e1).ownBlock ≠ (Value.slice f2 (2 + m) e2).ownBlock) := hide (own_apart OW1.out hO (by omega))
          replace OW1 := hide (own_below OW1.out hBn)
          have OW2 := hide (own_base hO SW.size)
          refine hK1.out _ _ SWn (fun _ => ?_)
          clear hK1 K1 hO hBn SW
          have SW := SWn
          clear SWn
          go_simp
          refine wpAnyH_take (i := 8) (v := .slice f1 (2 + m) e1) rfl (by kernel_rfl) (by kernel_rfl) (by kernel_rfl) (fun _ _ _ h => h) (Or.inl ⟨by rfl, ?_⟩) SW ?_
          · intro W hW
            go_simp
          go_simp
          refine wpAnyH_take (i := 9) (v := .slice f2 (2 + m) e2) rfl (by kernel_rfl) (by kernel_rfl) (by kernel_rfl) (fun _ _ _ h => h) (Or.inl ⟨by rfl, ?_⟩) SW ?_
          · intro W hW
            go_simp
          go_simp
          refine wpAnyH_done (by kernel_rfl) ?_ _
          have HSW := hide SW
          clear SW
          gi_wp2_with fail
          gi_meet
          case rel => exact ⟨f1, e1, f2, e2, rfl, rfl, OW1, OW2, HSW, DST⟩
      · go_simp
        have SWn : Below W3.heap.size W3 (W3.alloc (Obj.cells #[Value.slice aE 2 cE, Value.slice aD m cD] 22)).drew := ((Below.refl _ W3).alloc (Nat.le_refl _) _).drew
        refine hK1.out _ _ SWn (fun _ => ?_)
        clear hK1 K1
        have G2 : Hid (((W3.alloc (Obj.cells #[Value.slice aE 2 cE, Value.slice aD m cD] 22)).drew).cell? ⟨W3.heap.size, 0, none⟩ = some (.slice aE 2 cE) ∧ ((W3.alloc (Obj.cells #[Value.slice aE 2 cE, Value.slice aD m cD] 22)).drew).cell? ⟨W3.heap.size, 1, none⟩ = some (.slice aD m cD)) := hide (two_cells _ _ _ _)
        clear SW
        obtain ⟨V0, hV0⟩ : ∃ V, (W3.alloc (Obj.cells #[Value.slice aE 2 cE, Value.slice aD m cD] 22)).drew = V := ⟨_, rfl⟩
        rw [hV0] at SWn G2 ⊢
        have SW := SWn
        clear SWn
        go_simp
        refine wpAnyH_ready (rs := [2]) (by kernel_rfl) (by simp) ?_
        refine AllReadyH.cons rfl (fun K1 hK1 => ?_) AllReadyH.nil
        go_simp
        have SWn : Below W3.heap.size W3 (V0.alloc (Obj.cells #[Value.slice aA 2 cA, Value.slice aD m cD] 22)) := SW.alloc SW.size _
        refine hK1.out _ _ SWn (fun _ => ?_)
        clear hK1 K1
        have G1 : Hid (((V0.alloc (Obj.cells #[Value.slice aA 2 cA, Value.slice aD m cD] 22))).cell? ⟨V0.heap.size, 0, none⟩ = some (.slice aA 2 cA) ∧ ((V0.alloc (Obj.cells #[Value.slice aA 2 cA, Value.slice aD m cD] 22))).cell? ⟨V0.heap.size, 1, none⟩ = some (.slice aD m cD)) := hide (two_cells _ _ _ _)
        replace G2 := hide (And.intro (old_cell (Obj.cells #[Value.slice aA 2 cA, Value.slice aD m cD] 22) G2.out.1) (old_cell (Obj.cells #[Value.slice aA 2 cA, Value.slice aD m cD] 22) G2.out.2))
        clear SW
        obtain ⟨V1, hV1⟩ : ∃ V, (V0.alloc (Obj.cells #[Value.slice aA 2 cA, Value.slice aD m cD] 22)) = V := ⟨_, rfl⟩
        rw [hV1] at SWn G1 G2 ⊢
        have SW := SWn
        clear SWn
        go_simp
        refine wpAnyH_ready (rs := [3]) (by kernel_rfl) (by simp) ?_
        refine AllReadyH.cons rfl (fun K1 hK1 => ?_) AllReadyH.nil
        go_simp
        refine (conc2 V0.heap.size aA aD cA cD m A D V1 G1.out.1 G1.out.2 (HA3.out.mono SW) (HD3.out.mono SW) (by omega)).mono ?_
        rintro e V2 ⟨f1, e1, rfl, hO, hBn⟩
        have SWn : Below W3.heap.size W3 V2 := SW.trans (hBn.mono SW.size)
        replace G2 := hide (And.intro ((hBn.cell (World.block_lt_of_cell? _ _ G2.out.1)).trans G2.out.1) ((hBn.cell (World.block_lt_of_cell? _ _ G2.out.2)).trans G2.out.2))
        have OW1 := hide (own_base hO SW.size)
        refine hK1.out _ _ SWn (fun _ => ?_)
        clear hK1 K1 hO hBn SW
        have SW := SWn
        clear SWn
        go_simp
        refine wpAnyH_ready (rs := [7]) (by kernel_rfl) (by simp) ?_
        refine AllReadyH.cons rfl (fun K1 hK1 => ?_) AllReadyH.nil
        go_simp
        refine (conc2 W3.heap.size aE aD cE cD m E D V2 G2.out.1 G2.out.2 (HE3.out.mono SW) (HD3.out.mono SW) (by omega)).mono ?_
        rintro e V3 ⟨f2, e2, rfl, hO, hBn⟩
        have SWn : Below W3.heap.size W3 V3 := SW.trans (hBn.mono SW.size)
        have DST : Hid ((Value.slice f1 (2 + m) e1).ownBlock ≠ (Value.slice f2 (2 + m) e2).ownBlock) := hide (own_apart OW1.out hO (by omega))
        replace OW1 := hide (own_below OW1.out hBn)
        have OW2 := hide (own_base hO SW.size)
        refine hK1.out _ _ SWn (fun _ => ?_)
        clear hK1 K1 hO hBn SW
        have SW := SWn
        clear SWn
        go_simp
        refine wpAnyH_take (i := 8) (v := .slice f1 (2 + m) e1) rfl (by kernel_rfl) (by kernel_rfl) (by kernel_rfl) (fun _ _ _ h => h) (Or.inl ⟨by rfl, ?_⟩) SW ?_
        · intro W hW
          go_simp
        go_simp
        refine wpAnyH_take (i := 9) (v := .slice f2 (2 + m) e2) rfl (by kernel_rfl) (by kernel_rfl) (by kernel_rfl) (fun _ _ _ h => h) (Or.inl ⟨by rfl, ?_⟩) SW ?_
        · intro W hW
          go_simp
        go_simp
        refine wpAnyH_done (by kernel_rfl) ?_ _
        have HSW := hide SW
        clear SW
        gi_wp2_with fail
        gi_meet
        case rel => exact ⟨f1, e1, f2, e2, rfl, rfl, OW1, OW2, HSW, DST⟩
    case rest =>
      obtain ⟨f1, e1, f2, e2, rfl, rfl, OW1, OW2, HBC, DST⟩ := hcut
      have HPL : Hid (pre.length + 1 ≤ 4503599627370496) := hide (by
        have h1 := HPRE.out.length_le
        rw [List.length_append, List.length_singleton] at h1
        have h2 := comb_le (List.range R.length) k
        rw [HCOMB.out, List.length_range] at h2
        have h3 : 2 ^ R.length ≤ 2 ^ 52 := Nat.pow_le_pow_right (by omega) hRl
        omega)
      rcases hm with rfl | rfl
      · obtain rfl : k = 1 := by omega
        obtain ⟨t0, hs1⟩ : ∃ t0, s = [t0] := by
          match s, HOKS.out.1 with
          | [t0], _ => exact ⟨t0, rfl⟩
        have ht0 : t0 < R.length := by have := HOKS.out.2 0; rw [hs1] at this; simpa using this
        have ht0' : (t0 : Int) < (R.length : Int) := by omega
        have hr52 : R.getD t0 0 < 52 := by
          rw [← HROTH.out]
          exact getD_lt52 (fun x hx => by simp only [othK, List.mem_filter, List.mem_range] at hx; exact hx.1) t0
        have H52A : Hid (∀ x ∈ A ++ D ++ pick R s, x < 52) := hide (fun x hx => by
          rw [hs1] at hx
          simp only [pick, List.map_cons, List.map_nil, List.mem_append, List.mem_singleton] at hx
          rcases hx with (h | h) | h
          · exact hlt x (by simp [h])
          · exact hlt x (by simp [h])
          · omega)
        have H52E : Hid (∀ x ∈ E ++ D ++ pick R s, x < 52) := hide (fun x hx => by
          rw [hs1] at hx
          simp only [pick, List.map_cons, List.map_nil, List.mem_append, List.mem_singleton] at hx
          rcases hx with (h | h) | h
          · exact hlt x (by simp [h])
          · exact hlt x (by simp [h])
          · omega)
        obtain ⟨rb, ro, hab, hcb⟩ := HRR3.out.cells (by omega)
        subst hab
        have hcR := hcb t0 ht0
        rw [toI_getD] at hcR
        obtain ⟨tv, htv⟩ : ∃ v, R.getD t0 0 = v := ⟨_, rfl⟩
        rw [htv] at hcR
        have HTV := hide htv
        have HKR : Hid (∀ W, Below W3.heap.size W3 W → W.cell? ⟨rb, ro + t0, none⟩ = some (.int .i64 tv)) := hide (fun W hW => (hW.cell (p := ⟨rb, ro + t0, none⟩) (World.block_lt_of_cell? W3 _ hcR)).trans hcR)
        obtain ⟨sb, so, hsa, hcs⟩ := HSET.out.cells (by omega)
        subst hsa
        have hcs0 := hcs 0 (by omega)
        rw [hs1] at hcs0
        have hset : wc.cell? ⟨sb, so, none⟩ = some (.int .i64 t0) := (HBC.out.cell (p := ⟨sb, so, none⟩) (World.block_lt_of_cell? W3 _ hcs0)).trans hcs0
        clear hcb hcR htv hcs hcs0
        gi_wp2_with fail
        refine wpIn_loop_rounds 2 ?_
        rw [roundsIn_succ]
        gi_upto_region 14 with fail
        have HS1 := hide hs1
        clear hs1
        have HN00 : Hid (((toI (A ++ D)).map (Value.int .i64))[0]? ≠ ((toI (E ++ D)).map (Value.int .i64))[0]?) := hide (heads hA hE D hnd D D)
        have HN10 : Hid (((toI (A ++ D ++ pick R s)).map (Value.int .i64))[0]? ≠ ((toI (E ++ D)).map (Value.int .i64))[0]?) := hide (by rw [List.append_assoc]; exact heads hA hE D hnd _ D)
        have HN01 : Hid (((toI (A ++ D)).map (Value.int .i64))[0]? ≠ ((toI (E ++ D ++ pick R s)).map (Value.int .i64))[0]?) := hide (by rw [List.append_assoc E]; exact heads hA hE D hnd D _)
        refine wp_region_round (S := fun W => Below W3.heap.size W3 W) (by kernel_rfl) (by kernel_rfl) (by rintro ⟨_, _, h⟩; exact h) ?_
        have SW : Below W3.heap.size W3 wc.drew := HBC.out.drew
        have P1 := hide (own_drew OW1.out)
        have P2 := hide (own_drew OW2.out)
        refine wpAnyH_take (i := 0) (v := .slice f1 (2 + 4) e1) rfl (by kernel_rfl) (by kernel_rfl) (by kernel_rfl) (fun _ _ _ h => h) (Or.inl ⟨by rfl, ?_⟩) SW ?_
        · intro W hW
          go_simp
        go_simp
        refine wpAnyH_take (i := 1) (v := .slice (some ⟨rb, ro, none⟩) R.length c4) rfl (by kernel_rfl) (by kernel_rfl) (by kernel_rfl) (fun _ _ _ h => h) (Or.inl ⟨by rfl, ?_⟩) SW ?_
        · intro W hW
          obtain ⟨x0, x1, x2, x3⟩ := HK.out W hW
          go_simp
        go_simp
        refine wpAnyH_take (i := 2) (v := .int .i64 t0) rfl (by kernel_rfl) (by kernel_rfl) (by kernel_rfl) (fun _ _ _ h => h) (Or.inl ⟨by rfl, ?_⟩) SW ?_
        · intro W hW
          go_simp
        go_simp
        refine wpAnyH_take (i := 3) (v := .pointer (some ⟨rb, ro + t0, none⟩)) rfl (by kernel_rfl) (by kernel_rfl) (by kernel_rfl) (fun _ _ _ h => h) (Or.inl ⟨by rfl, ?_⟩) SW ?_
        · intro W hW
          go_simp
        go_simp
        refine wpAnyH_take (i := 4) (v := .int .i64 tv) rfl (by kernel_rfl) (by kernel_rfl) (by kernel_rfl) (fun _ _ _ h => h) (Or.inl ⟨by rfl, ?_⟩) SW ?_
        · intro W hW
          have x4 := HKR.out W hW
          go_simp
        go_simp
        refine wpAnyH_take (i := 7) (v := .slice f2 (2 + 4) e2) rfl (by kernel_rfl) (by kernel_rfl) (by kernel_rfl) (fun _ _ _ h => h) (Or.inl ⟨by rfl, ?_⟩) SW ?_
        · intro W hW
          go_simp
        go_simp
        refine wpAnyH_take (i := 8) (v := .slice (some ⟨rb, ro, none⟩) R.length c4) rfl (by kernel_rfl) (by kernel_rfl) (by kernel_rfl) (fun _ _ _ h => h) (Or.inl ⟨by rfl, ?_⟩) SW ?_
        · intro W hW
          obtain ⟨x0, x1, x2, x3⟩ := HK.out W hW
          go_simp
        go_simp
        refine wpAnyH_take (i := 9) (v := .int .i64 t0) rfl (by kernel_rfl) (by kernel_rfl) (by kernel_rfl) (fun _ _ _ h => h) (Or.inl ⟨by rfl, ?_⟩) SW ?_
        · intro W hW
          go_simp
        go_simp
        refine wpAnyH_take (i := 10) (v := .pointer (some ⟨rb, ro + t0, none⟩)) rfl (by kernel_rfl) (by kernel_rfl) (by kernel_rfl) (fun _ _ _ h => h) (Or.inl ⟨by rfl, ?_⟩) SW ?_
        · intro W hW
          go_simp
        go_simp
        refine wpAnyH_take (i := 11) (v := .int .i64 tv) rfl (by kernel_rfl) (by kernel_rfl) (by kernel_rfl) (fun _ _ _ h => h) (Or.inl ⟨by rfl, ?_⟩) SW ?_
        · intro W hW
          have x4 := HKR.out W hW
          go_simp
        go_simp
        refine wpAnyH_ready (rs := [5, 12]) (by kernel_rfl) (by simp) ?_
        refine AllReadyH.cons rfl (fun K1 hK1 => ?_) (AllReadyH.cons rfl (fun K1 hK1 => ?_) AllReadyH.nil)
        · go_simp
          have SWn : Below W3.heap.size W3 (wc.alloc (Obj.cells #[Value.int IntKind.i64 tv] 3)).drew := (HBC.out.alloc HBC.out.size _).drew
          refine hK1.out _ _ SWn (fun _ => ?_)
          clear hK1 K1
          have N1 : Hid (((wc.alloc (Obj.cells #[Value.int IntKind.i64 tv] 3)).drew).ownsRow 0 3 1 (.slice (some ⟨wc.heap.size, 0, none⟩) 1 1) 1 ([(tv : Int)].map (Value.int .i64))) := hide (one_own _ _)
          replace P1 := hide (own_drew (OW1.out.alloc (Obj.cells #[Value.int IntKind.i64 tv] 3)))
          replace P2 := hide (own_drew (OW2.out.alloc (Obj.cells #[Value.int IntKind.i64 tv] 3)))
          clear SW
          obtain ⟨U0, hU0⟩ : ∃ V, (wc.alloc (Obj.cells #[Value.int IntKind.i64 tv] 3)).drew = V := ⟨_, rfl⟩
          rw [hU0] at SWn P1 P2 N1 ⊢
          have SW := SWn
          clear SWn
          go_simp
          refine wpAnyH_ready (rs := [6, 12]) (by kernel_rfl) (by simp) ?_
          refine AllReadyH.cons rfl (fun K1 hK1 => ?_) (AllReadyH.cons rfl (fun K1 hK1 => ?_) AllReadyH.nil)
          · rw [if_pos (by rfl)]
            refine wp_append_rd _ (.tmp 73) (.tmp 78) rfl W3.heap.size _ (2 + 4) (toI (A ++ D)) rfl P1.out _ 1 1 [(tv : Int)] rfl (Rd.of_own N1.out) (by omega) SW.size ?_
            intro vn U1 hOn hGn
            obtain ⟨h1, k1, hvn⟩ := form_slice hOn
            rw [hvn] at hOn ⊢
            have SWn : Below W3.heap.size W3 U1 := SW.grown hGn SW.size (fun j hj => (P1.out.lt j hj).1)
            replace P2 := hide (P2.out.kept hGn (.inr (own_ne P2.out P1.out (by omega) (by omega) HN00.out.symm)))
            replace P1 : Hid (U1.ownsRow W3.heap.size 3 1 (.slice h1 7 k1) 7 ((toI (A ++ D ++ pick R s)).map (Value.int .i64))) := hide (by rw [HS1.out, toI_app, pick1 HTV.out]; exact hOn)
            refine hK1.out _ _ SWn (fun _ => ?_)
            clear hK1 K1 hOn hGn hvn SW N1
            have SW := SWn
            clear SWn
            go_simp
            refine wpAnyH_ready (rs := [12]) (by kernel_rfl) (by simp) ?_
            refine AllReadyH.cons rfl (fun K1 hK1 => ?_) AllReadyH.nil
            go_simp
            have SWn : Below W3.heap.size W3 (U1.alloc (Obj.cells #[Value.int IntKind.i64 tv] 3)) := SW.alloc SW.size _
            refine hK1.out _ _ SWn (fun _ => ?_)
            clear hK1 K1
            have N2 : Hid (((U1.alloc (Obj.cells #[Value.int IntKind.i64 tv] 3))).ownsRow 0 3 1 (.slice (some ⟨U1.heap.size, 0, none⟩) 1 1) 1 ([(tv : Int)].map (Value.int .i64))) := hide (one_own _ _)
            replace P1 := hide (P1.out.alloc (Obj.cells #[Value.int IntKind.i64 tv] 3))
            replace P2 := hide (P2.out.alloc (Obj.cells #[Value.int IntKind.i64 tv] 3))
            clear SW
            obtain ⟨U2, hU2⟩ : ∃ V, (U1.alloc (Obj.cells #[Value.int IntKind.i64 tv] 3)) = V := ⟨_, rfl⟩
            rw [hU2] at SWn P1 P2 N2 ⊢
            have SW := SWn
            clear SWn
            go_simp
            refine wpAnyH_ready (rs := [13]) (by kernel_rfl) (by simp) ?_
            refine AllReadyH.cons rfl (fun K1 hK1 => ?_) AllReadyH.nil
            rw [if_pos (by rfl)]
            refine wp_append_rd _ (.tmp 80) (.tmp 85) rfl W3.heap.size _ (2 + 4) (toI (E ++ D)) rfl P2.out _ 1 1 [(tv : Int)] rfl (Rd.of_own N2.out) (by omega) SW.size ?_
            intro vn U3 hOn hGn
            obtain ⟨h2, k2, hvn⟩ := form_slice hOn
            rw [hvn] at hOn ⊢
            have SWn : Below W3.heap.size W3 U3 := SW.grown hGn SW.size (fun j hj => (P2.out.lt j hj).1)
            replace P1 := hide (P1.out.kept hGn (.inr (own_ne P1.out P2.out (by omega) (by omega) HN10.out)))
            replace P2 : Hid (U3.ownsRow W3.heap.size 3 1 (.slice h2 7 k2) 7 ((toI (E ++ D ++ pick R s)).map (Value.int .i64))) := hide (by rw [HS1.out, toI_app, pick1 HTV.out]; exact hOn)
            refine hK1.out _ _ SWn (fun _ => ?_)
            clear hK1 K1 hOn hGn hvn SW N2
            have SW := SWn
            clear SWn
            go_simp
            refine wpAnyH_take (i := 14) (v := .slice h1 7 k1) rfl (by kernel_rfl) (by kernel_rfl) (by kernel_rfl) (fun _ _ _ h => h) (Or.inl ⟨by rfl, ?_⟩) SW ?_
            · intro W hW
              go_simp
            go_simp
            refine wpAnyH_take (i := 15) (v := .slice h2 7 k2) rfl (by kernel_rfl) (by kernel_rfl) (by kernel_rfl) (fun _ _ _ h => h) (Or.inl ⟨by rfl, ?_⟩) SW ?_
            · intro W hW
              go_simp
            go_simp
            refine wpAnyH_done (by kernel_rfl) ?_ _
            have HBD := hide SW
            clear SW OW1 OW2 HN00 HN01 HN10 DST HBC
            gi_wp2_with fail
            rw [roundsIn_succ]
            gi_wp2_with fail
            have RF1 := hide (Rd.of_own P1.out)
            have RF2 := hide (Rd.of_own P2.out)
            have hpl := HPL.out
            have hwl := winC_le A E D R pre
            have htl := tieC_le A E D R pre
            have hws := winC_snoc A E D R pre s
            have hts := tieC_snoc A E D R pre s
            have HWS := hide hws
            have HTS := hide hts
            have B1 := hide (best7 h1 k1 (A ++ D ++ pick R s) H52A.out U3 RF1.out)
            have B2 := hide (fun W (hW : Below U3.heap.size U3 W) => best7 h2 k2 (E ++ D ++ pick R s) H52E.out W (RF2.out.mono hW))
            change Hid (Calls Try.prog 23 _ U3 fun ee w' => ∃ x0 x1 x2 x3 x4 : Nat, ee = .returned (.tuple #[.int .i64 (xv A D R s), arrN x0 x1 x2 x3 x4]) ∧ Below U3.heap.size U3 w') at B1
            change Hid (∀ W, Below U3.heap.size U3 W → Calls Try.prog 23 _ W fun ee w' => ∃ x0 x1 x2 x3 x4 : Nat, ee = .returned (.tuple #[.int .i64 (xv E D R s), arrN x0 x1 x2 x3 x4]) ∧ Below W.heap.size W w') at B2
            obtain ⟨xx, hxx⟩ : ∃ x, xv A D R s = x := ⟨_, rfl⟩
            obtain ⟨yy, hyy⟩ : ∃ y, xv E D R s = y := ⟨_, rfl⟩
            rw [hxx] at B1 HWS HTS
            rw [hyy] at B2 HWS HTS
            obtain ⟨nw, hnw⟩ : ∃ n, winC A E D R pre = n := ⟨_, rfl⟩
            obtain ⟨nt, hnt⟩ : ∃ n, tieC A E D R pre = n := ⟨_, rfl⟩
            obtain ⟨np, hnp⟩ : ∃ n, pre.length = n := ⟨_, rfl⟩
            rw [hnw] at HWS HBW3 hwl
            rw [hnt] at HTS HBW3 htl
            rw [hnp] at hpl hwl htl HBW3
            have HNP := hide hnp
            clear hxx hyy hws hts hnw hnt hnp RF1 RF2 P1 P2
            gi_wp2_with fail
            refine (CallsIn.inRound l2 (callsIn_wide.2 B1.out)).mono ?_
            rintro e We ⟨x0, x1, x2, x3, x4, rfl, hBe⟩
            unfold arrN
            have HBe := hide hBe
            clear hBe B1
            gi_wp2_with fail
            have BA1 : Below U3.heap.size U3 (We.alloc (Obj.cells #[Value.int IntKind.i64 x0, Value.int IntKind.i64 x1, Value.int IntKind.i64 x2, Value.int IntKind.i64 x3, Value.int IntKind.i64 x4] 48)) := HBe.out.alloc HBe.out.size _
            refine (CallsIn.inRound l2 (callsIn_wide.2 (B2.out _ BA1))).mono ?_
            rintro e Wf ⟨y0, y1, y2, y3, y4, rfl, hBf⟩
            have BA2 := BA1.trans (hBf.mono BA1.size)
            have BA3 : Below U3.heap.size U3 (Wf.alloc (Obj.cells #[Value.int IntKind.i64 y0, Value.int IntKind.i64 y1, Value.int IntKind.i64 y2, Value.int IntKind.i64 y3, Value.int IntKind.i64 y4] 48)) := BA2.alloc BA2.size _
            have B3z := HBD.out.trans (BA3.mono HBD.out.size)
            have HB3z := hide B3z
            obtain ⟨Wz, hWz⟩ : ∃ W, Wf.alloc (Obj.cells #[Value.int IntKind.i64 y0, Value.int IntKind.i64 y1, Value.int IntKind.i64 y2, Value.int IntKind.i64 y3, Value.int IntKind.i64 y4] 48) = W := ⟨_, rfl⟩
            rw [hWz] at HB3z
            have HWZ := hide hWz
            have bw := boxed_below HBW3.out.1 HB3z.out HBW3.out.1.lt
            have bt := boxed_below HBW3.out.2.1 HB3z.out HBW3.out.2.1.lt
            have bn := boxed_below HBW3.out.2.2 HB3z.out HBW3.out.2.2.lt
            have cw : Wz.cell? ⟨w.heap.size + 1 + 1 + 1, 0, none⟩ = some (.int .i64 (nw : Nat)) := bw.cell
            have ct : Wz.cell? ⟨w.heap.size + 1 + 1 + 1 + 1, 0, none⟩ = some (.int .i64 (nt : Nat)) := bt.cell
            have cn : Wz.cell? ⟨w.heap.size + 1 + 1 + 1 + 1 + 1, 0, none⟩ = some (.int .i64 (np : Nat)) := bn.cell
            have fw : Wz.frozen? ⟨w.heap.size + 1 + 1 + 1, 0, none⟩ = false := bw.frozen
            have ft : Wz.frozen? ⟨w.heap.size + 1 + 1 + 1 + 1, 0, none⟩ = false := bt.frozen
            have fn : Wz.frozen? ⟨w.heap.size + 1 + 1 + 1 + 1 + 1, 0, none⟩ = false := bn.frozen
            have HBN := hide (And.intro bw (And.intro bt bn))
            have HKZ := hide (keeps_below HK03.out (HB3z.out.mono (by have := HK03.out.size; omega)))
            unfold arrN
            clear hBf BA1 BA2 BA3 B3z bw bt bn B2 HBe
            by_cases hgt : yy < xx
            · have HWS2 : Hid (winC A E D R (pre ++ [s]) = nw + 1) := hide (by rw [HWS.out, if_pos hgt])
              have HTS2 : Hid (tieC A E D R (pre ++ [s]) = nt) := hide (by rw [HTS.out, if_neg (by omega)]; rfl)
              gi_wp2
              refine ⟨(Keeps.setCell (p := ⟨w.heap.size + 5, 0, none⟩) (Keeps.setCell (p := ⟨w.heap.size + 3, 0, none⟩) (Keeps.of_all HB3z.out) (.inl rfl) _) (.inr (.inr rfl)) _), ?_⟩
              refine ⟨?_, ?_, ?_, (Keeps.setCell (p := ⟨w.heap.size + 5, 0, none⟩) (Keeps.setCell (p := ⟨w.heap.size + 3, 0, none⟩) HKZ.out (.inl rfl) _) (.inr (.inr rfl)) _)⟩
              · rw [HWS2.out, show (((nw + 1 : Nat)) : Int) = (nw : Int) + 1 by omega]; exact (box_far (box_set HBN.out.1 _) (q := ⟨w.heap.size + 5, 0, none⟩) (by simp) _)
              · rw [HTS2.out]; exact (box_far (box_far HBN.out.2.1 (q := ⟨w.heap.size + 3, 0, none⟩) (by simp) _) (q := ⟨w.heap.size + 5, 0, none⟩) (by simp) _)
              · rw [List.length_append, HNP.out, List.length_singleton, show (((np + 1 : Nat)) : Int) = (np : Int) + 1 by omega]; exact (box_set (box_far HBN.out.2.2 (q := ⟨w.heap.size + 3, 0, none⟩) (by simp) _) _)
            · have HWS2 : Hid (winC A E D R (pre ++ [s]) = nw) := hide (by rw [HWS.out, if_neg hgt]; rfl)
              by_cases heq : xx = yy
              · have HTS2 : Hid (tieC A E D R (pre ++ [s]) = nt + 1) := hide (by rw [HTS.out, if_pos heq])
                subst heq
                gi_wp2
                refine ⟨(Keeps.setCell (p := ⟨w.heap.size + 5, 0, none⟩) (Keeps.setCell (p := ⟨w.heap.size + 4, 0, none⟩) (Keeps.of_all HB3z.out) (.inr (.inl rfl)) _) (.inr (.inr rfl)) _), ?_⟩
                refine ⟨?_, ?_, ?_, (Keeps.setCell (p := ⟨w.heap.size + 5, 0, none⟩) (Keeps.setCell (p := ⟨w.heap.size + 4, 0, none⟩) HKZ.out (.inr (.inl rfl)) _) (.inr (.inr rfl)) _)⟩
                · rw [HWS2.out]; exact (box_far (box_far HBN.out.1 (q := ⟨w.heap.size + 4, 0, none⟩) (by simp) _) (q := ⟨w.heap.size + 5, 0, none⟩) (by simp) _)
                · rw [HTS2.out, show (((nt + 1 : Nat)) : Int) = (nt : Int) + 1 by omega]; exact (box_far (box_set HBN.out.2.1 _) (q := ⟨w.heap.size + 5, 0, none⟩) (by simp) _)
                · rw [List.length_append, HNP.out, List.length_singleton, show (((np + 1 : Nat)) : Int) = (np : Int) + 1 by omega]; exact (box_set (box_far HBN.out.2.2 (q := ⟨w.heap.size + 4, 0, none⟩) (by simp) _) _)
              · have HTS2 : Hid (tieC A E D R (pre ++ [s]) = nt) := hide (by rw [HTS.out, if_neg heq]; rfl)
                have bne : (xx == yy) = false := by simpa using heq
                gi_wp2
                refine ⟨(Keeps.setCell (p := ⟨w.heap.size + 5, 0, none⟩) (Keeps.of_all HB3z.out) (.inr (.inr rfl)) _), ?_⟩
                refine ⟨?_, ?_, ?_, (Keeps.setCell (p := ⟨w.heap.size + 5, 0, none⟩) HKZ.out (.inr (.inr rfl)) _)⟩
                · rw [HWS2.out]; exact (box_far HBN.out.1 (q := ⟨w.heap.size + 5, 0, none⟩) (by simp) _)
                · rw [HTS2.out]; exact (box_far HBN.out.2.1 (q := ⟨w.heap.size + 5, 0, none⟩) (by simp) _)
                · rw [List.length_append, HNP.out, List.length_singleton, show (((np + 1 : Nat)) : Int) = (np : Int) + 1 by omega]; exact (box_set HBN.out.2.2 _)
          · go_simp
            have SWn : Below W3.heap.size W3 (U0.alloc (Obj.cells #[Value.int IntKind.i64 tv] 3)) := SW.alloc SW.size _
            refine hK1.out _ _ SWn (fun _ => ?_)
            clear hK1 K1
            have N2 : Hid (((U0.alloc (Obj.cells #[Value.int IntKind.i64 tv] 3))).ownsRow 0 3 1 (.slice (some ⟨U0.heap.size, 0, none⟩) 1 1) 1 ([(tv : Int)].map (Value.int .i64))) := hide (one_own _ _)
            replace P1 := hide (P1.out.alloc (Obj.cells #[Value.int IntKind.i64 tv] 3))
            replace P2 := hide (P2.out.alloc (Obj.cells #[Value.int IntKind.i64 tv] 3))
            replace N1 := hide (N1.out.alloc (Obj.cells #[Value.int IntKind.i64 tv] 3))
            clear SW
            obtain ⟨U1, hU1⟩ : ∃ V, (U0.alloc (Obj.cells #[Value.int IntKind.i64 tv] 3)) = V := ⟨_, rfl⟩
            rw [hU1] at SWn P1 P2 N2 N1 ⊢
            have SW := SWn
            clear SWn
            go_simp
            refine wpAnyH_ready (rs := [6]) (by kernel_rfl) (by simp) ?_
            refine AllReadyH.cons rfl (fun K1 hK1 => ?_) AllReadyH.nil
            rw [if_pos (by rfl)]
            refine wp_append_rd _ (.tmp 73) (.tmp 78) rfl W3.heap.size _ (2 + 4) (toI (A ++ D)) rfl P1.out _ 1 1 [(tv : Int)] rfl (Rd.of_own N1.out) (by omega) SW.size ?_
            intro vn U2 hOn hGn
            obtain ⟨h1, k1, hvn⟩ := form_slice hOn
            rw [hvn] at hOn ⊢
            have SWn : Below W3.heap.size W3 U2 := SW.grown hGn SW.size (fun j hj => (P1.out.lt j hj).1)
            replace P2 := hide (P2.out.kept hGn (.inr (own_ne P2.out P1.out (by omega) (by omega) HN00.out.symm)))
            replace N2 := hide (N2.out.kept hGn (.inr (own_ne1 P1.out N2.out (by omega))))
            replace P1 : Hid (U2.ownsRow W3.heap.size 3 1 (.slice h1 7 k1) 7 ((toI (A ++ D ++ pick R s)).map (Value.int .i64))) := hide (by rw [HS1.out, toI_app, pick1 HTV.out]; exact hOn)
            refine hK1.out _ _ SWn (fun _ => ?_)
            clear hK1 K1 hOn hGn hvn SW N1
            have SW := SWn
            clear SWn
            go_simp
            refine wpAnyH_ready (rs := [13]) (by kernel_rfl) (by simp) ?_
            refine AllReadyH.cons rfl (fun K1 hK1 => ?_) AllReadyH.nil
            rw [if_pos (by rfl)]
            refine wp_append_rd _ (.tmp 80) (.tmp 85) rfl W3.heap.size _ (2 + 4) (toI (E ++ D)) rfl P2.out _ 1 1 [(tv : Int)] rfl (Rd.of_own N2.out) (by omega) SW.size ?_
            intro vn U3 hOn hGn
            obtain ⟨h2, k2, hvn⟩ := form_slice hOn
            rw [hvn] at hOn ⊢
            have SWn : Below W3.heap.size W3 U3 := SW.grown hGn SW.size (fun j hj => (P2.out.lt j hj).1)
            replace P1 := hide (P1.out.kept hGn (.inr (own_ne P1.out P2.out (by omega) (by omega) HN10.out)))
            replace P2 : Hid (U3.ownsRow W3.heap.size 3 1 (.slice h2 7 k2) 7 ((toI (E ++ D ++ pick R s)).map (Value.int .i64))) := hide (by rw [HS1.out, toI_app, pick1 HTV.out]; exact hOn)
            refine hK1.out _ _ SWn (fun _ => ?_)
            clear hK1 K1 hOn hGn hvn SW N2
            have SW := SWn
            clear SWn
            go_simp
            refine wpAnyH_take (i := 14) (v := .slice h1 7 k1) rfl (by kernel_rfl) (by kernel_rfl) (by kernel_rfl) (fun _ _ _ h => h) (Or.inl ⟨by rfl, ?_⟩) SW ?_
            · intro W hW
              go_simp
            go_simp
            refine wpAnyH_take (i := 15) (v := .slice h2 7 k2) rfl (by kernel_rfl) (by kernel_rfl) (by kernel_rfl) (fun _ _ _ h => h) (Or.inl ⟨by rfl, ?_⟩) SW ?_
            · intro W hW
              go_simp
            go_simp
            refine wpAnyH_done (by kernel_rfl) ?_ _
            have HBD := hide SW
            clear SW OW1 OW2 HN00 HN01 HN10 DST HBC
            gi_wp2_with fail
            rw [roundsIn_succ]
            gi_wp2_with fail
            have RF1 := hide (Rd.of_own P1.out)
            have RF2 := hide (Rd.of_own P2.out)
            have hpl := HPL.out
            have hwl := winC_le A E D R pre
            have htl := tieC_le A E D R pre
            have hws := winC_snoc A E D R pre s
            have hts := tieC_snoc A E D R pre s
            have HWS := hide hws
            have HTS := hide hts
            have B1 := hide (best7 h1 k1 (A ++ D ++ pick R s) H52A.out U3 RF1.out)
            have B2 := hide (fun W (hW : Below U3.heap.size U3 W) => best7 h2 k2 (E ++ D ++ pick R s) H52E.out W (RF2.out.mono hW))
            change Hid (Calls Try.prog 23 _ U3 fun ee w' => ∃ x0 x1 x2 x3 x4 : Nat, ee = .returned (.tuple #[.int .i64 (xv A D R s), arrN x0 x1 x2 x3 x4]) ∧ Below U3.heap.size U3 w') at B1
            change Hid (∀ W, Below U3.heap.size U3 W → Calls Try.prog 23 _ W fun ee w' => ∃ x0 x1 x2 x3 x4 : Nat, ee = .returned (.tuple #[.int .i64 (xv E D R s), arrN x0 x1 x2 x3 x4]) ∧ Below W.heap.size W w') at B2
            obtain ⟨xx, hxx⟩ : ∃ x, xv A D R s = x := ⟨_, rfl⟩
            obtain ⟨yy, hyy⟩ : ∃ y, xv E D R s = y := ⟨_, rfl⟩
            rw [hxx] at B1 HWS HTS
            rw [hyy] at B2 HWS HTS
            obtain ⟨nw, hnw⟩ : ∃ n, winC A E D R pre = n := ⟨_, rfl⟩
            obtain ⟨nt, hnt⟩ : ∃ n, tieC A E D R pre = n := ⟨_, rfl⟩
            obtain ⟨np, hnp⟩ : ∃ n, pre.length = n := ⟨_, rfl⟩
            rw [hnw] at HWS HBW3 hwl
            rw [hnt] at HTS HBW3 htl
            rw [hnp] at hpl hwl htl HBW3
            have HNP := hide hnp
            clear hxx hyy hws hts hnw hnt hnp RF1 RF2 P1 P2
            gi_wp2_with fail
            refine (CallsIn.inRound l2 (callsIn_wide.2 B1.out)).mono ?_
            rintro e We ⟨x0, x1, x2, x3, x4, rfl, hBe⟩
            unfold arrN
            have HBe := hide hBe
            clear hBe B1
            gi_wp2_with fail
            have BA1 : Below U3.heap.size U3 (We.alloc (Obj.cells #[Value.int IntKind.i64 x0, Value.int IntKind.i64 x1, Value.int IntKind.i64 x2, Value.int IntKind.i64 x3, Value.int IntKind.i64 x4] 48)) := HBe.out.alloc HBe.out.size _
            refine (CallsIn.inRound l2 (callsIn_wide.2 (B2.out _ BA1))).mono ?_
            rintro e Wf ⟨y0, y1, y2, y3, y4, rfl, hBf⟩
            have BA2 := BA1.trans (hBf.mono BA1.size)
            have BA3 : Below U3.heap.size U3 (Wf.alloc (Obj.cells #[Value.int IntKind.i64 y0, Value.int IntKind.i64 y1, Value.int IntKind.i64 y2, Value.int IntKind.i64 y3, Value.int IntKind.i64 y4] 48)) := BA2.alloc BA2.size _
            have B3z := HBD.out.trans (BA3.mono HBD.out.size)
            have HB3z := hide B3z
            obtain ⟨Wz, hWz⟩ : ∃ W, Wf.alloc (Obj.cells #[Value.int IntKind.i64 y0, Value.int IntKind.i64 y1, Value.int IntKind.i64 y2, Value.int IntKind.i64 y3, Value.int IntKind.i64 y4] 48) = W := ⟨_, rfl⟩
            rw [hWz] at HB3z
            have HWZ := hide hWz
            have bw := boxed_below HBW3.out.1 HB3z.out HBW3.out.1.lt
            have bt := boxed_below HBW3.out.2.1 HB3z.out HBW3.out.2.1.lt
            have bn := boxed_below HBW3.out.2.2 HB3z.out HBW3.out.2.2.lt
            have cw : Wz.cell? ⟨w.heap.size + 1 + 1 + 1, 0, none⟩ = some (.int .i64 (nw : Nat)) := bw.cell
            have ct : Wz.cell? ⟨w.heap.size + 1 + 1 + 1 + 1, 0, none⟩ = some (.int .i64 (nt : Nat)) := bt.cell
            have cn : Wz.cell? ⟨w.heap.size + 1 + 1 + 1 + 1 + 1, 0, none⟩ = some (.int .i64 (np : Nat)) := bn.cell
            have fw : Wz.frozen? ⟨w.heap.size + 1 + 1 + 1, 0, none⟩ = false := bw.frozen
            have ft : Wz.frozen? ⟨w.heap.size + 1 + 1 + 1 + 1, 0, none⟩ = false := bt.frozen
            have fn : Wz.frozen? ⟨w.heap.size + 1 + 1 + 1 + 1 + 1, 0, none⟩ = false := bn.frozen
            have HBN := hide (And.intro bw (And.intro bt bn))
            have HKZ := hide (keeps_below HK03.out (HB3z.out.mono (by have := HK03.out.size; omega)))
            unfold arrN
            clear hBf BA1 BA2 BA3 B3z bw bt bn B2 HBe
            by_cases hgt : yy < xx
            · have HWS2 : Hid (winC A E D R (pre ++ [s]) = nw + 1) := hide (by rw [HWS.out, if_pos hgt])
              have HTS2 : Hid (tieC A E D R (pre ++ [s]) = nt) := hide (by rw [HTS.out, if_neg (by omega)]; rfl)
              gi_wp2
              refine ⟨(Keeps.setCell (p := ⟨w.heap.size + 5, 0, none⟩) (Keeps.setCell (p := ⟨w.heap.size + 3, 0, none⟩) (Keeps.of_all HB3z.out) (.inl rfl) _) (.inr (.inr rfl)) _), ?_⟩
              refine ⟨?_, ?_, ?_, (Keeps.setCell (p := ⟨w.heap.size + 5, 0, none⟩) (Keeps.setCell (p := ⟨w.heap.size + 3, 0, none⟩) HKZ.out (.inl rfl) _) (.inr (.inr rfl)) _)⟩
              · rw [HWS2.out, show (((nw + 1 : Nat)) : Int) = (nw : Int) + 1 by omega]; exact (box_far (box_set HBN.out.1 _) (q := ⟨w.heap.size + 5, 0, none⟩) (by simp) _)
              · rw [HTS2.out]; exact (box_far (box_far HBN.out.2.1 (q := ⟨w.heap.size + 3, 0, none⟩) (by simp) _) (q := ⟨w.heap.size + 5, 0, none⟩) (by simp) _)
              · rw [List.length_append, HNP.out, List.length_singleton, show (((np + 1 : Nat)) : Int) = (np : Int) + 1 by omega]; exact (box_set (box_far HBN.out.2.2 (q := ⟨w.heap.size + 3, 0, none⟩) (by simp) _) _)
            · have HWS2 : Hid (winC A E D R (pre ++ [s]) = nw) := hide (by rw [HWS.out, if_neg hgt]; rfl)
              by_cases heq : xx = yy
              · have HTS2 : Hid (tieC A E D R (pre ++ [s]) = nt + 1) := hide (by rw [HTS.out, if_pos heq])
                subst heq
                gi_wp2
                refine ⟨(Keeps.setCell (p := ⟨w.heap.size + 5, 0, none⟩) (Keeps.setCell (p := ⟨w.heap.size + 4, 0, none⟩) (Keeps.of_all HB3z.out) (.inr (.inl rfl)) _) (.inr (.inr rfl)) _), ?_⟩
                refine ⟨?_, ?_, ?_, (Keeps.setCell (p := ⟨w.heap.size + 5, 0, none⟩) (Keeps.setCell (p := ⟨w.heap.size + 4, 0, none⟩) HKZ.out (.inr (.inl rfl)) _) (.inr (.inr rfl)) _)⟩
                · rw [HWS2.out]; exact (box_far (box_far HBN.out.1 (q := ⟨w.heap.size + 4, 0, none⟩) (by simp) _) (q := ⟨w.heap.size + 5, 0, none⟩) (by simp) _)
                · rw [HTS2.out, show (((nt + 1 : Nat)) : Int) = (nt : Int) + 1 by omega]; exact (box_far (box_set HBN.out.2.1 _) (q := ⟨w.heap.size + 5, 0, none⟩) (by simp) _)
                · rw [List.length_append, HNP.out, List.length_singleton, show (((np + 1 : Nat)) : Int) = (np : Int) + 1 by omega]; exact (box_set (box_far HBN.out.2.2 (q := ⟨w.heap.size + 4, 0, none⟩) (by simp) _) _)
              · have HTS2 : Hid (tieC A E D R (pre ++ [s]) = nt) := hide (by rw [HTS.out, if_neg heq]; rfl)
                have bne : (xx == yy) = false := by simpa using heq
                gi_wp2
                refine ⟨(Keeps.setCell (p := ⟨w.heap.size + 5, 0, none⟩) (Keeps.of_all HB3z.out) (.inr (.inr rfl)) _), ?_⟩
                refine ⟨?_, ?_, ?_, (Keeps.setCell (p := ⟨w.heap.size + 5, 0, none⟩) HKZ.out (.inr (.inr rfl)) _)⟩
                · rw [HWS2.out]; exact (box_far HBN.out.1 (q := ⟨w.heap.size + 5, 0, none⟩) (by simp) _)
                · rw [HTS2.out]; exact (box_far HBN.out.2.1 (q := ⟨w.heap.size + 5, 0, none⟩) (by simp) _)
                · rw [List.length_append, HNP.out, List.length_singleton, show (((np + 1 : Nat)) : Int) = (np : Int) + 1 by omega]; exact (box_set HBN.out.2.2 _)
        · go_simp
          have SWn : Below W3.heap.size W3 (wc.alloc (Obj.cells #[Value.int IntKind.i64 tv] 3)).drew := (HBC.out.alloc HBC.out.size _).drew
          refine hK1.out _ _ SWn (fun _ => ?_)
          clear hK1 K1
          have N2 : Hid (((wc.alloc (Obj.cells #[Value.int IntKind.i64 tv] 3)).drew).ownsRow 0 3 1 (.slice (some ⟨wc.heap.size, 0, none⟩) 1 1) 1 ([(tv : Int)].map (Value.int .i64))) := hide (one_own _ _)
          replace P1 := hide (own_drew (OW1.out.alloc (Obj.cells #[Value.int IntKind.i64 tv] 3)))
          replace P2 := hide (own_drew (OW2.out.alloc (Obj.cells #[Value.int IntKind.i64 tv] 3)))
          clear SW
          obtain ⟨U0, hU0⟩ : ∃ V, (wc.alloc (Obj.cells #[Value.int IntKind.i64 tv] 3)).drew = V := ⟨_, rfl⟩
          rw [hU0] at SWn P1 P2 N2 ⊢
          have SW := SWn
          clear SWn
          go_simp
          refine wpAnyH_ready (rs := [5]) (by kernel_rfl) (by simp) ?_
          refine AllReadyH.cons rfl (fun K1 hK1 => ?_) AllReadyH.nil
          go_simp
          have SWn : Below W3.heap.size W3 (U0.alloc (Obj.cells #[Value.int IntKind.i64 tv] 3)) := SW.alloc SW.size _
          refine hK1.out _ _ SWn (fun _ => ?_)
          clear hK1 K1
          have N1 : Hid (((U0.alloc (Obj.cells #[Value.int IntKind.i64 tv] 3))).ownsRow 0 3 1 (.slice (some ⟨U0.heap.size, 0, none⟩) 1 1) 1 ([(tv : Int)].map (Value.int .i64))) := hide (one_own _ _)
          replace P1 := hide (P1.out.alloc (Obj.cells #[Value.int IntKind.i64 tv] 3))
          replace P2 := hide (P2.out.alloc (Obj.cells #[Value.int IntKind.i64 tv] 3))
          replace N2 := hide (N2.out.alloc (Obj.cells #[Value.int IntKind.i64 tv] 3))
          clear SW
          obtain ⟨U1, hU1⟩ : ∃ V, (U0.alloc (Obj.cells #[Value.int IntKind.i64 tv] 3)) = V := ⟨_, rfl⟩
          rw [hU1] at SWn P1 P2 N1 N2 ⊢
          have SW := SWn
          clear SWn
          go_simp
          refine wpAnyH_ready (rs := [6]) (by kernel_rfl) (by simp) ?_
          refine AllReadyH.cons rfl (fun K1 hK1 => ?_) AllReadyH.nil
          rw [if_pos (by rfl)]
          refine wp_append_rd _ (.tmp 73) (.tmp 78) rfl W3.heap.size _ (2 + 4) (toI (A ++ D)) rfl P1.out _ 1 1 [(tv : Int)] rfl (Rd.of_own N1.out) (by omega) SW.size ?_
          intro vn U2 hOn hGn
          obtain ⟨h1, k1, hvn⟩ := form_slice hOn
          rw [hvn] at hOn ⊢
          have SWn : Below W3.heap.size W3 U2 := SW.grown hGn SW.size (fun j hj => (P1.out.lt j hj).1)
          replace P2 := hide (P2.out.kept hGn (.inr (own_ne P2.out P1.out (by omega) (by omega) HN00.out.symm)))
          replace N2 := hide (N2.out.kept hGn (.inr (own_ne1 P1.out N2.out (by omega))))
          replace P1 : Hid (U2.ownsRow W3.heap.size 3 1 (.slice h1 7 k1) 7 ((toI (A ++ D ++ pick R s)).map (Value.int .i64))) := hide (by rw [HS1.out, toI_app, pick1 HTV.out]; exact hOn)
          refine hK1.out _ _ SWn (fun _ => ?_)
          clear hK1 K1 hOn hGn hvn SW N1
          have SW := SWn
          clear SWn
          go_simp
          refine wpAnyH_ready (rs := [13]) (by kernel_rfl) (by simp) ?_
          refine AllReadyH.cons rfl (fun K1 hK1 => ?_) AllReadyH.nil
          rw [if_pos (by rfl)]
          refine wp_append_rd _ (.tmp 80) (.tmp 85) rfl W3.heap.size _ (2 + 4) (toI (E ++ D)) rfl P2.out _ 1 1 [(tv : Int)] rfl (Rd.of_own N2.out) (by omega) SW.size ?_
          intro vn U3 hOn hGn
          obtain ⟨h2, k2, hvn⟩ := form_slice hOn
          rw [hvn] at hOn ⊢
          have SWn : Below W3.heap.size W3 U3 := SW.grown hGn SW.size (fun j hj => (P2.out.lt j hj).1)
          replace P1 := hide (P1.out.kept hGn (.inr (own_ne P1.out P2.out (by omega) (by omega) HN10.out)))
          replace P2 : Hid (U3.ownsRow W3.heap.size 3 1 (.slice h2 7 k2) 7 ((toI (E ++ D ++ pick R s)).map (Value.int .i64))) := hide (by rw [HS1.out, toI_app, pick1 HTV.out]; exact hOn)
          refine hK1.out _ _ SWn (fun _ => ?_)
          clear hK1 K1 hOn hGn hvn SW N2
          have SW := SWn
          clear SWn
          go_simp
          refine wpAnyH_take (i := 14) (v := .slice h1 7 k1) rfl (by kernel_rfl) (by kernel_rfl) (by kernel_rfl) (fun _ _ _ h => h) (Or.inl ⟨by rfl, ?_⟩) SW ?_
          · intro W hW
            go_simp
          go_simp
          refine wpAnyH_take (i := 15) (v := .slice h2 7 k2) rfl (by kernel_rfl) (by kernel_rfl) (by kernel_rfl) (fun _ _ _ h => h) (Or.inl ⟨by rfl, ?_⟩) SW ?_
          · intro W hW
            go_simp
          go_simp
          refine wpAnyH_done (by kernel_rfl) ?_ _
          have HBD := hide SW
          clear SW OW1 OW2 HN00 HN01 HN10 DST HBC
          gi_wp2_with fail
          rw [roundsIn_succ]
          gi_wp2_with fail
          have RF1 := hide (Rd.of_own P1.out)
          have RF2 := hide (Rd.of_own P2.out)
          have hpl := HPL.out
          have hwl := winC_le A E D R pre
          have htl := tieC_le A E D R pre
          have hws := winC_snoc A E D R pre s
          have hts := tieC_snoc A E D R pre s
          have HWS := hide hws
          have HTS := hide hts
          have B1 := hide (best7 h1 k1 (A ++ D ++ pick R s) H52A.out U3 RF1.out)
          have B2 := hide (fun W (hW : Below U3.heap.size U3 W) => best7 h2 k2 (E ++ D ++ pick R s) H52E.out W (RF2.out.mono hW))
          change Hid (Calls Try.prog 23 _ U3 fun ee w' => ∃ x0 x1 x2 x3 x4 : Nat, ee = .returned (.tuple #[.int .i64 (xv A D R s), arrN x0 x1 x2 x3 x4]) ∧ Below U3.heap.size U3 w') at B1
          change Hid (∀ W, Below U3.heap.size U3 W → Calls Try.prog 23 _ W fun ee w' => ∃ x0 x1 x2 x3 x4 : Nat, ee = .returned (.tuple #[.int .i64 (xv E D R s), arrN x0 x1 x2 x3 x4]) ∧ Below W.heap.size W w') at B2
          obtain ⟨xx, hxx⟩ : ∃ x, xv A D R s = x := ⟨_, rfl⟩
          obtain ⟨yy, hyy⟩ : ∃ y, xv E D R s = y := ⟨_, rfl⟩
          rw [hxx] at B1 HWS HTS
          rw [hyy] at B2 HWS HTS
          obtain ⟨nw, hnw⟩ : ∃ n, winC A E D R pre = n := ⟨_, rfl⟩
          obtain ⟨nt, hnt⟩ : ∃ n, tieC A E D R pre = n := ⟨_, rfl⟩
          obtain ⟨np, hnp⟩ : ∃ n, pre.length = n := ⟨_, rfl⟩
          rw [hnw] at HWS HBW3 hwl
          rw [hnt] at HTS HBW3 htl
          rw [hnp] at hpl hwl htl HBW3
          have HNP := hide hnp
          clear hxx hyy hws hts hnw hnt hnp RF1 RF2 P1 P2
          gi_wp2_with fail
          refine (CallsIn.inRound l2 (callsIn_wide.2 B1.out)).mono ?_
          rintro e We ⟨x0, x1, x2, x3, x4, rfl, hBe⟩
          unfold arrN
          have HBe := hide hBe
          clear hBe B1
          gi_wp2_with fail
          have BA1 : Below U3.heap.size U3 (We.alloc (Obj.cells #[Value.int IntKind.i64 x0, Value.int IntKind.i64 x1, Value.int IntKind.i64 x2, Value.int IntKind.i64 x3, Value.int IntKind.i64 x4] 48)) := HBe.out.alloc HBe.out.size _
          refine (CallsIn.inRound l2 (callsIn_wide.2 (B2.out _ BA1))).mono ?_
          rintro e Wf ⟨y0, y1, y2, y3, y4, rfl, hBf⟩
          have BA2 := BA1.trans (hBf.mono BA1.size)
          have BA3 : Below U3.heap.size U3 (Wf.alloc (Obj.cells #[Value.int IntKind.i64 y0, Value.int IntKind.i64 y1, Value.int IntKind.i64 y2, Value.int IntKind.i64 y3, Value.int IntKind.i64 y4] 48)) := BA2.alloc BA2.size _
          have B3z := HBD.out.trans (BA3.mono HBD.out.size)
          have HB3z := hide B3z
          obtain ⟨Wz, hWz⟩ : ∃ W, Wf.alloc (Obj.cells #[Value.int IntKind.i64 y0, Value.int IntKind.i64 y1, Value.int IntKind.i64 y2, Value.int IntKind.i64 y3, Value.int IntKind.i64 y4] 48) = W := ⟨_, rfl⟩
          rw [hWz] at HB3z
          have HWZ := hide hWz
          have bw := boxed_below HBW3.out.1 HB3z.out HBW3.out.1.lt
          have bt := boxed_below HBW3.out.2.1 HB3z.out HBW3.out.2.1.lt
          have bn := boxed_below HBW3.out.2.2 HB3z.out HBW3.out.2.2.lt
          have cw : Wz.cell? ⟨w.heap.size + 1 + 1 + 1, 0, none⟩ = some (.int .i64 (nw : Nat)) := bw.cell
          have ct : Wz.cell? ⟨w.heap.size + 1 + 1 + 1 + 1, 0, none⟩ = some (.int .i64 (nt : Nat)) := bt.cell
          have cn : Wz.cell? ⟨w.heap.size + 1 + 1 + 1 + 1 + 1, 0, none⟩ = some (.int .i64 (np : Nat)) := bn.cell
          have fw : Wz.frozen? ⟨w.heap.size + 1 + 1 + 1, 0, none⟩ = false := bw.frozen
          have ft : Wz.frozen? ⟨w.heap.size + 1 + 1 + 1 + 1, 0, none⟩ = false := bt.frozen
          have fn : Wz.frozen? ⟨w.heap.size + 1 + 1 + 1 + 1 + 1, 0, none⟩ = false := bn.frozen
          have HBN := hide (And.intro bw (And.intro bt bn))
          have HKZ := hide (keeps_below HK03.out (HB3z.out.mono (by have := HK03.out.size; omega)))
          unfold arrN
          clear hBf BA1 BA2 BA3 B3z bw bt bn B2 HBe
          by_cases hgt : yy < xx
          · have HWS2 : Hid (winC A E D R (pre ++ [s]) = nw + 1) := hide (by rw [HWS.out, if_pos hgt])
            have HTS2 : Hid (tieC A E D R (pre ++ [s]) = nt) := hide (by rw [HTS.out, if_neg (by omega)]; rfl)
            gi_wp2
            refine ⟨(Keeps.setCell (p := ⟨w.heap.size + 5, 0, none⟩) (Keeps.setCell (p := ⟨w.heap.size + 3, 0, none⟩) (Keeps.of_all HB3z.out) (.inl rfl) _) (.inr (.inr rfl)) _), ?_⟩
            refine ⟨?_, ?_, ?_, (Keeps.setCell (p := ⟨w.heap.size + 5, 0, none⟩) (Keeps.setCell (p := ⟨w.heap.size + 3, 0, none⟩) HKZ.out (.inl rfl) _) (.inr (.inr rfl)) _)⟩
            · rw [HWS2.out, show (((nw + 1 : Nat)) : Int) = (nw : Int) + 1 by omega]; exact (box_far (box_set HBN.out.1 _) (q := ⟨w.heap.size + 5, 0, none⟩) (by simp) _)
            · rw [HTS2.out]; exact (box_far (box_far HBN.out.2.1 (q := ⟨w.heap.size + 3, 0, none⟩) (by simp) _) (q := ⟨w.heap.size + 5, 0, none⟩) (by simp) _)
            · rw [List.length_append, HNP.out, List.length_singleton, show (((np + 1 : Nat)) : Int) = (np : Int) + 1 by omega]; exact (box_set (box_far HBN.out.2.2 (q := ⟨w.heap.size + 3, 0, none⟩) (by simp) _) _)
          · have HWS2 : Hid (winC A E D R (pre ++ [s]) = nw) := hide (by rw [HWS.out, if_neg hgt]; rfl)
            by_cases heq : xx = yy
            · have HTS2 : Hid (tieC A E D R (pre ++ [s]) = nt + 1) := hide (by rw [HTS.out, if_pos heq])
              subst heq
              gi_wp2
              refine ⟨(Keeps.setCell (p := ⟨w.heap.size + 5, 0, none⟩) (Keeps.setCell (p := ⟨w.heap.size + 4, 0, none⟩) (Keeps.of_all HB3z.out) (.inr (.inl rfl)) _) (.inr (.inr rfl)) _), ?_⟩
              refine ⟨?_, ?_, ?_, (Keeps.setCell (p := ⟨w.heap.size + 5, 0, none⟩) (Keeps.setCell (p := ⟨w.heap.size + 4, 0, none⟩) HKZ.out (.inr (.inl rfl)) _) (.inr (.inr rfl)) _)⟩
              · rw [HWS2.out]; exact (box_far (box_far HBN.out.1 (q := ⟨w.heap.size + 4, 0, none⟩) (by simp) _) (q := ⟨w.heap.size + 5, 0, none⟩) (by simp) _)
              · rw [HTS2.out, show (((nt + 1 : Nat)) : Int) = (nt : Int) + 1 by omega]; exact (box_far (box_set HBN.out.2.1 _) (q := ⟨w.heap.size + 5, 0, none⟩) (by simp) _)
              · rw [List.length_append, HNP.out, List.length_singleton, show (((np + 1 : Nat)) : Int) = (np : Int) + 1 by omega]; exact (box_set (box_far HBN.out.2.2 (q := ⟨w.heap.size + 4, 0, none⟩) (by simp) _) _)
            · have HTS2 : Hid (tieC A E D R (pre ++ [s]) = nt) := hide (by rw [HTS.out, if_neg heq]; rfl)
              have bne : (xx == yy) = false := by simpa using heq
              gi_wp2
              refine ⟨(Keeps.setCell (p := ⟨w.heap.size + 5, 0, none⟩) (Keeps.of_all HB3z.out) (.inr (.inr rfl)) _), ?_⟩
              refine ⟨?_, ?_, ?_, (Keeps.setCell (p := ⟨w.heap.size + 5, 0, none⟩) HKZ.out (.inr (.inr rfl)) _)⟩
              · rw [HWS2.out]; exact (box_far HBN.out.1 (q := ⟨w.heap.size + 5, 0, none⟩) (by simp) _)
              · rw [HTS2.out]; exact (box_far HBN.out.2.1 (q := ⟨w.heap.size + 5, 0, none⟩) (by simp) _)
              · rw [List.length_append, HNP.out, List.length_singleton, show (((np + 1 : Nat)) : Int) = (np : Int) + 1 by omega]; exact (box_set HBN.out.2.2 _)
      · obtain rfl : k = 0 := by omega
        have hs0 : s = [] := List.eq_nil_of_length_eq_zero HOKS.out.1
        have H52A : Hid (∀ x ∈ A ++ D ++ pick R s, x < 52) := hide (fun x hx => by
          rw [hs0] at hx
          simp only [pick, List.map_nil, List.append_nil, List.mem_append] at hx
          exact hlt x (by simp only [List.mem_append]; rcases hx with h | h <;> simp [h]))
        have H52E : Hid (∀ x ∈ E ++ D ++ pick R s, x < 52) := hide (fun x hx => by
          rw [hs0] at hx
          simp only [pick, List.map_nil, List.append_nil, List.mem_append] at hx
          exact hlt x (by simp only [List.mem_append]; rcases hx with h | h <;> simp [h]))
        obtain ⟨wd, hwd⟩ : ∃ W, W = wc := ⟨_, rfl⟩
        subst hwd
        have HBD := HBC
        have hAD : A ++ D = A ++ D ++ pick R s := by rw [hs0]; simp [pick]
        have hED : E ++ D = E ++ D ++ pick R s := by rw [hs0]; simp [pick]
        rw [hAD] at OW1
        rw [hED] at OW2
        clear hs0 hAD hED
        gi_wp2_with fail
        refine wpIn_loop_rounds 1 ?_
        rw [roundsIn_succ]
        gi_wp2_with fail
        have RF1 := hide (Rd.of_own OW1.out)
        have RF2 := hide (Rd.of_own OW2.out)
        have hpl := HPL.out
        have hwl := winC_le A E D R pre
        have htl := tieC_le A E D R pre
        have hws := winC_snoc A E D R pre s
        have hts := tieC_snoc A E D R pre s
        have HWS := hide hws
        have HTS := hide hts
        have B1 := hide (best7 f1 e1 (A ++ D ++ pick R s) H52A.out wd RF1.out)
        have B2 := hide (fun W (hW : Below wd.heap.size wd W) => best7 f2 e2 (E ++ D ++ pick R s) H52E.out W (RF2.out.mono hW))
        change Hid (Calls Try.prog 23 _ wd fun ee w' => ∃ x0 x1 x2 x3 x4 : Nat, ee = .returned (.tuple #[.int .i64 (xv A D R s), arrN x0 x1 x2 x3 x4]) ∧ Below wd.heap.size wd w') at B1
        change Hid (∀ W, Below wd.heap.size wd W → Calls Try.prog 23 _ W fun ee w' => ∃ x0 x1 x2 x3 x4 : Nat, ee = .returned (.tuple #[.int .i64 (xv E D R s), arrN x0 x1 x2 x3 x4]) ∧ Below W.heap.size W w') at B2
        obtain ⟨xx, hxx⟩ : ∃ x, xv A D R s = x := ⟨_, rfl⟩
        obtain ⟨yy, hyy⟩ : ∃ y, xv E D R s = y := ⟨_, rfl⟩
        rw [hxx] at B1 HWS HTS
        rw [hyy] at B2 HWS HTS
        obtain ⟨nw, hnw⟩ : ∃ n, winC A E D R pre = n := ⟨_, rfl⟩
        obtain ⟨nt, hnt⟩ : ∃ n, tieC A E D R pre = n := ⟨_, rfl⟩
        obtain ⟨np, hnp⟩ : ∃ n, pre.length = n := ⟨_, rfl⟩
        rw [hnw] at HWS HBW3 hwl
        rw [hnt] at HTS HBW3 htl
        rw [hnp] at hpl hwl htl HBW3
        have HNP := hide hnp
        clear hxx hyy hws hts hnw hnt hnp RF1 RF2 OW1 OW2 DST
        gi_wp2_with fail
        refine (CallsIn.inRound l2 (callsIn_wide.2 B1.out)).mono ?_
        rintro e We ⟨x0, x1, x2, x3, x4, rfl, hBe⟩
        unfold arrN
        have HBe := hide hBe
        clear hBe B1
        gi_wp2_with fail
        have BA1 : Below wd.heap.size wd (We.alloc (Obj.cells #[Value.int IntKind.i64 x0, Value.int IntKind.i64 x1, Value.int IntKind.i64 x2, Value.int IntKind.i64 x3, Value.int IntKind.i64 x4] 48)) := HBe.out.alloc HBe.out.size _
        refine (CallsIn.inRound l2 (callsIn_wide.2 (B2.out _ BA1))).mono ?_
        rintro e Wf ⟨y0, y1, y2, y3, y4, rfl, hBf⟩
        have BA2 := BA1.trans (hBf.mono BA1.size)
        have BA3 : Below wd.heap.size wd (Wf.alloc (Obj.cells #[Value.int IntKind.i64 y0, Value.int IntKind.i64 y1, Value.int IntKind.i64 y2, Value.int IntKind.i64 y3, Value.int IntKind.i64 y4] 48)) := BA2.alloc BA2.size _
        have B3z := HBD.out.trans (BA3.mono HBD.out.size)
        have HB3z := hide B3z
        obtain ⟨Wz, hWz⟩ : ∃ W, Wf.alloc (Obj.cells #[Value.int IntKind.i64 y0, Value.int IntKind.i64 y1, Value.int IntKind.i64 y2, Value.int IntKind.i64 y3, Value.int IntKind.i64 y4] 48) = W := ⟨_, rfl⟩
        rw [hWz] at HB3z
        have HWZ := hide hWz
        have bw := boxed_below HBW3.out.1 HB3z.out HBW3.out.1.lt
        have bt := boxed_below HBW3.out.2.1 HB3z.out HBW3.out.2.1.lt
        have bn := boxed_below HBW3.out.2.2 HB3z.out HBW3.out.2.2.lt
        have cw : Wz.cell? ⟨w.heap.size + 1 + 1 + 1, 0, none⟩ = some (.int .i64 (nw : Nat)) := bw.cell
        have ct : Wz.cell? ⟨w.heap.size + 1 + 1 + 1 + 1, 0, none⟩ = some (.int .i64 (nt : Nat)) := bt.cell
        have cn : Wz.cell? ⟨w.heap.size + 1 + 1 + 1 + 1 + 1, 0, none⟩ = some (.int .i64 (np : Nat)) := bn.cell
        have fw : Wz.frozen? ⟨w.heap.size + 1 + 1 + 1, 0, none⟩ = false := bw.frozen
        have ft : Wz.frozen? ⟨w.heap.size + 1 + 1 + 1 + 1, 0, none⟩ = false := bt.frozen
        have fn : Wz.frozen? ⟨w.heap.size + 1 + 1 + 1 + 1 + 1, 0, none⟩ = false := bn.frozen
        have HBN := hide (And.intro bw (And.intro bt bn))
        have HKZ := hide (keeps_below HK03.out (HB3z.out.mono (by have := HK03.out.size; omega)))
        unfold arrN
        clear hBf BA1 BA2 BA3 B3z bw bt bn B2 HBe
        by_cases hgt : yy < xx
        · have HWS2 : Hid (winC A E D R (pre ++ [s]) = nw + 1) := hide (by rw [HWS.out, if_pos hgt])
          have HTS2 : Hid (tieC A E D R (pre ++ [s]) = nt) := hide (by rw [HTS.out, if_neg (by omega)]; rfl)
          gi_wp2
          refine ⟨(Keeps.setCell (p := ⟨w.heap.size + 5, 0, none⟩) (Keeps.setCell (p := ⟨w.heap.size + 3, 0, none⟩) (Keeps.of_all HB3z.out) (.inl rfl) _) (.inr (.inr rfl)) _), ?_⟩
          refine ⟨?_, ?_, ?_, (Keeps.setCell (p := ⟨w.heap.size + 5, 0, none⟩) (Keeps.setCell (p := ⟨w.heap.size + 3, 0, none⟩) HKZ.out (.inl rfl) _) (.inr (.inr rfl)) _)⟩
          · rw [HWS2.out, show (((nw + 1 : Nat)) : Int) = (nw : Int) + 1 by omega]; exact (box_far (box_set HBN.out.1 _) (q := ⟨w.heap.size + 5, 0, none⟩) (by simp) _)
          · rw [HTS2.out]; exact (box_far (box_far HBN.out.2.1 (q := ⟨w.heap.size + 3, 0, none⟩) (by simp) _) (q := ⟨w.heap.size + 5, 0, none⟩) (by simp) _)
          · rw [List.length_append, HNP.out, List.length_singleton, show (((np + 1 : Nat)) : Int) = (np : Int) + 1 by omega]; exact (box_set (box_far HBN.out.2.2 (q := ⟨w.heap.size + 3, 0, none⟩) (by simp) _) _)
        · have HWS2 : Hid (winC A E D R (pre ++ [s]) = nw) := hide (by rw [HWS.out, if_neg hgt]; rfl)
          by_cases heq : xx = yy
          · have HTS2 : Hid (tieC A E D R (pre ++ [s]) = nt + 1) := hide (by rw [HTS.out, if_pos heq])
            subst heq
            gi_wp2
            refine ⟨(Keeps.setCell (p := ⟨w.heap.size + 5, 0, none⟩) (Keeps.setCell (p := ⟨w.heap.size + 4, 0, none⟩) (Keeps.of_all HB3z.out) (.inr (.inl rfl)) _) (.inr (.inr rfl)) _), ?_⟩
            refine ⟨?_, ?_, ?_, (Keeps.setCell (p := ⟨w.heap.size + 5, 0, none⟩) (Keeps.setCell (p := ⟨w.heap.size + 4, 0, none⟩) HKZ.out (.inr (.inl rfl)) _) (.inr (.inr rfl)) _)⟩
            · rw [HWS2.out]; exact (box_far (box_far HBN.out.1 (q := ⟨w.heap.size + 4, 0, none⟩) (by simp) _) (q := ⟨w.heap.size + 5, 0, none⟩) (by simp) _)
            · rw [HTS2.out, show (((nt + 1 : Nat)) : Int) = (nt : Int) + 1 by omega]; exact (box_far (box_set HBN.out.2.1 _) (q := ⟨w.heap.size + 5, 0, none⟩) (by simp) _)
            · rw [List.length_append, HNP.out, List.length_singleton, show (((np + 1 : Nat)) : Int) = (np : Int) + 1 by omega]; exact (box_set (box_far HBN.out.2.2 (q := ⟨w.heap.size + 4, 0, none⟩) (by simp) _) _)
          · have HTS2 : Hid (tieC A E D R (pre ++ [s]) = nt) := hide (by rw [HTS.out, if_neg heq]; rfl)
            have bne : (xx == yy) = false := by simpa using heq
            gi_wp2
            refine ⟨(Keeps.setCell (p := ⟨w.heap.size + 5, 0, none⟩) (Keeps.of_all HB3z.out) (.inr (.inr rfl)) _), ?_⟩
            refine ⟨?_, ?_, ?_, (Keeps.setCell (p := ⟨w.heap.size + 5, 0, none⟩) HKZ.out (.inr (.inr rfl)) _)⟩
            · rw [HWS2.out]; exact (box_far HBN.out.1 (q := ⟨w.heap.size + 5, 0, none⟩) (by simp) _)
            · rw [HTS2.out]; exact (box_far HBN.out.2.1 (q := ⟨w.heap.size + 5, 0, none⟩) (by simp) _)
            · rw [List.length_append, HNP.out, List.length_singleton, show (((np + 1 : Nat)) : Int) = (np : Int) + 1 by omega]; exact (box_set HBN.out.2.2 _)
  · rintro DD W hDD hI hdef
    obtain ⟨hw3, ht3, hn3, hkp⟩ := hI
    rw [← HCOMB.out] at hw3 ht3 hn3
    have HKP := hide hkp
    have HDEF := hide hdef
    obtain ⟨nw, hnw⟩ : ∃ n, winC A E D R (comb k (List.range R.length)) = n := ⟨_, rfl⟩
    obtain ⟨nt, hnt⟩ : ∃ n, tieC A E D R (comb k (List.range R.length)) = n := ⟨_, rfl⟩
    obtain ⟨np, hnp⟩ : ∃ n, (comb k (List.range R.length)).length = n := ⟨_, rfl⟩
    rw [hnw] at hw3
    rw [hnt] at ht3
    rw [hnp] at hn3
    have cw : W.cell? ⟨w.heap.size + 1 + 1 + 1, 0, none⟩ = some (.int .i64 (nw : Nat)) := hw3.cell
    have ct : W.cell? ⟨w.heap.size + 1 + 1 + 1 + 1, 0, none⟩ = some (.int .i64 (nt : Nat)) := ht3.cell
    have cn : W.cell? ⟨w.heap.size + 1 + 1 + 1 + 1 + 1, 0, none⟩ = some (.int .i64 (np : Nat)) := hn3.cell
    have fw : W.frozen? ⟨w.heap.size + 1 + 1 + 1, 0, none⟩ = false := hw3.frozen
    have ft : W.frozen? ⟨w.heap.size + 1 + 1 + 1 + 1, 0, none⟩ = false := ht3.frozen
    have fn : W.frozen? ⟨w.heap.size + 1 + 1 + 1 + 1 + 1, 0, none⟩ = false := hn3.frozen
    have HNW := hide hnw
    have HNT := hide hnt
    have HNN := hide hnp
    clear hw3 ht3 hn3 hkp hdef hnw hnt hnp hI0 hok hrun
    go_wp2
    go_region
    all_goals rw [setCell_id cw, setCell_id ct, setCell_id cn]
    all_goals go_wp2
    all_goals
      refine ⟨by simp, .inl ⟨_, _, rfl, run_takeDeferred HDEF.out, ?_⟩⟩
      have kk : Keeps (fun k => k = DD) W (W.drew.putObj DD (Obj.deferred none)) := Keeps.put (X := fun k => k = DD) (Keeps.refl _ W).drew (l := DD) rfl _
      have n1 : ¬ w.heap.size + 1 + 1 + 1 = DD := by omega
      have n2 : ¬ w.heap.size + 1 + 1 + 1 + 1 = DD := by omega
      have n3 : ¬ w.heap.size + 1 + 1 + 1 + 1 + 1 = DD := by omega
      refine ⟨_, results_ccct rfl _ _ (w.heap.size + 1 + 1 + 1) (w.heap.size + 1 + 1 + 1 + 1) (w.heap.size + 1 + 1 + 1 + 1 + 1) rfl rfl rfl nw nt np (kk.cell cw n1) (kk.cell ct n2) (kk.cell cn n3), ?_, ?_⟩
      · rw [HNW.out, HNT.out, HNN.out]; rfl
      · have hsz0 := HBW0.out.size
        exact (HBW0.out.trans (HKP.out.below hsz0 (fun q hq e => by omega))).trans (kk.below (Nat.le_trans hsz0 HKP.out.size) (fun q hq e => by omega))

end Go.Proofs.Ytdhacmcdbpojlaa
