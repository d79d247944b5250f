/-
  What poker.signsOf answers. No conditions beyond those that each theorem bears.
-/
import Derived.Test.YtdhacmcdbpojlaaSort5
namespace Go.Proofs.Ytdhacmcdbpojlaa
open Go.RowKit Go.Shelf

/-- How often a rank is there. -/
def cntR (h : List Nat) (r : Nat) : Nat := (h.map (· / 4)).count r
def wt (h : List Nat) (c : Nat) : Nat := cntR h (c / 4) * 13 + c / 4
def wsOf (h : List Nat) : List Nat := isort (h.map (wt h))

/-- So many signs, and which, when k of the sorted weights have been looked at. -/
def stepS (ws : List Nat) : Nat → Nat × List Nat
  | 0 => (0, [0, 0, 0, 0, 0])
  | k + 1 => if k = 0 ∨ ws.getD (4 - k) 0 ≠ ws.getD (5 - k) 0 then ((stepS ws k).1 + 1, (stepS ws k).2.set (stepS ws k).1 (ws.getD (4 - k) 0 % 13)) else stepS ws k

theorem cntR_snoc (l : List Nat) (c r : Nat) : cntR (l ++ [c]) r = if c / 4 = r then cntR l r + 1 else cntR l r := by
  simp only [cntR, List.map_append, List.map_cons, List.map_nil, List.count_append, List.count_singleton]
  by_cases h : c / 4 = r
  · subst h; simp
  · simp [h]

theorem run_idxk (a b c d e : Nat) (k : Nat) (hk : k < 5) (w : World) :
    (Instr.index 48 (.agg #[.int .i64 a, .int .i64 b, .int .i64 c, .int .i64 d, .int .i64 e]) (.int .i64 k)).run Try.prog w = .ok (.int .i64 (([a, b, c, d, e].getD k 0 : Nat) : Int)) w := by
  match k, hk with
  | 0, _ => exact run_idx0 _ _ _ _ _ w
  | 1, _ => exact run_idx1 _ _ _ _ _ w
  | 2, _ => exact run_idx2 _ _ _ _ _ w
  | 3, _ => exact run_idx3 _ _ _ _ _ w
  | 4, _ => exact run_idx4 _ _ _ _ _ w

theorem take_snoc (l : List Nat) (k : Nat) (h : k < l.length) : l.take (k + 1) = l.take k ++ [l.getD k 0] := by
  rw [List.take_succ_eq_append_getElem h]
  simp [List.getD, h]

attribute [local go_sem] run_idx0 run_idx1 run_idx2 run_idx3 run_idx4

/-- A block of numbers. -/
def Blk (w : World) (b t : Nat) (L : List Nat) : Prop := w.heap[b]? = some (.cells ((toI L).map (Value.int .i64)).toArray t (0, 0))

theorem Blk.cell {w : World} {b t : Nat} {L : List Nat} (h : Blk w b t L) {i : Nat} (hi : i < L.length) : w.cell? ⟨b, i, none⟩ = some (.int .i64 (L.getD i 0)) := by
  have h' : w.heap[b]? = _ := h
  simp [World.cell?, h', toI, List.getD, hi]

theorem Blk.frozen {w : World} {b t : Nat} {L : List Nat} (h : Blk w b t L) (i : Nat) : w.frozen? ⟨b, i, none⟩ = false := by
  have h' : w.heap[b]? = _ := h
  simp [World.frozen?, h']

theorem Blk.set {w : World} {b t : Nat} {L : List Nat} (h : Blk w b t L) (i x : Nat) : Blk (w.setCell ⟨b, i, none⟩ (.int .i64 x)) b t (L.set i x) := by
  have h' : w.heap[b]? = _ := h
  simp [Blk, World.setCell, Array.getElem?_modify, h', toI, List.map_set]

theorem Blk.keeps {X : Nat → Prop} {w w' : World} {b t : Nat} {L : List Nat} (h : Blk w b t L) (hk : Keeps X w w') (hb : ¬ X b) : Blk w' b t L :=
  (hk.block b (Array.getElem?_eq_some_iff.1 h).1 hb).trans h

theorem Blk.lt {w : World} {b t : Nat} {L : List Nat} (h : Blk w b t L) : b < w.heap.size := (Array.getElem?_eq_some_iff.1 h).1

theorem Blk.new (w : World) (t : Nat) (L : List Nat) (c : Array Value) (hc : c = ((toI L).map (Value.int .i64)).toArray) : Blk (w.alloc (.cells c t)) w.heap.size t L := by
  subst hc
  exact World.alloc_heap_new w _

theorem Blk.old {w : World} {b t : Nat} {L : List Nat} (h : Blk w b t L) (o : Obj) : Blk (w.alloc o) b t L :=
  (Below.heap_alloc w o b h.lt).trans h

theorem Keeps.setOne {w w' : World} {b : Nat} (h : Keeps (fun k => k = b) w w') (i : Nat) (v : Value) : Keeps (fun k => k = b) w (w'.setCell ⟨b, i, none⟩ v) :=
  h.setCell (p := ⟨b, i, none⟩) rfl v

theorem rep0 (n r : Nat) : (List.replicate n 0).getD r 0 = 0 := by
  simp only [List.getD, List.getElem?_replicate]
  split <;> rfl

theorem div4 (x : Nat) : (x : Int) / 4 = ((x / 4 : Nat) : Int) := by omega

theorem stepS_len (ws : List Nat) (k : Nat) : (stepS ws k).2.length = 5 := by
  induction k with
  | zero => rfl
  | succ k ih => unfold stepS; split <;> simp [ih]

theorem stepS_le (ws : List Nat) (k : Nat) : (stepS ws k).1 ≤ k := by
  induction k with
  | zero => exact Nat.le_refl _
  | succ k ih =>
    unfold stepS
    split
    · exact Nat.succ_le_succ ih
    · exact Nat.le_succ_of_le ih

theorem stepS_yes (ws : List Nat) (k : Nat) (h : k = 0 ∨ ws.getD (4 - k) 0 ≠ ws.getD (5 - k) 0) : stepS ws (k + 1) = ((stepS ws k).1 + 1, (stepS ws k).2.set (stepS ws k).1 (ws.getD (4 - k) 0 % 13)) := by
  rw [stepS, if_pos h]
theorem stepS_no (ws : List Nat) (k : Nat) (h : ¬ (k = 0 ∨ ws.getD (4 - k) 0 ≠ ws.getD (5 - k) 0)) : stepS ws (k + 1) = stepS ws k := by
  rw [stepS, if_neg h]

theorem mod13 (x : Nat) : (x : Int) % 13 = ((x % 13 : Nat) : Int) := by omega
theorem div13 (x : Nat) : (x : Int) / 13 = ((x / 13 : Nat) : Int) := by omega

set_option maxRecDepth 100000 in
set_option maxHeartbeats 4000000 in
theorem signs_any (a b c d e : Nat) (hlt : ∀ x ∈ [a, b, c, d, e], x < 52) (w : World) :
    Calls Try.prog 40 #[arrN a b c d e] w fun r w' => ∃ s0 s1 s2 s3 s4, (stepS (wsOf [a, b, c, d, e]) 5).2 = [s0, s1, s2, s3, s4] ∧
      r = .returned (.tuple #[arrN s0 s1 s2 s3 s4, .int .i64 (stepS (wsOf [a, b, c, d, e]) 5).1, .int .i64 ((wsOf [a, b, c, d, e]).getD 4 0 / 13 : Nat)]) ∧ Below w.heap.size w w' := by
  unfold arrN
  go_enter Try.func40, Try.ntmps40
  go_wp2
  obtain ⟨w3, hw3⟩ : ∃ w3, ((w.alloc (Obj.cells #[.int .i64 a, .int .i64 b, .int .i64 c, .int .i64 d, .int .i64 e] 48)).alloc (Obj.cells #[.int .i64 0, .int .i64 0, .int .i64 0, .int .i64 0, .int .i64 0] 48)).alloc (Obj.cells #[.int .i64 0, .int .i64 0, .int .i64 0, .int .i64 0, .int .i64 0, .int .i64 0, .int .i64 0, .int .i64 0, .int .i64 0, .int .i64 0, .int .i64 0, .int .i64 0, .int .i64 0] 72) = w3 := ⟨_, rfl⟩
  rw [hw3]
  have K1 : Blk w3 w.heap.size 48 [a, b, c, d, e] := by rw [← hw3]; exact ((Blk.new w 48 [a, b, c, d, e] _ rfl).old _).old _
  have K2 : Blk w3 (w.heap.size + 1) 48 [0, 0, 0, 0, 0] := by
    rw [← hw3]
    have := (Blk.new (w.alloc (Obj.cells #[.int .i64 a, .int .i64 b, .int .i64 c, .int .i64 d, .int .i64 e] 48)) 48 [0, 0, 0, 0, 0] _ rfl).old (Obj.cells #[.int .i64 0, .int .i64 0, .int .i64 0, .int .i64 0, .int .i64 0, .int .i64 0, .int .i64 0, .int .i64 0, .int .i64 0, .int .i64 0, .int .i64 0, .int .i64 0, .int .i64 0] 72)
    rw [World.size_alloc] at this
    exact this
  have K3 : Blk w3 (w.heap.size + 2) 72 (List.replicate 13 0) := by
    rw [← hw3]
    have := Blk.new ((w.alloc (Obj.cells #[.int .i64 a, .int .i64 b, .int .i64 c, .int .i64 d, .int .i64 e] 48)).alloc (Obj.cells #[.int .i64 0, .int .i64 0, .int .i64 0, .int .i64 0, .int .i64 0] 48)) 72 (List.replicate 13 0) _ rfl
    rw [World.size_alloc, World.size_alloc] at this
    exact this
  have B3 : Below w.heap.size w w3 := by rw [← hw3]; exact (((Below.refl _ w).alloc (Nat.le_refl _) _).alloc (by simp) _).alloc (by simp; omega) _
  have S3 : w3.heap.size = w.heap.size + 3 := by rw [← hw3]; simp
  have HS := hide S3
  have HK1 := hide K1
  have HK2 := hide K2
  have HB3 := hide B3
  clear hw3 S3 K1 K2 B3
  go_loopw [14] (fun v wr => ∃ (k : Nat) (T : List Nat), v = .int .i64 k ∧ k ≤ 5 ∧ Hid (Blk wr (w.heap.size + 2) 72 T) ∧ Hid (T.length = 13) ∧ Hid (∀ r, r < 13 → T.getD r 0 = cntR ([a, b, c, d, e].take k) r) ∧ Hid (Keeps (fun q => q = w.heap.size + 2) w3 wr) ∧ Hid (wr.heap.size = w.heap.size + 3)) (fun v _ => 5 - (intOf v).toNat)
  case atStart => exact ⟨0, _, rfl, by omega, K3, rfl, fun r hr => by rw [rep0]; simp [cntR], Keeps.refl _ _, HS.out⟩
  case round =>
    obtain ⟨k, T, rfl, hk, hT, hTl, hTc, hKp, hsz⟩ := hrel
    by_cases hk5 : k < 5
    · have hidx := run_idxk a b c d e k hk5
      obtain ⟨x, hx⟩ : ∃ x, [a, b, c, d, e].getD k 0 = x := ⟨_, rfl⟩
      have hx52 : x < 52 := by
        rw [← hx]
        exact hlt _ (by simp [List.getD, hk5])
      rw [hx] at hidx
      obtain ⟨r, hr⟩ : ∃ r, x / 4 = r := ⟨_, rfl⟩
      have hq := div4 x
      rw [hr] at hq
      have hr13 : r < 13 := by omega
      have c1 := hT.out.cell (i := r) (by rw [hTl.out]; exact hr13)
      have f1 := hT.out.frozen r
      obtain ⟨m, hm⟩ : ∃ m, T.getD r 0 = m := ⟨_, rfl⟩
      have hm5 : m ≤ 5 := by
        rw [← hm, hTc.out r hr13, cntR]
        refine Nat.le_trans List.count_le_length ?_
        rw [List.length_map, List.length_take]
        exact Nat.min_le_right _ _
      rw [hm] at c1
      have HX := hide hx
      have HR := hide hr
      have HM := hide hm
      have hlt' : (k : Int) < 5 := by omega
      clear hx hr hm
      go_wp2
      refine ⟨⟨k + 1, T.set r (m + 1), by go_num, by omega, ?_, ?_, ?_, ?_, ?_⟩, by simp [intOf]; omega⟩
      · have := hT.out.set r (m + 1)
        rw [show ((m + 1 : Nat) : Int) = (m : Int) + 1 by omega] at this
        exact this
      · show _ = _
        rw [List.length_set]; exact hTl.out
      · intro r' hr'
        rw [getD_setN _ _ _ _ (by rw [hTl.out]; exact hr13), take_snoc _ _ (by simp; omega), HX.out, cntR_snoc, HR.out]
        by_cases e' : r' = r
        · subst e'; rw [if_pos rfl, if_pos rfl, ← hTc.out _ hr13, HM.out]
        · rw [if_neg e', if_neg (fun h => e' h.symm)]; exact hTc.out r' hr'
      · exact hKp.out.setOne _ _
      · show _ = _
        simp [World.setCell]; exact hsz.out
    · obtain rfl : k = 5 := by omega
      have hm5 : ∀ r, r < 13 → T.getD r 0 ≤ 5 := by
        intro r hr
        rw [hTc.out r hr, cntR]
        refine Nat.le_trans List.count_le_length ?_
        rw [List.length_map, List.length_take]
        exact Nat.min_le_right _ _
      obtain ⟨ra, hra⟩ : ∃ r, a / 4 = r := ⟨_, rfl⟩
      have qa := div4 a
      rw [hra] at qa
      have la : ra < 13 := by have := hlt a (by simp); omega
      have ta := fun o => old_cell o (hT.out.cell (i := ra) (by rw [hTl.out]; exact la))
      obtain ⟨ma, hma⟩ : ∃ m, T.getD ra 0 = m := ⟨_, rfl⟩
      have na : ma ≤ 5 := by rw [← hma]; exact hm5 _ la
      rw [hma] at ta
      have Wa : Hid (wt [a, b, c, d, e] a = ma * 13 + ra) := by
        show _ = _
        rw [wt, hra, ← hma, hTc.out _ la]; rfl
      clear hra hma
      obtain ⟨rb, hrb⟩ : ∃ r, b / 4 = r := ⟨_, rfl⟩
      have qb := div4 b
      rw [hrb] at qb
      have lb : rb < 13 := by have := hlt b (by simp); omega
      have tb := fun o => old_cell o (hT.out.cell (i := rb) (by rw [hTl.out]; exact lb))
      obtain ⟨mb, hmb⟩ : ∃ m, T.getD rb 0 = m := ⟨_, rfl⟩
      have nb : mb ≤ 5 := by rw [← hmb]; exact hm5 _ lb
      rw [hmb] at tb
      have Wb : Hid (wt [a, b, c, d, e] b = mb * 13 + rb) := by
        show _ = _
        rw [wt, hrb, ← hmb, hTc.out _ lb]; rfl
      clear hrb hmb
      obtain ⟨rc, hrc⟩ : ∃ r, c / 4 = r := ⟨_, rfl⟩
      have qc := div4 c
      rw [hrc] at qc
      have lc : rc < 13 := by have := hlt c (by simp); omega
      have tc := fun o => old_cell o (hT.out.cell (i := rc) (by rw [hTl.out]; exact lc))
      obtain ⟨mc, hmc⟩ : ∃ m, T.getD rc 0 = m := ⟨_, rfl⟩
      have nc : mc ≤ 5 := by rw [← hmc]; exact hm5 _ lc
      rw [hmc] at tc
      have Wc : Hid (wt [a, b, c, d, e] c = mc * 13 + rc) := by
        show _ = _
        rw [wt, hrc, ← hmc, hTc.out _ lc]; rfl
      clear hrc hmc
      obtain ⟨rd, hrd⟩ : ∃ r, d / 4 = r := ⟨_, rfl⟩
      have qd := div4 d
      rw [hrd] at qd
      have ld : rd < 13 := by have := hlt d (by simp); omega
      have td := fun o => old_cell o (hT.out.cell (i := rd) (by rw [hTl.out]; exact ld))
      obtain ⟨md, hmd⟩ : ∃ m, T.getD rd 0 = m := ⟨_, rfl⟩
      have nd : md ≤ 5 := by rw [← hmd]; exact hm5 _ ld
      rw [hmd] at td
      have Wd : Hid (wt [a, b, c, d, e] d = md * 13 + rd) := by
        show _ = _
        rw [wt, hrd, ← hmd, hTc.out _ ld]; rfl
      clear hrd hmd
      obtain ⟨re, hre⟩ : ∃ r, e / 4 = r := ⟨_, rfl⟩
      have qe := div4 e
      rw [hre] at qe
      have le : re < 13 := by have := hlt e (by simp); omega
      have te := fun o => old_cell o (hT.out.cell (i := re) (by rw [hTl.out]; exact le))
      obtain ⟨me, hme⟩ : ∃ m, T.getD re 0 = m := ⟨_, rfl⟩
      have ne : me ≤ 5 := by rw [← hme]; exact hm5 _ le
      rw [hme] at te
      have We : Hid (wt [a, b, c, d, e] e = me * 13 + re) := by
        show _ = _
        rw [wt, hre, ← hme, hTc.out _ le]; rfl
      clear hre hme
      have k1 := HK1.out.keeps hKp.out (by omega)
      have k2 := HK2.out.keeps hKp.out (by omega)
      have BW := HB3.out.trans (hKp.out.below (B := w.heap.size) (by have := HS.out; omega) (fun k hk e => by omega))
      have g0 := fun o => old_cell o (k1.cell (i := 0) (by simp))
      have g1 := fun o => old_cell o (k1.cell (i := 1) (by simp))
      have g2 := fun o => old_cell o (k1.cell (i := 2) (by simp))
      have g3 := fun o => old_cell o (k1.cell (i := 3) (by simp))
      have g4 := fun o => old_cell o (k1.cell (i := 4) (by simp))
      simp only [List.getD, List.getElem?_cons_zero, List.getElem?_cons_succ, Option.getD_some] at g0 g1 g2 g3 g4
      have HK2' := hide k2
      have HBW := hide BW
      clear k1 k2 BW hm5 K3 HK1 HK2 HB3 hTc hTl hT hKp
      go_wp2
      refine wp_loop_rounds 6 ?_
      rw [rounds_succ]
      go_wp2
      rw [rounds_succ]
      go_wp2
      rw [rounds_succ]
      go_wp2
      rw [rounds_succ]
      go_wp2
      rw [rounds_succ]
      go_wp2
      rw [rounds_succ]
      go_wp2_with fail
      have KW : Blk (wr.alloc (Obj.cells #[Value.int IntKind.i64 (ma * 13 + ra), Value.int IntKind.i64 (mb * 13 + rb), Value.int IntKind.i64 (mc * 13 + rc), Value.int IntKind.i64 (md * 13 + rd), Value.int IntKind.i64 (me * 13 + re)] 48)) wr.heap.size 48 [ma * 13 + ra, mb * 13 + rb, mc * 13 + rc, md * 13 + rd, me * 13 + re] :=
        Blk.new wr 48 _ _ (by simp [toI])
      have ews : Hid (isort [ma * 13 + ra, mb * 13 + rb, mc * 13 + rc, md * 13 + rd, me * 13 + re] = wsOf [a, b, c, d, e]) := by
        show _ = _
        simp only [wsOf, List.map_cons, List.map_nil, Wa.out, Wb.out, Wc.out, Wd.out, We.out]
      refine (sort5_any wr.heap.size [ma * 13 + ra, mb * 13 + rb, mc * 13 + rc, md * 13 + rd, me * 13 + re] rfl _ (fun i hi => ⟨KW.cell (by simpa using hi), KW.frozen i⟩)).mono ?_
      rintro e5 w5 ⟨rfl, hk5', hs5, hc5⟩
      have hb77 : ∀ i, (isort [ma * 13 + ra, mb * 13 + rb, mc * 13 + rc, md * 13 + rd, me * 13 + re]).getD i 0 ≤ 77 := by
        intro i
        by_cases hi : i < 5
        · have hmem : (isort [ma * 13 + ra, mb * 13 + rb, mc * 13 + rc, md * 13 + rd, me * 13 + re]).getD i 0 ∈ isort [ma * 13 + ra, mb * 13 + rb, mc * 13 + rc, md * 13 + rd, me * 13 + re] := by
            simp [List.getD, isort_length, hi]
          have := (isort_perm _).mem_iff.1 hmem
          simp only [List.mem_cons, List.not_mem_nil, or_false] at this
          omega
        · simp [List.getD, isort_length, hi]
      obtain ⟨ws, hws⟩ : ∃ ws, isort [ma * 13 + ra, mb * 13 + rb, mc * 13 + rc, md * 13 + rd, me * 13 + re] = ws := ⟨_, rfl⟩
      have ews' := ews.out
      rw [hws] at ews' hb77 hc5
      have EWS := hide ews'
      have BS : Blk w5 (w.heap.size + 1) 48 [0, 0, 0, 0, 0] := (HK2'.out.old _).keeps hk5' (by have := hsz.out; omega)
      have BW5 : Below w.heap.size w w5 := (HBW.out.alloc (by have := hsz.out; omega) _).trans (hk5'.below (by have := hsz.out; simp; omega) (fun k hk e => by have := hsz.out; omega))
      obtain ⟨g, hg⟩ : ∃ g, wr.heap.size = g := ⟨_, rfl⟩
      have hgne : w.heap.size + 1 ≠ g := by have := hsz.out; omega
      have hg2 : Hid (w.heap.size + 1 < g) := by have := hsz.out; show _ < _; omega
      rw [hg] at hc5
      simp only [hg]
      have HBS := hide BS
      have HBW5 := hide BW5
      have HC5 := hide hc5
      have HB7 := hide hb77
      clear KW ews ews' hws hk5' hs5 hc5 hb77 BS BW5 HK2' HBW hsz Wa Wb Wc Wd We ta tb tc td te na nb nc nd ne la lb lc ld le qa qb qc qd qe g0 g1 g2 g3 g4 HS hg hk hk5
      go_wp2
      go_loopw [3, 12] (fun v u wq => ∃ (k : Nat), v = .int .i64 (stepS ws k).1 ∧ u = .int .i64 (4 - (k : Int)) ∧ k ≤ 5 ∧ Hid (Blk wq (w.heap.size + 1) 48 (stepS ws k).2) ∧ Hid (Keeps (fun q => q = w.heap.size + 1) w5 wq)) (fun _ u _ => (intOf u + 1).toNat)
      case atStart => exact ⟨0, rfl, rfl, by omega, HBS.out, Keeps.refl _ _⟩
      case round =>
        obtain ⟨k, rfl, rfl, hk, hB, hKp⟩ := hrel
        have hC : ∀ i, i < 5 → wr.cell? ⟨g, i, none⟩ = some (.int .i64 (ws.getD i 0)) := fun i hi => hKp.out.cell (HC5.out i hi) (fun e => hgne e.symm)
        by_cases hk5 : k < 5
        · obtain ⟨i, hi⟩ : ∃ i, 4 - k = i := ⟨_, rfl⟩
          have hii : (4 : Int) - (k : Int) = (i : Int) := by omega
          have hi5 : i < 5 := by omega
          rw [hii]
          have c1 := hC i hi5
          obtain ⟨x, hx⟩ : ∃ x, ws.getD i 0 = x := ⟨_, rfl⟩
          have hx77 : x ≤ 77 := by rw [← hx]; exact HB7.out i
          rw [hx] at c1
          obtain ⟨m, hm⟩ : ∃ m, x % 13 = m := ⟨_, rfl⟩
          have q1 := mod13 x
          rw [hm] at q1
          obtain ⟨n, hn⟩ : ∃ n, (stepS ws k).1 = n := ⟨_, rfl⟩
          have hn5 : n < 5 := by have := stepS_le ws k; omega
          have s1 := hB.out.cell (i := n) (by rw [stepS_len]; exact hn5)
          have f1 := hB.out.frozen n
          have OS : Hid (∀ q, Blk ((wr.drewN q).setCell ⟨w.heap.size + 1, n, none⟩ (.int .i64 m)) (w.heap.size + 1) 48 ((stepS ws k).2.set n m)) :=
            fun q => (hB.out.keeps (X := fun _ => False) (Keeps.of_all (drewN_below _ _ q)) (fun h => h)).set n m
          have KS : Hid (∀ q, Keeps (fun q => q = w.heap.size + 1) w5 ((wr.drewN q).setCell ⟨w.heap.size + 1, n, none⟩ (.int .i64 m))) :=
            fun q => (hKp.out.trans (Keeps.of_all (drewN_below _ _ q))).setOne _ _
          have HX := hide hx
          have HM := hide hm
          have HN := hide hn
          have HI := hide hi
          rw [hn]
          by_cases h0 : k = 0
          · obtain rfl : i = 4 := by omega
            have HY := hide (stepS_yes ws k (.inl h0))
            clear hx hm hn hi hii hC
            go_wp2
            go_quiet (fail)
            go_wp2
            refine ⟨⟨k + 1, by rw [HY.out]; simp [HN.out], by congr 1; omega, by omega, ?_, KS.out _⟩, by simp [intOf]⟩
            rw [HY.out]
            simp only [HI.out, HX.out, HM.out, HN.out]
            exact OS.out _
          · have hi4 : decide ((i : Int) = 4) = false := by simp; omega
            have hi4' : ((i : Int) == 4) = false := by simp; omega
            have hi44 : i + 1 < 5 := by omega
            have hi45 : i < 4 := by omega
            have c2 := hC (i + 1) (by omega)
            obtain ⟨y, hy⟩ : ∃ y, ws.getD (i + 1) 0 = y := ⟨_, rfl⟩
            rw [hy] at c2
            have hy77 : y ≤ 77 := by rw [← hy]; exact HB7.out (i + 1)
            have e5 : 5 - k = i + 1 := by omega
            by_cases hxy : x = y
            · have hb : ((x : Int) != (y : Int)) = false := by simp; omega
              have HN2 := hide (stepS_no ws k (by rw [hi, e5, hx, hy]; rintro (h | h); exact h0 h; exact h hxy))
              clear hx hm hn hi hii hC hy e5 hxy
              go_wp2
              go_quiet (fail)
              go_wp2
              refine ⟨⟨k + 1, by rw [HN2.out, HN.out], by congr 1; have := HI.out; omega, by omega, ?_, hKp.out.trans (Keeps.of_all (drewN_below _ _ _))⟩, by simp [intOf]⟩
              rw [HN2.out]
              exact hB.out.keeps (X := fun _ => False) (Keeps.of_all (drewN_below _ _ _)) (fun h => h)
            · have hb : ((x : Int) != (y : Int)) = true := by simp; omega
              have HY := hide (stepS_yes ws k (.inr (by rw [hi, e5, hx, hy]; exact hxy)))
              clear hx hm hn hi hii hC hy e5 hxy
              go_wp2
              go_quiet (fail)
              go_wp2
              refine ⟨⟨k + 1, by rw [HY.out]; simp [HN.out], by congr 1; have := HI.out; omega, by omega, ?_, KS.out _⟩, by simp [intOf]⟩
              rw [HY.out]
              simp only [HI.out, HX.out, HM.out, HN.out]
              exact OS.out _
        · obtain rfl : k = 5 := by omega
          have c4 := hC 4 (by omega)
          have HL := stepS_len ws 5
          obtain ⟨s0, s1, s2, s3, s4, hs⟩ : ∃ s0 s1 s2 s3 s4, (stepS ws 5).2 = [s0, s1, s2, s3, s4] := by
            match (stepS ws 5).2, HL with
            | [s0, s1, s2, s3, s4], _ => exact ⟨s0, s1, s2, s3, s4, rfl⟩
          have hB' := hB.out
          rw [hs] at hB'
          have d0 := hB'.cell (i := 0) (by simp)
          have d1 := hB'.cell (i := 1) (by simp)
          have d2 := hB'.cell (i := 2) (by simp)
          have d3 := hB'.cell (i := 3) (by simp)
          have d4 := hB'.cell (i := 4) (by simp)
          have e0 := hB'.frozen 0
          have e1 := hB'.frozen 1
          have e2 := hB'.frozen 2
          have e3 := hB'.frozen 3
          have e4 := hB'.frozen 4
          simp only [List.getD, List.getElem?_cons_zero, List.getElem?_cons_succ, Option.getD_some] at d0 d1 d2 d3 d4
          obtain ⟨x, hx⟩ : ∃ x, ws.getD 4 0 = x := ⟨_, rfl⟩
          have hx77 : x ≤ 77 := by rw [← hx]; exact HB7.out 4
          rw [hx] at c4
          obtain ⟨m, hm⟩ : ∃ m, x / 13 = m := ⟨_, rfl⟩
          have q1 := div13 x
          rw [hm] at q1
          obtain ⟨n, hn⟩ : ∃ n, (stepS ws 5).1 = n := ⟨_, rfl⟩
          rw [hn]
          have HX := hide hx
          have HM := hide hm
          have HN := hide hn
          have HS5 := hide hs
          clear hx hm hn hs hB' hC HL hB HBS HC5 HB7
          go_wp2
          go_region
          all_goals go_wp2
          rw [setCell_id d0, setCell_id d1, setCell_id d2, setCell_id d3, setCell_id d4]
          refine bodyPost_ret (results_c3 rfl _ _ (w.heap.size + 1) rfl _ _ _ _ _ d0 d1 d2 d3 d4) rfl ?_
          rw [← EWS.out]
          refine ⟨s0, s1, s2, s3, s4, HS5.out, ?_, (HBW5.out.trans (hKp.out.below (B := w.heap.size) HBW5.out.size (fun k hk e => by omega))).drew⟩
          rw [HN.out, HX.out, HM.out]; rfl

end Go.Proofs.Ytdhacmcdbpojlaa
