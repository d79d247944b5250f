/-
  What crib.timesOf answers: how many there are of each rank. No conditions beyond those that each theorem bears.
-/
import Derived.Test.YtneafmjbekafmaaFif
import Derived.Deep.MidRow
namespace Go.Proofs.Ytneafmjbekafmaa
open Go.RowKit Go.Shelf

/-- Numbers as cells, and as an array's value. -/
def ivs (T : List Nat) : List Value := (toI T).map (Value.int .i64)
def arrT (T : List Nat) : Value := .agg (ivs T).toArray

theorem ivs_length (T : List Nat) : (ivs T).length = T.length := by simp [ivs, toI]

theorem size57 : (Try.prog.info? 58).map (·.size) = some 13 := by kernel_rfl

theorem Blk.range {w : World} {b t : Nat} {T : List Nat} (h : Blk w b t T) : w.rangeAt b 0 (ivs T) := by
  intro j v hv
  have hj : j < T.length := by have := (List.getElem?_eq_some_iff.1 hv).1; rwa [ivs_length] at this
  rw [Nat.zero_add, h.cell hj, ← hv]
  simp [ivs, toI, List.getD, hj]

theorem Blk.there {w : World} {b t : Nat} {T : List Nat} (h : Blk w b t T) : w.there b 0 T.length := by
  intro j hj
  rw [Nat.zero_add]
  exact ⟨by rw [h.cell hj]; rfl, h.frozen j⟩

theorem ivs_one (T : List Nat) : (ivs T).toArray.all (·.oneCell') = true := by
  simp [ivs, Value.oneCell']

theorem count_snocR (l : List Nat) (c r : Nat) : ((l ++ [c]).map rkC).count r = if rkC c = r then (l.map rkC).count r + 1 else (l.map rkC).count r := by
  simp only [List.map_append, List.map_cons, List.map_nil, List.count_append, List.count_singleton]
  by_cases h : rkC c = r
  · subst h; simp
  · simp [h]

theorem tms_of (T : List Nat) (L : List Nat) (hl : T.length = 13) (h : ∀ r, r < 13 → T.getD r 0 = (L.map rkC).count r) : T = tms L := by
  apply list_ext
  · rw [hl, tms_length]
  · intro q hq
    rw [h q (by omega), tms_getD L q (by omega)]

theorem setCells_below {B : Nat} {w : World} (b o : Nat) (vs : List Value) (hb : B ≤ b) : Below B w (w.setCells b o vs) := by
  induction vs generalizing w o with
  | nil => exact Below.refl _ _
  | cons v vs ih => exact ((Below.refl B w).setCell hb v).trans (ih (o + 1))

theorem load57 (w : World) (b : Nat) (T : List Nat) (hl : T.length = 13) (h : w.rangeAt b 0 (ivs T)) : (loadVar 58 ⟨b, 0, none⟩).run Try.prog w = .ok (arrT T) w :=
  run_loadVar_mid w b 0 58 (ivs T) _ h Try.underlying58 rfl (by rw [ivs_length, hl]; exact size57)

theorem results_cT {fn : Func} {t : Tmp} (h : fn.results = #[.cell t 58]) (tmps : Array Value) (w : World) (b : Nat) (hb : tmps.getD t undef = .pointer (some ⟨b, 0, none⟩)) (T : List Nat) (hl : T.length = 13) (hr : w.rangeAt b 0 (ivs T)) :
    (results fn tmps).run Try.prog w = .ok (arrT T) w := by
  have hl := load57 w b T hl hr
  have hb' : tmps[t]?.getD undef = .pointer (some ⟨b, 0, none⟩) := by simpa using hb
  have ha : (asAddr (.pointer (some ⟨b, 0, none⟩))).run Try.prog w = .ok ⟨b, 0, none⟩ w := rfl
  simp [results, h, hb', ha, hl, Sem.run_bind, Result.andThen]

theorem store57 (w : World) (b : Nat) (T : List Nat) (ht : w.there b 0 T.length) : Sem.run Try.prog (storeCells ⟨b, 0, none⟩ (ivs T)) w = .ok () (w.setCells b 0 (ivs T)) := by
  have := run_storeCells_cells (P := Try.prog) b 0 (ivs T) 0 w (fun j hj => by simpa using (ht j (by rwa [ivs_length] at hj)).1) (fun j hj => by simpa using (ht j (by rwa [ivs_length] at hj)).2)
    (fun v hv => (Array.all_eq_true_iff_forall_mem.1 (ivs_one T)) v (by simpa using hv))
  simpa using this

set_option maxRecDepth 100000 in
set_option maxHeartbeats 2000000 in
theorem timesOf_any (a : Option Addr) (n c : Nat) (L : List Nat) (hlt : ∀ x ∈ L, x < 52) (hn : n ≤ 13) (w : World) (h : Rd w a n c (toI L)) :
    Calls Try.prog 42 #[.slice a n c] w fun e w' => e = .returned (arrT (tms L)) ∧ Below w.heap.size w w' := by
  have hcm := h.max
  have hcn := h.cap
  unfold maxLen at hcm
  have hLl : Hid (L.length = n) := hide (by have := h.len; rwa [toI_length] at this)
  go_enter Try.func42, Try.ntmps42
  go_wp2
  obtain ⟨w1, hw1⟩ : ∃ w1, (w.alloc (Obj.cells #[.int .i64 0, .int .i64 0, .int .i64 0, .int .i64 0, .int .i64 0, .int .i64 0, .int .i64 0, .int .i64 0, .int .i64 0, .int .i64 0, .int .i64 0, .int .i64 0, .int .i64 0] 58)).alloc (Obj.cells #[.int .i64 0, .int .i64 0, .int .i64 0, .int .i64 0, .int .i64 0, .int .i64 0, .int .i64 0, .int .i64 0, .int .i64 0, .int .i64 0, .int .i64 0, .int .i64 0, .int .i64 0] 58) = w1 := ⟨_, rfl⟩
  rw [hw1]
  have K0 : Blk w1 w.heap.size 58 (List.replicate 13 0) := by rw [← hw1]; exact (Blk.new w 58 (List.replicate 13 0) _ rfl).old _
  have K1 : Blk w1 (w.heap.size + 1) 58 (List.replicate 13 0) := by
    rw [← hw1]
    have := Blk.new (w.alloc (Obj.cells #[.int .i64 0, .int .i64 0, .int .i64 0, .int .i64 0, .int .i64 0, .int .i64 0, .int .i64 0, .int .i64 0, .int .i64 0, .int .i64 0, .int .i64 0, .int .i64 0, .int .i64 0] 58)) 58 (List.replicate 13 0) _ rfl
    rw [World.size_alloc] at this
    exact this
  have B1 : Below w.heap.size w w1 := by rw [← hw1]; exact ((Below.refl _ w).alloc (Nat.le_refl _) _).alloc (by simp) _
  have HK0 := hide K0
  have HH := hide h
  clear hw1 K0 h
  go_loopw [8] (fun v wr => ∃ (k : Nat) (T : List Nat), v = .int .i64 k ∧ k ≤ n ∧ Hid (Blk wr (w.heap.size + 1) 58 T) ∧ Hid (T.length = 13) ∧ Hid (∀ r, r < 13 → T.getD r 0 = ((L.take k).map rkC).count r) ∧ Hid (Blk wr w.heap.size 58 (List.replicate 13 0)) ∧ Hid (Below w.heap.size w wr)) (fun v _ => n - (intOf v).toNat)
  case atStart => exact ⟨0, _, rfl, by omega, K1, rfl, fun r hr => by rw [rep0]; simp, HK0.out, B1⟩
  case round =>
    clear K1 B1
    obtain ⟨k, T, rfl, hk, hT, hTl, hTc, hZ, hB⟩ := hrel
    by_cases hlt' : k < n
    · have hkn : (k : Int) < (n : Int) := by omega
      obtain ⟨b, off, ha, hc⟩ := HH.out.cells (by omega)
      subst ha
      have r0 := hc k hlt'
      rw [toI_getD] at r0
      have r1 : wr.cell? ⟨b, off + k, none⟩ = _ := (hB.out.cell (p := ⟨b, off + k, none⟩) (World.block_lt_of_cell? w _ r0)).trans r0
      clear hc r0
      have hkl : k < L.length := by rw [hLl.out]; exact hlt'
      have et := take_snoc L k hkl
      have hm := mem_getD L k hkl
      obtain ⟨x, hx⟩ : ∃ x, L.getD k 0 = x := ⟨_, rfl⟩
      rw [hx] at r1 et hm
      have ET := hide et
      have RK := hide (rankOf_any x (hlt x hm))
      have hr13 := rkC_lt x
      obtain ⟨r, hr⟩ : ∃ r, rkC x = r := ⟨_, rfl⟩
      rw [hr] at RK hr13
      have HR := hide hr
      have c1 := hT.out.cell (i := r) (by rw [hTl.out]; exact hr13)
      have f1 := hT.out.frozen r
      obtain ⟨m, hm'⟩ : ∃ m, T.getD r 0 = m := ⟨_, rfl⟩
      have hm13 : m ≤ 13 := by
        rw [← hm', hTc.out r hr13]
        refine Nat.le_trans List.count_le_length ?_
        rw [List.length_map, List.length_take]; omega
      rw [hm'] at c1
      have HM := hide hm'
      clear et hx hr hm' hm hkl
      go_wp2_with fail
      refine (RK.out _).mono ?_
      rintro e w2 ⟨rfl, hw⟩
      subst w2
      go_wp2
      refine ⟨⟨k + 1, T.set r (m + 1), by go_num, by omega, ?_, ?_, ?_, ?_, hB.out.setCell (by simp) _⟩, by simp [intOf]; omega⟩
      · have := hT.out.set r (m + 1)
        rw [show ((m + 1 : Nat) : Int) = (m : Int) + 1 by omega] at this
        exact this
      · show _ = _
        rw [List.length_set]; exact hTl.out
      · intro r' hr'
        rw [getD_setN _ _ _ _ (by rw [hTl.out]; exact hr13), ET.out, count_snocR, HR.out]
        by_cases e' : r' = r
        · subst e'; rw [if_pos rfl, if_pos rfl, ← hTc.out _ hr13, HM.out]
        · rw [if_neg e', if_neg (fun h => e' h.symm)]; exact hTc.out r' hr'
      · exact hZ.out.keeps ((Keeps.refl (fun q => q = w.heap.size + 1) wr).setOne r _) (by omega)
    · obtain rfl : k = n := by omega
      have hkn : ¬ (k : Int) < (k : Int) := by omega
      have hT' : T = tms L := tms_of T L hTl.out (fun r hr => by
        have := hTc.out r hr
        rwa [List.take_of_length_le (by rw [hLl.out]; exact Nat.le_refl _)] at this)
      subst hT'
      have HRG := hide hT.out.range
      have hth : wr.there w.heap.size 0 (tms L).length := by rw [tms_length]; exact hZ.out.there
      have hst := store57 wr w.heap.size (tms L) hth
      have HTH := hide hth
      clear hth
      go_wp2_with (refine wpList_load_mid rfl 58 _ rfl (w.heap.size + 1) 0 rfl (ivs (tms L)) _ HRG.out Try.underlying58 rfl (by rw [ivs_length, tms_length]; exact size57) ?_)
      refine bodyPost_ret (results_cT rfl _ _ w.heap.size rfl (tms L) (tms_length L) (World.rangeAt_setCells_same _ _ _ _ (by rw [ivs_length]; exact HTH.out))) rfl ⟨rfl, ?_⟩
      exact hB.out.trans (setCells_below _ _ _ (Nat.le_refl _))

end Go.Proofs.Ytneafmjbekafmaa
