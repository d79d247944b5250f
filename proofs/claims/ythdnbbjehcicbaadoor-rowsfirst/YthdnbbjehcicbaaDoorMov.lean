/-
  Who is to move, which places are empty, and what comes of a game: rows.Solve. No conditions beyond those that each theorem bears.
-/
import Derived.Test.YthdnbbjehcicbaaDoorBest
import Derived.Test.YthdnbbjehcicbaaDoorShelfC
namespace Go.Proofs.YthdnbbjehcicbaaDoor
open Go.RowKit

/-- How many of the first j are so. -/
def cnt (zs : List Int) (v : Int) (j : Nat) : Nat := ((zs.take j).filter fun z => z == v).length

theorem cnt_zero (zs : List Int) (v : Int) : cnt zs v 0 = 0 := rfl
theorem cnt_succ {zs : List Int} {v : Int} {j : Nat} (hj : j < zs.length) : cnt zs v (j + 1) = cnt zs v j + if zs.getD j 0 = v then 1 else 0 := by
  unfold cnt
  rw [take_snoc zs j hj, List.filter_append, List.length_append, List.filter_cons, List.filter_nil]
  by_cases h : zs.getD j 0 = v
  · rw [if_pos h, if_pos (by simpa using h)]; rfl
  · rw [if_neg h, if_neg (by simpa using h)]; rfl
theorem cnt_le (zs : List Int) (v : Int) (j : Nat) : cnt zs v j ≤ j := Nat.le_trans (List.length_filter_le _ _) (by simp; omega)

/-- The mover; 0: nobody. -/
def mvO (zs : List Int) : Nat := if cnt zs 1 zs.length = cnt zs 2 zs.length then 1 else if cnt zs 1 zs.length = cnt zs 2 zs.length + 1 then 2 else 0

attribute [local irreducible] cnt

set_option maxRecDepth 100000 in
set_option maxHeartbeats 2000000 in
theorem moverOf_any (W H : Int) (a : Option Addr) (n c : Nat) (zs : List Int) (hn : n ≤ 100) (hz : ∀ i, i < n → 0 ≤ zs.getD i 0 ∧ zs.getD i 0 ≤ 2) (w : World) (h : Rd w a n c zs) :
    Calls Tryd.prog 28 #[.agg (gdA W H a n c)] w fun e w' => e = .returned (.int .i64 (mvO zs : Nat)) ∧ Below w.heap.size w w' := by
  have hlen := h.len
  have hcm := h.max
  unfold maxLen at hcm
  have hcc := h.cap
  obtain ⟨w1, hw1⟩ : ∃ w1, (w.alloc (.cells (gdA W H a n c) 24)).alloc (.cells #[.int .i64 0, .int .i64 0, .int .i64 0] 83) = w1 := ⟨_, rfl⟩
  have B1 : Below w.heap.size w w1 := by rw [← hw1]; exact ((Below.refl _ w).alloc (Nat.le_refl _) _).alloc (by simp) _
  have G1 : Gd w1 w.heap.size W H a n c := by rw [← hw1]; exact (Gd.new w W H a n c).old _
  have T1 : Blk w1 (w.heap.size + 1) 83 [0, 0, 0] := by
    rw [← hw1]
    have := Blk.new (w.alloc (.cells (gdA W H a n c) 24)) 83 [0, 0, 0] _ rfl
    rw [World.size_alloc] at this
    exact this
  have HR := hide h
  have HB1 := hide B1
  have HL := hide hlen
  have HT1 : Hid (Blk w1 (w.heap.size + 1) 83 [(cnt zs 0 0 : Nat), (cnt zs 1 0 : Nat), (cnt zs 2 0 : Nat)]) := hide (by rw [cnt_zero, cnt_zero, cnt_zero]; exact T1)
  obtain ⟨-, -, g2⟩ := G1.cells
  obtain ⟨OA, hOA⟩ : ∃ OA, a = OA := ⟨_, rfl⟩
  have hmv : mvO zs = if cnt zs 1 n = cnt zs 2 n then 1 else if cnt zs 1 n = cnt zs 2 n + 1 then 2 else 0 := by unfold mvO; rw [hlen]
  have HMV := hide hmv
  obtain ⟨M, hM⟩ : ∃ M, mvO zs = M := ⟨_, rfl⟩
  rw [hM] at HMV ⊢
  have HZ := hide hz
  clear h B1 G1 T1 hlen hmv hM hz hOA
  go_enter Tryd.func28, Tryd.ntmps28
  go_upto_region 2 with fail
  clear hw1
  go_wp2_with fail
  clear g2
  go_loopw [9] (fun v wr => ∃ j : Nat, v = .int .i64 j ∧ j ≤ n ∧ Hid (Blk wr (w.heap.size + 1) 83 [(cnt zs 0 j : Nat), (cnt zs 1 j : Nat), (cnt zs 2 j : Nat)]) ∧ Hid (Keeps (fun q => q = w.heap.size + 1) w1 wr)) (fun v _ => n - (intOf v).toNat)
  case atStart => exact ⟨0, rfl, by omega, HT1, hide (Keeps.refl _ _)⟩
  case round =>
    obtain ⟨j, rfl, hj, hT, hK⟩ := hrel
    clear HT1
    by_cases hlt : j < n
    · have hlt' : (j : Int) < (n : Int) := by omega
      have hRw : Rd wr a n c zs := (HR.out.mono HB1.out).keepsN hK.out (fun h0 b off e hb => by
        have hh := HR.out
        rw [e] at hh
        have := hh.blt h0
        omega)
      obtain ⟨b, off, ea, hc⟩ := hRw.cells (by omega)
      subst ea
      have cj := hc j hlt
      have hz := HZ.out j hlt
      have h0 := cnt_succ (v := 0) (show j < zs.length by rw [HL.out]; exact hlt)
      have h1 := cnt_succ (v := 1) (show j < zs.length by rw [HL.out]; exact hlt)
      have h2 := cnt_succ (v := 2) (show j < zs.length by rw [HL.out]; exact hlt)
      have l0 := cnt_le zs 0 j
      have l1 := cnt_le zs 1 j
      have l2 := cnt_le zs 2 j
      obtain ⟨z, hze⟩ : ∃ z, zs.getD j 0 = z := ⟨_, rfl⟩
      rw [hze] at cj hz h0 h1 h2
      clear hze hc hRw
      have HC : Hid (∀ x0 x1 x2 : Nat, (x0 : Int) = cnt zs 0 (j + 1) → (x1 : Int) = cnt zs 1 (j + 1) → (x2 : Int) = cnt zs 2 (j + 1) → ∀ W', Blk W' (w.heap.size + 1) 83 [(x0 : Int), (x1 : Int), (x2 : Int)] → Blk W' (w.heap.size + 1) 83 [(cnt zs 0 (j + 1) : Nat), (cnt zs 1 (j + 1) : Nat), (cnt zs 2 (j + 1) : Nat)]) := hide (fun x0 x1 x2 e0 e1 e2 W' hB => by rw [← e0, ← e1, ← e2]; exact hB)
      have H0 := hide h0
      have H1 := hide h1
      have H2 := hide h2
      clear h0 h1 h2
      have c0 := hT.out.cell (i := 0) (by simp)
      have c1 := hT.out.cell (i := 1) (by simp)
      have c2 := hT.out.cell (i := 2) (by simp)
      have s0 := fun x => hT.out.set 0 x
      have s1 := fun x => hT.out.set 1 x
      have s2 := fun x => hT.out.set 2 x
      have fz := fun i => hT.out.frozen i
      simp only [List.getD_cons_zero, List.getD_cons_succ, List.set_cons_zero, List.set_cons_succ] at c0 c1 c2 s0 s1 s2
      have S0 := hide s0
      have S1 := hide s1
      have S2 := hide s2
      clear s0 s1 s2
      generalize cnt zs 0 j = k0 at *
      generalize cnt zs 1 j = k1 at *
      generalize cnt zs 2 j = k2 at *
      rcases (show z = 0 ∨ z = 1 ∨ z = 2 by omega) with rfl | rfl | rfl
      · have HN := hide (HC.out (k0 + 1) k1 k2 (by rw [H0.out]; simp) (by rw [H1.out]; simp) (by rw [H2.out]; simp) _ (S0.out ((k0 : Int) + 1)))
        have HKN : Hid (Keeps (fun q => q = w.heap.size + 1) w1 (wr.setCell ⟨w.heap.size + 1, 0, none⟩ (.int .i64 ((k0 : Int) + 1)))) := hide (hK.out.setCell (X := fun q => q = w.heap.size + 1) rfl _)
        have ff := fz 0
        clear fz c1 c2 S0 S1 S2 HC
        go_wp2_with fail
        exact ⟨⟨j + 1, by go_num, by omega, HN, HKN⟩, by simp [intOf]; omega⟩
      · have HN := hide (HC.out k0 (k1 + 1) k2 (by rw [H0.out]; simp) (by rw [H1.out]; simp) (by rw [H2.out]; simp) _ (S1.out ((k1 : Int) + 1)))
        have HKN : Hid (Keeps (fun q => q = w.heap.size + 1) w1 (wr.setCell ⟨w.heap.size + 1, 1, none⟩ (.int .i64 ((k1 : Int) + 1)))) := hide (hK.out.setCell (X := fun q => q = w.heap.size + 1) rfl _)
        have ff := fz 1
        clear fz c0 c2 S0 S1 S2 HC
        go_wp2_with fail
        exact ⟨⟨j + 1, by go_num, by omega, HN, HKN⟩, by simp [intOf]; omega⟩
      · have HN := hide (HC.out k0 k1 (k2 + 1) (by rw [H0.out]; simp) (by rw [H1.out]; simp) (by rw [H2.out]; simp) _ (S2.out ((k2 : Int) + 1)))
        have HKN : Hid (Keeps (fun q => q = w.heap.size + 1) w1 (wr.setCell ⟨w.heap.size + 1, 2, none⟩ (.int .i64 ((k2 : Int) + 1)))) := hide (hK.out.setCell (X := fun q => q = w.heap.size + 1) rfl _)
        have ff := fz 2
        clear fz c0 c1 S0 S1 S2 HC
        go_wp2_with fail
        exact ⟨⟨j + 1, by go_num, by omega, HN, HKN⟩, by simp [intOf]; omega⟩
    · have hlt' : ¬ (j : Int) < (n : Int) := by omega
      have hje : j = n := by omega
      subst hje
      have c1 := hT.out.cell (i := 1) (by simp)
      have c2 := hT.out.cell (i := 2) (by simp)
      simp only [List.getD_cons_zero, List.getD_cons_succ] at c1 c2
      have l1 := cnt_le zs 1 j
      have l2 := cnt_le zs 2 j
      have HBE := hide (HB1.out.trans ((hK.out.mono (Y := fun q => w.heap.size ≤ q) (fun q _ e => by omega)).below HB1.out.size (fun q hq e => by omega)))
      generalize cnt zs 1 j = k1 at *
      generalize cnt zs 2 j = k2 at *
      have hm := HMV.out
      by_cases e1 : k1 = k2
      · rw [if_pos e1] at hm
        subst hm
        have hb : ((k1 : Int) - (k2 : Int) == 0) = true := by simp; omega
        go_wp2_with fail
        go_ret
        exact ⟨rfl, HBE.out⟩
      · rw [if_neg e1] at hm
        have hb : ((k1 : Int) - (k2 : Int) == 0) = false := by simp; omega
        by_cases e2 : k1 = k2 + 1
        · rw [if_pos e2] at hm
          subst hm
          have hb2 : ((k1 : Int) - (k2 : Int) == 1) = true := by simp; omega
          have E2 := hide e2
          clear e2
          go_wp2_with fail
          go_ret
          exact ⟨rfl, HBE.out⟩
        · rw [if_neg e2] at hm
          subst hm
          have hb2 : ((k1 : Int) - (k2 : Int) == 1) = false := by simp; omega
          go_wp2_with fail
          go_ret
          exact ⟨rfl, HBE.out⟩

/-- The empty places below j. -/
def emp (zs : List Int) (j : Nat) : List Nat := (List.range j).filter fun p => zs.getD p 0 == 0

theorem emp_in {zs : List Int} {j : Nat} (h : zs.getD j 0 = 0) : emp zs (j + 1) = emp zs j ++ [j] := by
  unfold emp
  rw [List.range_succ, List.filter_append, List.filter_cons, if_pos (by simpa using h)]
  rfl
theorem emp_out {zs : List Int} {j : Nat} (h : ¬ zs.getD j 0 = 0) : emp zs (j + 1) = emp zs j := by
  unfold emp
  rw [List.range_succ, List.filter_append, List.filter_cons, if_neg (by simpa using h), List.filter_nil, List.append_nil]
theorem emp_len (zs : List Int) (j : Nat) : (emp zs j).length ≤ j := Nat.le_trans (List.length_filter_le _ _) (by simp)
theorem emp_zero (zs : List Int) : emp zs 0 = [] := rfl
theorem emp_mem {zs : List Int} {j p : Nat} : p ∈ emp zs j ↔ p < j ∧ zs.getD p 0 = 0 := by
  unfold emp
  rw [List.mem_filter, List.mem_range, beq_iff_eq]
theorem emp_nodup (zs : List Int) (j : Nat) : (emp zs j).Nodup := List.Pairwise.filter _ List.nodup_range

attribute [local irreducible] emp

set_option maxRecDepth 100000 in
set_option maxHeartbeats 2000000 in
theorem emptyPlaces_any (W H : Int) (a : Option Addr) (n c : Nat) (zs : List Int) (hn : n ≤ 100) (w : World) (h : Rd w a n c zs) :
    Calls Tryd.prog 29 #[.agg (gdA W H a n c)] w fun e w' => ∃ a' c', e = .returned (.slice a' (emp zs n).length c') ∧ w'.ownsRow w.heap.size 3 1 (.slice a' (emp zs n).length c') (emp zs n).length ((toI (emp zs n)).map (Value.int .i64)) ∧ Below w.heap.size w w' := by
  have hcm := h.max
  unfold maxLen at hcm
  have hcc := h.cap
  obtain ⟨w1, hw1⟩ : ∃ w1, w.alloc (.cells (gdA W H a n c) 24) = w1 := ⟨_, rfl⟩
  have B1 : Below w.heap.size w w1 := by rw [← hw1]; exact (Below.refl _ w).alloc (Nat.le_refl _) _
  have G1 : Gd w1 w.heap.size W H a n c := by rw [← hw1]; exact Gd.new w W H a n c
  have HR := hide h
  have HB1 := hide B1
  obtain ⟨-, -, g2⟩ := G1.cells
  clear h B1 G1
  go_enter Tryd.func29, Tryd.ntmps29
  go_upto_region 1 with fail
  clear hw1
  go_wp2_with fail
  clear g2
  go_loopw [3, 9] (fun u v wr => ∃ (j cp : Nat) (ad : Option Addr), v = .int .i64 j ∧ j ≤ n ∧ u = .slice ad (emp zs j).length cp ∧ Hid (wr.ownsRow w.heap.size 3 1 (.slice ad (emp zs j).length cp) (emp zs j).length ((toI (emp zs j)).map (Value.int .i64))) ∧ Hid (Below w.heap.size w wr)) (fun _ v _ => n - (intOf v).toNat)
  case atStart =>
    refine ⟨0, 0, none, rfl, by omega, ?_, ?_, HB1⟩
    · rw [emp_zero]; rfl
    · rw [emp_zero]; exact World.ownsRow_nil _ _ _ _
  case round =>
    obtain ⟨j, cp, ad, rfl, hj, rfl, hO, hB⟩ := hrel
    clear HB1
    by_cases hlt : j < n
    · have hlt' : (j : Int) < (n : Int) := by omega
      obtain ⟨b, off, ea, hc⟩ := (HR.out.mono hB.out).cells (by omega)
      subst ea
      have cj := hc j hlt
      have hml := emp_len zs j
      have HI := hide (fun h => emp_in (zs := zs) (j := j) h)
      have HU := hide (fun h => emp_out (zs := zs) (j := j) h)
      obtain ⟨z, hze⟩ : ∃ z, zs.getD j 0 = z := ⟨_, rfl⟩
      rw [hze] at cj HI HU
      clear hze hc
      by_cases hz0 : z = 0
      · have HE := hide (HI.out hz0)
        subst hz0
        have hR1 : Rd (World.alloc wr (.cells #[.int .i64 (j : Nat)] 3)) (some ⟨wr.heap.size, 0, none⟩) 1 1 [((j : Nat) : Int)] := Rd.of_blk (Blk.new wr 3 [((j : Nat) : Int)] _ rfl) rfl (by decide)
        have hOa := hO.out.alloc (.cells #[.int .i64 (j : Nat)] 3)
        have hBa := hB.out.alloc hB.out.size (.cells #[.int .i64 (j : Nat)] 3)
        have hsz := hBa.size
        have HPL : Hid ((emp zs (j + 1)).length = (emp zs j).length + 1) := hide (by rw [HE.out]; simp)
        have HPI : Hid (toI (emp zs (j + 1)) = toI (emp zs j) ++ [((j : Nat) : Int)]) := hide (by rw [HE.out, toI_snoc])
        generalize hpl : (emp zs j).length = M at *
        clear hpl
        go_wp2_with (at_builtin; refine wpList_append_rd _ rfl _ _ rfl w.heap.size _ M (toI (emp zs j)) rfl hOa (some ⟨wr.heap.size, 0, none⟩) 1 1 [((j : Nat) : Int)] rfl hR1 (by omega) hsz ?_)
        intro v' w6 hO6 hg6
        obtain ⟨ad6, cp6, rfl⟩ := slice_form hO6
        have HB6 := hide (hBa.grown hg6 (by omega) (fun q hq => by rcases hO.out.2 with ⟨e, _⟩ | ⟨g, cap, cur, e, hbg, _⟩ <;> rw [e] at hq <;> simp [Value.ownBlock] at hq; omega))
        have HO6 := hide hO6
        clear hO6 hg6 hR1 hOa hBa
        go_wp2_with fail
        refine ⟨⟨j + 1, cp6, ad6, by go_num, by omega, ?_, ?_, HB6⟩, by simp [intOf]; omega⟩
        · rw [HPL.out]
        · rw [HPL.out, HPI.out, List.map_append]; exact HO6
      · have HE := hide (HU.out hz0)
        have hzb : (z == 0) = false := by simpa using hz0
        go_wp2_with fail
        refine ⟨⟨j + 1, cp, ad, by go_num, by omega, ?_, ?_, hB⟩, by simp [intOf]; omega⟩
        · rw [HE.out]
        · rw [HE.out]; exact hO
    · have hlt' : ¬ (j : Int) < (n : Int) := by omega
      have hje : j = n := by omega
      subst hje
      go_wp2_with fail
      go_ret
      exact ⟨ad, cp, rfl, hO.out, hB.out⟩

end Go.Proofs.YthdnbbjehcicbaaDoor
