/-
  The document's play walked. No conditions beyond those that each theorem bears.
-/
import Derived.Test.YtafiaimlmdflnaaPr
namespace Go.Proofs.Ytafiaimlmdflnaa
open Go.RowKit Go.Shelf

theorem Gvs.keepsC {base : Nat} {w w' : World} {W H N : Nat} {v : Value} {L : List (List Int)} {b : Nat} {cs : Array Value} {t : TypeId} (h : Gvs base w W H N v L) (hk : Keeps (fun k => k = b) w w') (hb : w.heap[b]? = some (.cells cs t (0, 0))) (ht : t ≠ 3) (hv : v.ownBlock ≠ some b) : Gvs base w' W H N v L := by
  obtain ⟨vs, h1, h2, h3⟩ := h
  exact ⟨vs, own_blk h1 (fun g hg => hk.block g (h1.lt g hg).2 (fun e => hv (by rw [hg, e]))), h2.imp (fun g c P hR => hR.keeps hk (hR.notCells hb ht)), h3⟩

theorem Gvs.notT {base : Nat} {w : World} {W H N : Nat} {v : Value} {L : List (List Int)} {b : Nat} {cs : Array Value} {t : TypeId} (h : Gvs base w W H N v L) (hb : w.heap[b]? = some (.cells cs t (0, 0))) (ht : t ≠ 24) : v.ownBlock ≠ some b := by
  obtain ⟨vs, h1, -, -⟩ := h
  intro e
  rcases h1.2 with ⟨hv, -⟩ | ⟨g, cap, cur, hv, -, hg, -⟩
  · rw [hv] at e; cases e
  · rw [hv] at e
    simp only [Value.ownBlock, Option.some.injEq] at e
    subst e
    rw [hb] at hg
    simp only [Option.some.injEq, Obj.cells.injEq] at hg
    exact ht hg.2.1

theorem Gvs.notG {base : Nat} {w : World} {W H N : Nat} {v : Value} {L : List (List Int)} {b : Nat} {W' H' : Int} {a : Option Addr} {n c : Nat} (h : Gvs base w W H N v L) (hl : 2 ≤ L.length) (hb : Gd w b W' H' a n c) : v.ownBlock ≠ some b := by
  obtain ⟨vs, h1, -, -⟩ := h
  intro e
  rcases h1.2 with ⟨hv, -⟩ | ⟨g, cap, cur, hv, -, hg, q1, -, q3, -⟩
  · rw [hv] at e; cases e
  · rw [hv] at e
    simp only [Value.ownBlock, Option.some.injEq] at e
    subst e
    have hb' : w.heap[g]? = _ := hb
    rw [hb'] at hg
    simp only [Option.some.injEq, Obj.cells.injEq] at hg
    have := hg.1
    subst this
    simp at q3
    omega

theorem keeps_grownS {w w' : World} {g : Nat} (h : w.grownBy w' (some g)) : Keeps (fun k => k = g) w w' :=
  ⟨h.os, h.tape, h.output, h.size, fun i hi hx => h.block i hi (fun e => hx (by simpa using e))⟩

theorem Tw.cells {w : World} {b : Nat} {t u : Int} (h : Tw w b t u) : w.cell? ⟨b, 0, none⟩ = some (.int .i64 t) ∧ w.cell? ⟨b, 1, none⟩ = some (.int .i64 u) := by
  have h' : w.heap[b]? = _ := h
  simp [World.cell?, h']

theorem Tw.frozen {w : World} {b : Nat} {t u : Int} (h : Tw w b t u) (i : Nat) : w.frozen? ⟨b, i, none⟩ = false := by
  have h' : w.heap[b]? = _ := h
  simp [World.frozen?, h']

theorem Tw.set0 {w : World} {b : Nat} {t u : Int} (h : Tw w b t u) (x : Int) : Tw (w.setCell ⟨b, 0, none⟩ (.int .i64 x)) b x u := by
  have h' : w.heap[b]? = _ := h
  simp [Tw, World.setCell, Array.getElem?_modify, h']

theorem Tw.set1 {w : World} {b : Nat} {t u : Int} (h : Tw w b t u) (x : Int) : Tw (w.setCell ⟨b, 1, none⟩ (.int .i64 x)) b t x := by
  have h' : w.heap[b]? = _ := h
  simp [Tw, World.setCell, Array.getElem?_modify, h']

theorem getD_memL {B : List (List Int)} {i : Nat} (h : i < B.length) : B.getD i [] ∈ B := by
  simp [List.getD, h]

theorem rangeAt_below {w w' : World} {b o : Nat} {cs : List Value} (h : w.rangeAt b o cs) (hb : Below w.heap.size w w') : w'.rangeAt b o cs := fun j v hv => by
  have := h j v hv
  exact (hb.cell (World.block_lt_of_cell? w _ this)).trans this

theorem cell_below {w w' : World} {a : Addr} {v : Value} (h : w.cell? a = some v) (hb : Below w.heap.size w w') : w'.cell? a = some v := (hb.cell (World.block_lt_of_cell? w _ h)).trans h

attribute [local irreducible] D4 spr rgs rgsU lib goneU gone clr grp pz pt pE pad kof stn mvd runP ps0 qof

set_option maxRecDepth 100000 in
set_option maxHeartbeats 32000000 in
theorem PlayStones_yes (W H cb co N c : Nat) (zs : List Int) (la : Option Addr) (ln lc : Nat) (L : List Int) (w : World) (h : Rd w (some ⟨cb, co, none⟩) N c zs) (hm : mayP W H zs) (hL : Rd w la ln lc L) (hl : ln ≤ 200) :
    Calls Try.prog 20 #[.agg (gdA W H (some ⟨cb, co, none⟩) N c), .slice la ln lc] w fun e w' => ∃ cq bq, e = .returned (.tuple #[.agg (gdA W H (some ⟨cq, 0, none⟩) N bq), .agg #[.int .i64 (runP W H (ps0 zs) L).1.t, .int .i64 (runP W H (ps0 zs) L).1.u], .int .i64 (runP W H (ps0 zs) L).1.m, .int .i64 ((runP W H (ps0 zs) L).2 : Nat)]) ∧ Bw w' cq N bq (runP W H (ps0 zs) L).1.Z ∧ Below w.heap.size w w' := by
  obtain ⟨A, B', e1, e2, hW, hH, hN, -⟩ := may_nat hm h.len
  obtain rfl : W = A := by omega
  obtain rfl : H = B' := by omega
  have hN100 : N ≤ 100 := by rw [← hN]; exact Nat.mul_le_mul hW.2 hH.2
  have hN0 : 0 < N := by rw [← hN]; exact Nat.mul_pos hW.1 hH.1
  obtain ⟨w1, hw1, B1, G0, G1, T2⟩ := play_pre w W H (some ⟨cb, co, none⟩) N c
  have HGO : Hid (∀ W4, Below w.heap.size w W4 → _) := hide (fun W4 hb => GridOf_own W H (some ⟨cb, co, none⟩) N c zs W4 (h.mono hb) (by omega))
  have HB1 := hide B1
  have HG0 := hide G0
  have HG1 := hide G1
  have HT2 := hide T2
  have HLR : Hid (∀ W4, Below w.heap.size w W4 → Rd W4 la ln lc L) := hide (fun W4 hb => hL.mono hb)
  have hll := hL.len
  have hlc := hL.cap
  have hlm : lc ≤ 9223372036854775807 := by have := hL.max; unfold maxLen at this; omega
  have HP0 := hide (PR.first (L := L) h.len hm)
  have HRC := hide (fun (s : PS) (j : Nat) (hj : j < L.length) => runP_cons (W := W) (H := H) (s := s) hj)
  obtain ⟨S0, hS0⟩ : ∃ S0, ps0 zs = S0 := ⟨_, rfl⟩
  rw [hS0] at HP0 ⊢
  obtain ⟨RR, hRR⟩ : ∃ RR, runP W H S0 L = RR := ⟨_, rfl⟩
  rw [hRR]
  have HRR := hide hRR
  have HPS : Hid (∀ g gc Z m x W4, (m = 1 ∨ m = 2) → Bw W4 g N gc Z → Calls Try.prog 16 #[.agg (gdA W H (some ⟨g, 0, none⟩) N gc), .int .i64 (m : Nat), .int .i64 x] W4 (PutIs W H N Z m x W4)) := hide (fun g gc Z m x W4 hm hb => PutStone_all W H N gc g 0 m x Z W4 hW hH hN hm hb.rd)
  have HNN := hide hN
  have HZL := hide h.len
  clear B1 h hm T2 hL hS0 hRR e1 e2 G0 G1 hN
  go_enter Try.func20, Try.ntmps20
  go_upto_region 1 with fail
  clear hw1
  have G0 := HG0.out
  go_wp2_with (first | (refine wpList_load_gd rfl (.tmp 2) rfl w.heap.size rfl G0 ?_) | fail)
  refine (HGO.out _ HB1.out).mono ?_
  rintro e w2 ⟨a2, c2, rfl, hO2, hb2⟩
  obtain ⟨g2, cc, hv, _⟩ := own_some hO2 hN0
  simp only [Value.slice.injEq] at hv
  obtain ⟨rfl, -, rfl⟩ := hv
  have HX2 : Hid (Bw w2 g2 N c2 zs) := hide (own_base hO2 (Nat.zero_le _))
  have HB2 : Hid (Below w.heap.size w w2) := hide (HB1.out.trans (hb2.mono HB1.out.size))
  have G2 := HG0.out.below hb2 HG0.out.lt
  have HG2 := hide (HG1.out.below hb2 HG1.out.lt)
  have HT2 := hide (HT2.out.below hb2 HT2.out.lt)
  have hs2 : w.heap.size + 2 < w2.heap.size := HT2.out.lt
  obtain ⟨w3, hw3⟩ : ∃ w3, (w2.alloc (.cells (gdA W H (some ⟨g2, 0, none⟩) N c2) 24)).alloc (.cells #[.int .i64 0, .int .i64 0] 37) = w3 := ⟨_, rfl⟩
  have B3 : Below w2.heap.size w2 w3 := by rw [← hw3]; exact ((Below.refl _ _).alloc (Nat.le_refl _) _).alloc (by simp) _
  have HV3 : Hid (Gvs w2.heap.size w3 W H N (.slice (some ⟨w2.heap.size, 0, none⟩) 1 1) [zs]) := hide (by
    refine ⟨gv W H N g2 c2, ⟨rfl, .inr ⟨w2.heap.size, 1, gdA W H (some ⟨g2, 0, none⟩) N c2, rfl, Nat.le_refl _, ?_, Nat.le_refl _, by unfold maxLen; omega, rfl, rfl⟩⟩, ⟨g2, c2, [], rfl, HX2.out.mono B3, rfl⟩, fun e => by cases e⟩
    rw [← hw3]
    exact (Below.heap_alloc _ _ _ (by simp)).trans (heap_alloc_new w2 _))
  have HT3 : Hid (Tw w3 (w2.heap.size + 1) 0 0) := hide (by
    rw [← hw3]
    have := Tw.new (w2.alloc (.cells (gdA W H (some ⟨g2, 0, none⟩) N c2) 24)) 0 0
    rwa [World.size_alloc] at this)
  have HB3 : Hid (Below w.heap.size w w3) := hide (HB2.out.trans (B3.mono HB2.out.size))
  have HG3 := hide (HG2.out.below B3 HG2.out.lt)
  have HU3 := hide (HT2.out.below B3 HT2.out.lt)
  have HF3 := hide (G2.below B3 G2.lt)
  clear B3 hO2 hb2 G0 G2 HG0 HG1 HB1 HX2 HB2 HG2 HT2
  go_upto_region 3 with fail
  clear hw3
  have G3 := HF3.out
  go_wp2_with (first | (refine wpList_load_gd rfl (.tmp 2) rfl w.heap.size rfl G3 ?_) | fail)
  refine (HGO.out _ HB3.out).mono ?_
  rintro e w4 ⟨a4, c4, rfl, hO4, hb4⟩
  obtain ⟨g4, cc, hv, _⟩ := own_some hO4 hN0
  simp only [Value.slice.injEq] at hv
  obtain ⟨rfl, -, rfl⟩ := hv
  have P4 := Gd.new w4 0 0 none 0 0
  go_upto_region 4 with (first | (refine wpList_store_gd rfl (.tmp 10) (.tmp 20) rfl w4.heap.size rfl rfl P4 ?_; intro w5 G5 kk5))
  have B45 : Below w4.heap.size w4 w5 := ((Below.refl _ w4).alloc (Nat.le_refl _) _).trans (kk5.below (by simp) (fun k hk e => by omega))
  have B35 : Below w3.heap.size w3 w5 := hb4.trans (B45.mono hb4.size)
  have HX5 : Hid (Bw w5 g4 N c4 zs) := hide (Bw.mono (own_base hO4 (Nat.zero_le _)) B45)
  have HB5 : Hid (Below w.heap.size w w5) := hide (HB3.out.trans (B35.mono HB3.out.size))
  have HV5 : Hid (Gvs w2.heap.size w5 W H N (.slice (some ⟨w2.heap.size, 0, none⟩) 1 1) [zs]) := hide (HV3.out.below B35)
  have HT5 := hide (HT3.out.below B35 HT3.out.lt)
  have HG5 := hide (HG3.out.below B35 HG3.out.lt)
  have HU5 := hide (HU3.out.below B35 HU3.out.lt)
  have HC5 := hide G5
  have h35 : w2.heap.size + 1 < w4.heap.size := by have := HT3.out.lt; have := hb4.size; omega
  clear B45 B35 hO4 hb4 P4 G5 kk5 HV3 HT3 HG3 HU3 HF3 G3 HB3 HGO
  go_wp2_with fail
  go_loopw [8, 11] (fun v8 v11 wr => ∃ (j : Nat) (s : PS) (Z : List Int) (t u : Nat) (B : List (List Int)) (gq gc : Nat), v11 = .int .i64 j ∧ j ≤ ln ∧ Hid (PR W H N L j s Z t u B) ∧ Hid (runP W H s (L.drop j) = RR) ∧ Hid (Gvs w2.heap.size wr W H N v8 B) ∧ Hid (v8.ownBlock ≠ some w4.heap.size) ∧ Hid (Gd wr w4.heap.size W H (some ⟨gq, 0, none⟩) N gc) ∧ Hid (Bw wr gq N gc Z) ∧ Hid (Tw wr (w2.heap.size + 1) t u) ∧ Hid (Gd wr (w.heap.size + 1) 0 0 none 0 0) ∧ Hid (Tw wr (w.heap.size + 2) 0 0) ∧ Hid (Below w.heap.size w wr)) (fun _ v _ => ln - (intOf v).toNat)
  case atStart =>
    exact ⟨0, S0, zs, 0, 0, [zs], g4, c4, rfl, by omega, HP0, hide (by rw [List.drop_zero]; exact HRR.out), HV5, hide (by simp only [Value.ownBlock, ne_eq, Option.some.injEq]; omega), HC5, HX5, HT5, HG5, HU5, HB5⟩
  case round =>
    obtain ⟨j, s, Z, t, u, B, gq, gc, rfl, hj, hPR, hRn, hV, hVk, hGk, hBw, hTk, hR1, hR2, hB⟩ := hrel
    clear HP0 HRR HV5 HC5 HX5 HT5 HG5 HU5 HB5
    by_cases hjl : j < ln
    · have hjl' : (j : Int) < (ln : Int) := by omega
      obtain ⟨lb, lo, rfl, hcell⟩ := (HLR.out wr hB.out).cells (by omega)
      have cj := hcell j hjl
      have HRJ := hide (HRC.out s j (by omega))
      have hlt2 : qof L j = 2 ↔ 2 ≤ j ∧ L.getD (j - 1) 0 = -1 ∧ L.getD (j - 2) 0 = -1 := qof_two
      by_cases h2 : 2 ≤ j
      · have h2' : (2 : Int) ≤ (j : Int) := by omega
        obtain ⟨j1, hj1⟩ : ∃ j1, j - 1 = j1 := ⟨_, rfl⟩
        obtain ⟨j2, hj2⟩ : ∃ j2, j - 2 = j2 := ⟨_, rfl⟩
        have hj1i : (j : Int) - 1 = (j1 : Int) := by omega
        have hj2i : (j : Int) - 2 = (j2 : Int) := by omega
        have hj1l : (j1 : Int) < (ln : Int) := by omega
        have hj2l : (j2 : Int) < (ln : Int) := by omega
        have c1 := hcell j1 (by omega)
        have c2 := hcell j2 (by omega)
        rw [hj1, hj2] at hlt2
        clear hcell hj1 hj2
        by_cases hx1 : L.getD j1 0 = -1
        · rw [hx1] at c1
          by_cases hx2 : L.getD j2 0 = -1
          · rw [hx2] at c2
            have hq : qof L j = 2 := hlt2.2 ⟨h2, hx1, hx2⟩
            have HRE : Hid ((s, 9) = RR) := hide (by
              have e := hRn.out
              rw [HRJ.out, hPR.out.over _ hq, if_neg (show ¬ (9 : Nat) = 0 by decide)] at e
              exact e)
            clear hlt2 hx1 hx2 hq cj HRJ hRn
            go_upto_region 8 with fail
            have HN1 := hide (hBw.out.notCells hR1.out (by decide))
            have HN2 := hide (hBw.out.notCells hR2.out (by decide))
            have GK := hGk.out
            have TK := hTk.out
            have GR := hR1.out
            have TR := hR2.out
            refine wp_region_held (S := fun W4 => Keeps (fun k => k = w.heap.size + 1 ∨ k = w.heap.size + 2) wr W4) (by kernel_rfl) ?_
            change wpAnyH _ _ _ _ _ _ _ _ (World.drew _)
            have SW : Keeps (fun k => k = w.heap.size + 1 ∨ k = w.heap.size + 2) wr wr.drew := (Keeps.refl _ wr).drew
            have SW0 : Keeps (fun k => k = w.heap.size + 1) wr wr.drew := (Keeps.refl _ wr).drew
            refine wpAnyH_take (i := 0) (v := .agg (gdA W H (some ⟨gq, 0, none⟩) N gc)) rfl (by kernel_rfl) (by kernel_rfl) (by kernel_rfl) (fun _ _ _ h => h) (yieldsIf_load_mid (by rfl) 24 _ rfl w4.heap.size 0 (by rfl) (gdA W H (some ⟨gq, 0, none⟩) N gc).toList _ (fun W4 hW4 => (GK.keeps hW4 (by omega)).range) Try.underlying24 rfl (by exact size24)) SW ?_
            go_simp
            refine wpAnyH_take (i := 1) (v := .agg #[.int .i64 t, .int .i64 u]) rfl (by kernel_rfl) (by kernel_rfl) (by kernel_rfl) (fun _ _ _ h => h) (yieldsIf_load_mid (by rfl) 37 _ rfl (w2.heap.size + 1) 0 (by rfl) [.int .i64 t, .int .i64 u] _ (fun W4 hW4 => (TK.keeps hW4 (by omega)).range) Try.underlying37 rfl (by exact size37)) SW ?_
            go_simp
            refine wpAnyH_take (i := 2) (v := .int .i64 j) rfl (by kernel_rfl) (by kernel_rfl) (by kernel_rfl) (fun _ _ _ h => h) (Or.inl ⟨by rfl, ?_⟩) SW ?_
            · intro W4 hW4
              go_simp <;> first | done | rfl | (rw [IntKind.wrap_i64]; omega) | omega
            go_simp
            refine wpAnyH_ready (rs := [3]) (by kernel_rfl) (by simp) ?_
            refine AllReadyH.cons rfl (fun K1 hK1 => ?_) AllReadyH.nil
            refine wp_storeG (.tmp 4) (.tmp 45) rfl (w.heap.size + 1) rfl rfl GR ?_
            intro w7 G7 kk7
            refine hK1.out _ _ (SW.after kk7 (fun i _ e => .inl e)) (fun SW => ?_)
            clear hK1 K1
            go_simp
            have T7 := TR.keeps (SW0.after kk7 (fun i _ e => e)) (by omega)
            refine wpAnyH_ready (rs := [4]) (by kernel_rfl) (by simp) ?_
            refine AllReadyH.cons rfl (fun K1 hK1 => ?_) AllReadyH.nil
            refine wp_storeT (.tmp 5) (.tmp 46) rfl (w.heap.size + 2) rfl rfl T7 ?_
            intro w8 T8 kk8
            refine hK1.out _ _ (SW.after kk8 (fun i _ e => .inr e)) (fun SW => ?_)
            clear hK1 K1
            go_simp
            refine wpAnyH_ready (rs := [5]) (by kernel_rfl) (by simp) ?_
            refine AllReadyH.cons rfl (fun K1 hK1 => ?_) AllReadyH.nil
            go_simp
            refine hK1.out _ _ SW (fun SW => ?_)
            clear hK1 K1
            go_simp
            refine wpAnyH_ready (rs := [6]) (by kernel_rfl) (by simp) ?_
            refine AllReadyH.cons rfl (fun K1 hK1 => ?_) AllReadyH.nil
            go_simp
            refine hK1.out _ _ SW (fun SW => ?_)
            clear hK1 K1
            go_simp
            refine wpAnyH_done (by kernel_rfl) ?_ _
            have HG8 := hide (G7.keeps kk8 (by omega))
            have HT8 := hide T8
            have HX8 := hide (hBw.out.keeps SW (by rintro (e | e) <;> first | exact HN1.out e | exact HN2.out e))
            have HB8 : Hid (Below w.heap.size w w8) := hide (hB.out.trans (SW.below hB.out.size (fun k hk e => by omega)))
            clear GK TK GR TR T8 G7 T7 kk7 kk8 SW SW0
            go_wp2_with fail
            refine bodyPost_ret (results_play rfl _ _ (w.heap.size + 1) (w.heap.size + 2) rfl rfl HG8.out HT8.out rfl rfl) rfl ?_
            rw [← HRE.out]
            have q1 := hPR.out.t_
            have q2 := hPR.out.u_
            have q3 := hPR.out.m
            have q4 := hPR.out.Z_
            subst q1 q2 q3 q4
            exact ⟨gq, gc, rfl, HX8.out, HB8.out⟩
          · have hq : Hid (qof L j ≠ 2) := hide (fun e => hx2 (hlt2.1 e).2.2)
            obtain ⟨y2, hy2⟩ : ∃ y2, L.getD j2 0 = y2 := ⟨_, rfl⟩
            rw [hy2] at c2 hx2
            have hyb : (y2 == -1) = false := by simpa using hx2
            clear hlt2 hx1 hx2 hy2
            by_cases hx : L.getD j 0 = -1
            · have hpp := hPR.out.pass hx hq.out
              have HR2 : Hid (runP W H (mvd W H s (L.getD j 0)).1 (L.drop (j + 1)) = RR) := hide (by
                have e := hRn.out
                rw [HRJ.out, if_pos hpp.1] at e
                exact e)
              have HPP := hide hpp.2
              rw [hx] at cj
              clear hpp hx
              go_wp2_with fail
              exact ⟨⟨j + 1, _, Z, t, u, B, gq, gc, rfl, by omega, HPP, HR2, hV, hVk, hGk, hBw, hTk, hR1, hR2, hB⟩, by simp only [intOf]; omega⟩
            · have HX := hide hx
              have HZL2 : Hid (Z.length = N) := hide hBw.out.rd.len
              obtain ⟨tn, htn⟩ : ∃ tn, j % 2 = tn := ⟨_, rfl⟩
              have htn1 : tn ≤ 1 := by omega
              have hrem : Int.tmod (j : Int) 2 = (tn : Int) := by rw [Int.tmod_eq_emod_of_nonneg (by omega)]; omega
              have HTN := hide htn
              have HPU : Hid (∀ W4, Below wr.heap.size wr W4 → Calls Try.prog 16 #[.agg (gdA W H (some ⟨gq, 0, none⟩) N gc), .int .i64 ((1 + tn : Nat) : Int), .int .i64 (L.getD j 0)] W4 (PutIs W H N Z (1 + tn) (L.getD j 0) W4)) := hide (fun W4 hb => HPS.out gq gc Z (1 + tn) (L.getD j 0) W4 (by omega) (hBw.out.mono hb))
              obtain ⟨mI, hmI⟩ : ∃ mI : Nat, 1 + tn = mI := ⟨_, rfl⟩
              have hmi : 1 + (tn : Int) = (mI : Int) := by omega
              have HMI := hide hmI
              rw [hmI] at HPU
              have HNO := hide (hPR.out.no hx hq.out)
              have HOL := hide (hPR.out.old HNN.out hx hq.out)
              have HNE := hide (hPR.out.new HNN.out hx hq.out)
              rw [htn, hmI] at HNO HOL HNE
              obtain ⟨x, hxx⟩ : ∃ x, L.getD j 0 = x := ⟨_, rfl⟩
              rw [hxx] at cj hx HPU HNO HOL HNE HRJ
              have hxb : (x == -1) = false := by simpa using hx
              clear htn hmI hxx hx
              go_upto_region 10 with fail
              have GK := hGk.out
              refine wp_region_held (S := fun W4 => Below wr.heap.size wr W4) (by kernel_rfl) ?_
              change wpAnyH _ _ _ _ _ _ _ _ (World.drew _)
              have SW : Below wr.heap.size wr wr.drew := (Below.refl _ wr).drew
              have hdr : wr.drew.heap.size = wr.heap.size := rfl
              refine wpAnyH_take (i := 0) (v := .agg (gdA W H (some ⟨gq, 0, none⟩) N gc)) rfl (by kernel_rfl) (by kernel_rfl) (by kernel_rfl) (fun _ _ _ h => h) (yieldsIf_load_mid (by rfl) 24 _ rfl w4.heap.size 0 (by rfl) (gdA W H (some ⟨gq, 0, none⟩) N gc).toList _ (fun W4 hW4 => (GK.below hW4 GK.lt).range) Try.underlying24 rfl (by exact size24)) SW ?_
              go_simp
              refine wpAnyH_take (i := 1) (v := .int .i64 j) rfl (by kernel_rfl) (by kernel_rfl) (by kernel_rfl) (fun _ _ _ h => h) (Or.inl ⟨by rfl, ?_⟩) SW ?_
              · intro W4 hW4
                go_simp <;> first | done | rfl | (rw [IntKind.wrap_i64]; omega) | omega
              go_simp
              refine wpAnyH_take (i := 2) (v := .int .i64 tn) rfl (by kernel_rfl) (by kernel_rfl) (by kernel_rfl) (fun _ _ _ h => h) (Or.inl ⟨by rfl, ?_⟩) SW ?_
              · intro W4 hW4
                go_simp <;> first | done | rfl | (rw [IntKind.wrap_i64]; omega) | omega
              go_simp
              refine wpAnyH_take (i := 3) (v := .int .i64 mI) rfl (by kernel_rfl) (by kernel_rfl) (by kernel_rfl) (fun _ _ _ h => h) (Or.inl ⟨by rfl, ?_⟩) SW ?_
              · intro W4 hW4
                go_simp <;> first | done | rfl | (rw [IntKind.wrap_i64]; omega) | omega
              go_simp
              refine wpAnyH_take (i := 4) (v := .slice (some ⟨lb, lo, none⟩) ln lc) rfl (by kernel_rfl) (by kernel_rfl) (by kernel_rfl) (fun _ _ _ h => h) (Or.inl ⟨by rfl, ?_⟩) SW ?_
              · intro W4 hW4
                go_simp <;> first | done | rfl | (rw [IntKind.wrap_i64]; omega) | omega
              go_simp
              refine wpAnyH_take (i := 5) (v := .int .i64 j) rfl (by kernel_rfl) (by kernel_rfl) (by kernel_rfl) (fun _ _ _ h => h) (Or.inl ⟨by rfl, ?_⟩) SW ?_
              · intro W4 hW4
                go_simp <;> first | done | rfl | (rw [IntKind.wrap_i64]; omega) | omega
              go_simp
              refine wpAnyH_take (i := 6) (v := .pointer (some ⟨lb, lo + j, none⟩)) rfl (by kernel_rfl) (by kernel_rfl) (by kernel_rfl) (fun _ _ _ h => h) (Or.inl ⟨by rfl, ?_⟩) SW ?_
              · intro W4 hW4
                go_simp <;> first | done | rfl | (rw [IntKind.wrap_i64]; omega) | omega
              go_simp
              refine wpAnyH_take (i := 7) (v := .int .i64 x) rfl (by kernel_rfl) (by kernel_rfl) (by kernel_rfl) (fun _ _ _ h => h) (Or.inl ⟨by rfl, ?_⟩) SW ?_
              · intro W4 hW4
                have hcell := (cell_below cj hW4)
                go_simp <;> first | done | rfl | (rw [IntKind.wrap_i64]; omega) | omega
              go_simp
              refine wpAnyH_ready (rs := [8, 13]) (by kernel_rfl) (by simp) ?_
              refine AllReadyH.cons rfl (fun K1 hK1 => ?_) ?_
              · go_simp
                refine (HPU.out _ SW).mono ?_
                rintro e w6 ⟨hb6, h6⟩
                have B6 := SW.trans (hb6.mono (by have := SW.size; omega))
                have h06 : wr.heap.size ≤ w6.heap.size := B6.size
                rcases h6 with ⟨h61, h62, xg, xc, rfl, hBx, hxl⟩ | ⟨h61, rfl⟩
                · have HBX := hide hBx
                  clear hBx
                  refine hK1.out _ _ B6 (fun SW => ?_)
                  clear hK1 K1
                  go_simp
                  refine wpAnyH_take (i := 9) (v := .tuple #[.agg (gdA W H (some ⟨xg, 0, none⟩) N xc), .int .i64 (pt W H Z mI x.toNat : Nat), .int .i64 0]) rfl (by kernel_rfl) (by kernel_rfl) (by kernel_rfl) (fun _ _ _ h => h) (Or.inl ⟨by rfl, ?_⟩) SW ?_
                  · intro W4 hW4
                    go_simp <;> first | done | rfl | (rw [IntKind.wrap_i64]; omega) | omega
                  go_simp
                  refine wpAnyH_take (i := 10) (v := .agg (gdA W H (some ⟨xg, 0, none⟩) N xc)) rfl (by kernel_rfl) (by kernel_rfl) (by kernel_rfl) (fun _ _ _ h => h) (Or.inl ⟨by rfl, ?_⟩) SW ?_
                  · intro W4 hW4
                    go_simp <;> first | done | rfl | (rw [IntKind.wrap_i64]; omega) | omega
                  go_simp
                  refine wpAnyH_take (i := 11) (v := .int .i64 (pt W H Z mI x.toNat : Nat)) rfl (by kernel_rfl) (by kernel_rfl) (by kernel_rfl) (fun _ _ _ h => h) (Or.inl ⟨by rfl, ?_⟩) SW ?_
                  · intro W4 hW4
                    go_simp <;> first | done | rfl | (rw [IntKind.wrap_i64]; omega) | omega
                  go_simp
                  refine wpAnyH_take (i := 12) (v := .int .i64 0) rfl (by kernel_rfl) (by kernel_rfl) (by kernel_rfl) (fun _ _ _ h => h) (Or.inl ⟨by rfl, ?_⟩) SW ?_
                  · intro W4 hW4
                    go_simp <;> first | done | rfl | (rw [IntKind.wrap_i64]; omega) | omega
                  go_simp
                  refine wpAnyH_ready (rs := [13]) (by kernel_rfl) (by simp) ?_
                  refine AllReadyH.cons rfl (fun K1 hK1 => ?_) AllReadyH.nil
                  go_simp
                  have KZ := Gd.new w6 0 0 none 0 0
                  have HBX := hide (HBX.out.mono ((Below.refl _ w6).alloc (Nat.le_refl _) (.cells (gdA 0 0 none 0 0) 24)))
                  refine hK1.out _ _ (SW.alloc SW.size _) (fun SW => ?_)
                  clear hK1 K1
                  go_simp
                  refine wpAnyH_ready (rs := [14]) (by kernel_rfl) (by simp) ?_
                  refine AllReadyH.cons rfl (fun K1 hK1 => ?_) AllReadyH.nil
                  refine wp_storeG (.tmp 12) (.tmp 63) rfl (w6.heap.size) rfl rfl KZ ?_
                  intro w7 G7 kk7
                  have B7 := SW.trans ((kk7.mono (Y := fun q => wr.heap.size ≤ q) (fun q _ e => by omega)).below (B := wr.heap.size) (by have := SW.size; first | omega | (rw [World.size_alloc]; omega)) (fun q hq e => by omega))
                  have HX7 := hide (HBX.out.keeps kk7 (HBX.out.notCells KZ (by decide)))
                  refine hK1.out _ _ B7 (fun SW => ?_)
                  clear B7
                  clear hK1 K1
                  go_simp
                  refine wpAnyH_ready (rs := [15]) (by kernel_rfl) (by simp) ?_
                  refine AllReadyH.cons rfl (fun K1 hK1 => ?_) AllReadyH.nil
                  go_simp
                  refine hK1.out _ _ SW (fun SW => ?_)
                  clear hK1 K1
                  go_simp
                  refine wpAnyH_ready (rs := [16]) (by kernel_rfl) (by simp) ?_
                  refine AllReadyH.cons rfl (fun K1 hK1 => ?_) AllReadyH.nil
                  go_simp
                  refine hK1.out _ _ SW (fun SW => ?_)
                  clear hK1 K1
                  go_simp
                  refine wpAnyH_done (by kernel_rfl) ?_ _
                  clear B6 hb6
                  have hpt : pt W H Z mI x.toNat ≤ 100 := by
                    rw [pt, gone]
                    exact Nat.le_trans (goneU_len (List.prefix_refl _)) (by rw [HNN.out]; exact hN100)
                  replace HOL := hide (HOL.out h61 HZL2.out)
                  replace HNE := hide (HNE.out h61 HZL2.out hpt)
                  obtain ⟨Y, hY⟩ : ∃ Y, pz W H Z mI x.toNat = Y := ⟨_, rfl⟩
                  obtain ⟨k, hk⟩ : ∃ k, pt W H Z mI x.toNat = k := ⟨_, rfl⟩
                  rw [hY] at HOL HX7
                  rw [hY, hk] at HNE
                  rw [hk] at hpt ⊢
                  have hne0 : (0 : Int) < (B.length : Int) := by have := hPR.out.ne; omega
                  obtain ⟨ra, rc, hvf, hrl, hrm, hrg⟩ := hV.out.form
                  obtain ⟨rg, hrg⟩ := hrg (by intro e; rw [e] at hne0; simp at hne0)
                  subst hrg
                  subst hvf
                  have hrm' : rc ≤ 9223372036854775807 := by unfold maxLen at hrm; omega
                  have hbl : B.length ≤ 300 := by have := hPR.out.bl; omega
                  have HK4 : Hid (w4.heap.size < wr.heap.size) := hide hGk.out.lt
                  have hrgl : Hid (rg < wr.heap.size) := hide (by
                    obtain ⟨vs, h1, -⟩ := hV.out
                    exact (h1.lt rg rfl).2)
                  replace hV := hide (hV.out.below SW)
                  replace hGk := hide (hGk.out.below SW hGk.out.lt)
                  replace hBw := hide (hBw.out.mono SW)
                  replace hTk := hide (hTk.out.below SW hTk.out.lt)
                  replace hR1 := hide (hR1.out.below SW hR1.out.lt)
                  replace hR2 := hide (hR2.out.below SW hR2.out.lt)
                  replace hB : Hid (Below w.heap.size w w7) := hide (hB.out.trans (SW.mono hB.out.size))
                  have HG7 := hide G7
                  clear hY hk h61 h62 KZ kk7 HPU HNO cj GK G7 SW hxl HBX
                  try clear KZ0
                  go_wp2_with fail
                  obtain ⟨wo, hwo⟩ : ∃ wo, wo = wr := ⟨_, rfl⟩
                  subst hwo
                  go_loopw [14, 15] (fun v14 v15 wq => ∃ i : Nat, v15 = .int .i64 i ∧ i ≤ B.length ∧ ((v14 = .int .i64 0 ∧ Hid (∀ q, q < i → B.getD q [] ≠ Y)) ∨ (v14 = .int .i64 8 ∧ Hid (Y ∈ B))) ∧ Hid (Below w7.heap.size w7 wq)) (fun _ v _ => B.length - (intOf v).toNat)
                  case atStart => exact ⟨0, rfl, by omega, .inl ⟨rfl, hide (fun q hq => absurd hq (by omega))⟩, hide (Below.refl _ _)⟩
                  case round =>
                    obtain ⟨i, rfl, hi, hor, hBq⟩ := hrel
                    rcases hor with ⟨rfl, hnone⟩ | ⟨rfl, hin⟩
                    · by_cases hil : i < B.length
                      · have hil' : (i : Int) < (B.length : Int) := by omega
                        obtain ⟨bg, bc, hbr, hbb⟩ := (hV.out.below hBq.out).at hil
                        rw [Nat.mul_comm 3 i] at hbr
                        have GQ := HG7.out.below hBq.out HG7.out.lt
                        have HSG : Hid (∀ W4, Below wr.heap.size wr W4 → _) := hide (fun W4 hb => SameGrid_any W H (some ⟨bg, 0, none⟩) (some ⟨xg, 0, none⟩) N bc xc (B.getD i []) Y W4 (hbb.mono hb).rd ((HX7.out.mono hBq.out).mono hb).rd)
                        obtain ⟨dd, hdd⟩ : ∃ dd, decide (B.getD i [] = Y) = dd := ⟨_, rfl⟩
                        rw [hdd] at HSG
                        have HDD := hide hdd
                        clear hdd hbb
                        go_upto_region 14 with fail
                        refine wp_region_held (S := fun W4 => Below wr.heap.size wr W4) (by kernel_rfl) ?_
                        change wpAnyH _ _ _ _ _ _ _ _ (World.drew _)
                        have SW : Below wr.heap.size wr wr.drew := (Below.refl _ wr).drew
                        refine wpAnyH_take (i := 0) (v := .slice (some ⟨rg, 0, none⟩) B.length rc) rfl (by kernel_rfl) (by kernel_rfl) (by kernel_rfl) (fun _ _ _ h => h) (Or.inl ⟨by rfl, ?_⟩) SW ?_
                        · intro W4 hW4
                          go_simp <;> first | done | rfl | (rw [IntKind.wrap_i64]; omega) | omega
                        go_simp
                        refine wpAnyH_take (i := 1) (v := .int .i64 i) rfl (by kernel_rfl) (by kernel_rfl) (by kernel_rfl) (fun _ _ _ h => h) (Or.inl ⟨by rfl, ?_⟩) SW ?_
                        · intro W4 hW4
                          go_simp <;> first | done | rfl | (rw [IntKind.wrap_i64]; omega) | omega
                        go_simp
                        refine wpAnyH_take (i := 2) (v := .pointer (some ⟨rg, i * 3, none⟩)) rfl (by kernel_rfl) (by kernel_rfl) (by kernel_rfl) (fun _ _ _ h => h) (Or.inl ⟨by rfl, ?_⟩) SW ?_
                        · intro W4 hW4
                          go_simp <;> first | done | rfl | (rw [IntKind.wrap_i64]; omega) | omega
                        go_simp
                        refine wpAnyH_take (i := 3) (v := .agg (gdA W H (some ⟨bg, 0, none⟩) N bc)) rfl (by kernel_rfl) (by kernel_rfl) (by kernel_rfl) (fun _ _ _ h => h) (yieldsIf_load_mid (by rfl) 24 _ rfl rg (i * 3) (by rfl) (gv W H N bg bc) _ (fun W4 hW4 => rangeAt_below hbr hW4) Try.underlying24 rfl (by exact size24)) SW ?_
                        go_simp
                        refine wpAnyH_take (i := 4) (v := .agg (gdA W H (some ⟨xg, 0, none⟩) N xc)) rfl (by kernel_rfl) (by kernel_rfl) (by kernel_rfl) (fun _ _ _ h => h) (yieldsIf_load_mid (by rfl) 24 _ rfl (w6.heap.size) 0 (by rfl) (gdA W H (some ⟨xg, 0, none⟩) N xc).toList _ (fun W4 hW4 => (GQ.below hW4 GQ.lt).range) Try.underlying24 rfl (by exact size24)) SW ?_
                        go_simp
                        refine wpAnyH_ready (rs := [5]) (by kernel_rfl) (by simp) ?_
                        refine AllReadyH.cons rfl (fun K1 hK1 => ?_) AllReadyH.nil
                        go_simp
                        refine (HSG.out _ SW).mono ?_
                        rintro e w9 ⟨rfl, hb9⟩
                        have B9 := SW.trans (hb9.mono (by have := SW.size; omega))
                        refine hK1.out _ _ B9 (fun SW => ?_)
                        clear B9 hb9
                        clear hK1 K1
                        go_simp
                        refine wpAnyH_done (by kernel_rfl) ?_ _
                        have HBq9 : Hid (Below w7.heap.size w7 w9) := hide (hBq.out.trans (SW.mono hBq.out.size))
                        clear SW GQ hbr
                        cases dd with
                        | true =>
                          go_wp2_with fail
                          have hin : B.getD i [] = Y := of_decide_eq_true HDD.out
                          exact ⟨⟨i + 1, rfl, by omega, .inr ⟨rfl, hide (by rw [← hin]; exact getD_memL hil)⟩, HBq9⟩, by simp only [intOf]; omega⟩
                        | false =>
                          go_wp2_with fail
                          have hnin : B.getD i [] ≠ Y := of_decide_eq_false HDD.out
                          exact ⟨⟨i + 1, rfl, by omega, .inl ⟨rfl, hide (fun q hq => by
                            by_cases e : q = i
                            · rw [e]; exact hnin
                            · exact hnone.out q (by omega))⟩, HBq9⟩, by simp only [intOf]; omega⟩
                      · obtain rfl : i = B.length := by omega
                        have hil' : ¬ (B.length : Int) < (B.length : Int) := by omega
                        have hnin : ¬ Y ∈ B := by
                          intro hY
                          obtain ⟨q, hq, e⟩ := List.getElem_of_mem hY
                          exact hnone.out q hq (by rw [← e]; simp [List.getD, hq])
                        have hpp := HNE.out hnin
                        have HR2 : Hid (runP W H (mvd W H s x).1 (L.drop (j + 1)) = RR) := hide (by
                          have e := hRn.out
                          rw [HRJ.out, if_pos hpp.1] at e
                          exact e)
                        have HPP := hide hpp.2
                        clear hpp hnin hnone
                        have GQ := HG7.out.below hBq.out HG7.out.lt
                        have GQL : Hid (rg < w6.heap.size) := hide (by have := hrgl.out; omega)
                        obtain ⟨wa, hwa⟩ : ∃ wa, wr.alloc (.cells (gdA W H (some ⟨xg, 0, none⟩) N xc) 24) = wa := ⟨_, rfl⟩
                        have BA : Below wr.heap.size wr wa := by rw [← hwa]; exact (Below.refl _ _).alloc (Nat.le_refl _) _
                        have VA := (hV.out.below hBq.out).below BA
                        have XA := (HX7.out.mono hBq.out).mono BA
                        have GA : Gd wa wr.heap.size W H (some ⟨xg, 0, none⟩) N xc := by rw [← hwa]; exact Gd.new wr W H _ N xc
                        have hcellA : ∀ q v, (gv W H N xg xc)[q]? = some v → wa.cell? (Addr.add ⟨wr.heap.size, 0, none⟩ q) = some v := fun q v hv => by
                          rw [Addr.add_mid]
                          exact GA.range q v hv
                        have hGvA : Gv wa W H N (gv W H N xg xc) [Y] := ⟨xg, xc, [], rfl, XA, rfl⟩
                        have hbase : w2.heap.size ≤ wa.heap.size := by have h1 := BA.size; have h2 := hBq.out.size; have h3 := hV.out; have h4 := HG7.out.lt; have h5 := hGk.out.lt; omega
                        have BW : Below w7.heap.size w7 wa := hBq.out.trans (BA.mono hBq.out.size)
                        have GA2 := HG7.out.below BW HG7.out.lt
                        replace hGk := hide (hGk.out.below BW hGk.out.lt)
                        replace hTk := hide (hTk.out.below BW hTk.out.lt)
                        replace hR1 := hide (hR1.out.below BW hR1.out.lt)
                        replace hR2 := hide (hR2.out.below BW hR2.out.lt)
                        replace hB : Hid (Below w.heap.size w wa) := hide (hB.out.trans (BW.mono hB.out.size))
                        have HXA := hide XA
                        have HVA := hide VA
                        have HGA2 := hide GA2
                        clear BW GA
                        go_upto_region 19 with (first
                          | (refine wpList_load_gd rfl (.tmp 12) rfl (w6.heap.size) rfl GQ ?_)
                          | (at_builtin; refine wpList_append_bs _ rfl _ _ rfl w2.heap.size W H N _ B rfl VA ⟨wr.heap.size, 0, none⟩ 1 1 (gv W H N xg xc) [Y] rfl rfl hcellA hGvA (by omega) hbase ?_; intro v' w8 hV8 hg8 hq8))
                        have hrb : w2.heap.size ≤ rg := hq8 rg rfl
                        have kk8 : Keeps (fun q => q = rg) wa w8 := keeps_grownS hg8
                        have hnk : w4.heap.size ≠ rg := fun e => hVk.out (by rw [e]; rfl)
                        have hnt : w2.heap.size + 1 ≠ rg := fun e => HVA.out.notT hTk.out (by decide) (by rw [e]; rfl)
                        have hnx : xg ≠ rg := fun e => apart HVA.out HXA.out (by rw [e]; rfl)
                        have G8 := HGA2.out.keeps kk8 (by have := GQL.out; omega)
                        have GK8 := hGk.out.keeps kk8 hnk
                        have HT8 := hide (hTk.out.keeps kk8 hnt)
                        have HR8 := hide (hR1.out.keeps kk8 (by omega))
                        have HU8 := hide (hR2.out.keeps kk8 (by omega))
                        have HX8 := hide (HXA.out.keeps kk8 hnx)
                        have HB8 : Hid (Below w.heap.size w w8) := hide (hB.out.trans (kk8.below hB.out.size (fun q hq e => by omega)))
                        have hV8k : Hid (v'.ownBlock ≠ some w4.heap.size) := hide (hV8.notG (by rw [List.length_append]; have := hPR.out.ne; simp; omega) GK8)
                        have HV8 := hide hV8
                        have h12k : Hid ((w6.heap.size) ≠ w4.heap.size) := hide (by have := HK4.out; omega)
                        clear hg8 hq8 kk8 hV8 VA XA GA2 hwa BA GQ hcellA hGvA hbase hVk
                        go_upto_region 20 with (first
                          | (refine wpList_load_gd rfl (.tmp 12) rfl (w6.heap.size) rfl G8 ?_)
                          | (refine wpList_store_gd rfl (.tmp 10) (.tmp 92) rfl w4.heap.size rfl rfl GK8 ?_; intro w9 G9 kk9))
                        have HG9 := hide G9
                        have HT9 := hide (HT8.out.keeps kk9 (by omega))
                        have HR9 := hide (HR8.out.keeps kk9 (by omega))
                        have HU9 := hide (HU8.out.keeps kk9 (by omega))
                        have HX9 := hide (HX8.out.keeps kk9 (HX8.out.notCells GK8 (by decide)))
                        have HV9 := hide (HV8.out.keepsC kk9 GK8 (by decide) hV8k.out)
                        have HB9 : Hid (Below w.heap.size w w9) := hide (HB8.out.trans (kk9.below HB8.out.size (fun q hq e => by omega)))
                        have HVK := hV8k
                        have htb := hPR.out.tb
                        have hub := hPR.out.ub
                        clear G8 GK8 kk9 G9
                        have h01 : tn = 0 ∨ tn = 1 := by omega
                        rcases h01 with rfl | rfl
                        · rw [if_pos rfl, if_pos rfl] at HPP
                          obtain ⟨tk, htk⟩ : ∃ tk, t + k = tk := ⟨_, rfl⟩
                          rw [htk] at HPP
                          have hsum : (t : Int) + (k : Int) = (tk : Int) := by omega
                          have htk9 : tk ≤ 200000 := by omega
                          have cT := HT9.out.cells.1
                          have fT := HT9.out.frozen 0
                          have kk10 := Keeps.set1 w9 (w2.heap.size + 1) 0 (.int .i64 (tk : Int))
                          have HT10 := hide (HT9.out.set0 (tk : Int))
                          have HV10 := hide (HV9.out.keepsC kk10 HT9.out (by decide) (HV9.out.notT HT9.out (by decide)))
                          have HG10 := hide (HG9.out.keeps kk10 (by omega))
                          have HX10 := hide (HX9.out.keeps kk10 (HX9.out.notCells HT9.out (by decide)))
                          have HR10 := hide (HR9.out.keeps kk10 (by omega))
                          have HU10 := hide (HU9.out.keeps kk10 (by omega))
                          have HB10 : Hid (Below w.heap.size w (w9.setCell ⟨w2.heap.size + 1, 0, none⟩ (.int .i64 (tk : Int)))) := hide (HB9.out.trans (kk10.below HB9.out.size (fun q hq e => by omega)))
                          clear htk kk10
                          go_wp2_with fail
                          exact ⟨⟨j + 1, _, Y, tk, u, B ++ [Y], xg, xc, rfl, by omega, HPP, HR2, HV10, HVK, HG10, HX10, HT10, HR10, HU10, HB10⟩, by simp only [intOf]; omega⟩
                        · rw [if_neg (show ¬ (1 : Nat) = 0 by decide), if_neg (show ¬ (1 : Nat) = 0 by decide)] at HPP
                          obtain ⟨tk, htk⟩ : ∃ tk, u + k = tk := ⟨_, rfl⟩
                          rw [htk] at HPP
                          have hsum : (u : Int) + (k : Int) = (tk : Int) := by omega
                          have htk9 : tk ≤ 200000 := by omega
                          have cT := HT9.out.cells.2
                          have fT := HT9.out.frozen 1
                          have kk10 := Keeps.set1 w9 (w2.heap.size + 1) 1 (.int .i64 (tk : Int))
                          have HT10 := hide (HT9.out.set1 (tk : Int))
                          have HV10 := hide (HV9.out.keepsC kk10 HT9.out (by decide) (HV9.out.notT HT9.out (by decide)))
                          have HG10 := hide (HG9.out.keeps kk10 (by omega))
                          have HX10 := hide (HX9.out.keeps kk10 (HX9.out.notCells HT9.out (by decide)))
                          have HR10 := hide (HR9.out.keeps kk10 (by omega))
                          have HU10 := hide (HU9.out.keeps kk10 (by omega))
                          have HB10 : Hid (Below w.heap.size w (w9.setCell ⟨w2.heap.size + 1, 1, none⟩ (.int .i64 (tk : Int)))) := hide (HB9.out.trans (kk10.below HB9.out.size (fun q hq e => by omega)))
                          clear htk kk10
                          go_wp2_with fail
                          exact ⟨⟨j + 1, _, Y, t, tk, B ++ [Y], xg, xc, rfl, by omega, HPP, HR2, HV10, HVK, HG10, HX10, HT10, HR10, HU10, HB10⟩, by simp only [intOf]; omega⟩
                    · have HRE : Hid ((s, 8) = RR) := hide (by
                        have e := hRn.out
                        rw [HRJ.out, HOL.out hin.out, if_neg (show ¬ (8 : Nat) = 0 by decide)] at e
                        exact e)
                      replace hGk := hide (hGk.out.below hBq.out hGk.out.lt)
                      replace hBw := hide (hBw.out.mono hBq.out)
                      replace hTk := hide (hTk.out.below hBq.out hTk.out.lt)
                      replace hR1 := hide (hR1.out.below hBq.out hR1.out.lt)
                      replace hR2 := hide (hR2.out.below hBq.out hR2.out.lt)
                      replace hB : Hid (Below w.heap.size w wr) := hide (hB.out.trans (hBq.out.mono hB.out.size))
                      clear hRn HRJ
                      by_cases hil : i < B.length
                      · have hil' : (i : Int) < (B.length : Int) := by omega
                        go_upto_region 17 with fail
                        have HN1 := hide (hBw.out.notCells hR1.out (by decide))
                        have HN2 := hide (hBw.out.notCells hR2.out (by decide))
                        have GK := hGk.out
                        have TK := hTk.out
                        have GR := hR1.out
                        have TR := hR2.out
                        refine wp_region_held (S := fun W4 => Keeps (fun k => k = w.heap.size + 1 ∨ k = w.heap.size + 2) wr W4) (by kernel_rfl) ?_
                        change wpAnyH _ _ _ _ _ _ _ _ (World.drew _)
                        have SW : Keeps (fun k => k = w.heap.size + 1 ∨ k = w.heap.size + 2) wr wr.drew := (Keeps.refl _ wr).drew
                        have SW0 : Keeps (fun k => k = w.heap.size + 1) wr wr.drew := (Keeps.refl _ wr).drew
                        refine wpAnyH_take (i := 0) (v := .agg (gdA W H (some ⟨gq, 0, none⟩) N gc)) rfl (by kernel_rfl) (by kernel_rfl) (by kernel_rfl) (fun _ _ _ h => h) (yieldsIf_load_mid (by rfl) 24 _ rfl w4.heap.size 0 (by rfl) (gdA W H (some ⟨gq, 0, none⟩) N gc).toList _ (fun W4 hW4 => (GK.keeps hW4 (by omega)).range) Try.underlying24 rfl (by exact size24)) SW ?_
                        go_simp
                        refine wpAnyH_take (i := 1) (v := .agg #[.int .i64 t, .int .i64 u]) rfl (by kernel_rfl) (by kernel_rfl) (by kernel_rfl) (fun _ _ _ h => h) (yieldsIf_load_mid (by rfl) 37 _ rfl (w2.heap.size + 1) 0 (by rfl) [.int .i64 t, .int .i64 u] _ (fun W4 hW4 => (TK.keeps hW4 (by omega)).range) Try.underlying37 rfl (by exact size37)) SW ?_
                        go_simp
                        refine wpAnyH_take (i := 2) (v := .int .i64 j) rfl (by kernel_rfl) (by kernel_rfl) (by kernel_rfl) (fun _ _ _ h => h) (Or.inl ⟨by rfl, ?_⟩) SW ?_
                        · intro W4 hW4
                          go_simp <;> first | done | rfl | (rw [IntKind.wrap_i64]; omega) | omega
                        go_simp
                        refine wpAnyH_take (i := 3) (v := .int .i64 8) rfl (by kernel_rfl) (by kernel_rfl) (by kernel_rfl) (fun _ _ _ h => h) (Or.inl ⟨by rfl, ?_⟩) SW ?_
                        · intro W4 hW4
                          go_simp <;> first | done | rfl | (rw [IntKind.wrap_i64]; omega) | omega
                        go_simp
                        refine wpAnyH_ready (rs := [4]) (by kernel_rfl) (by simp) ?_
                        refine AllReadyH.cons rfl (fun K1 hK1 => ?_) AllReadyH.nil
                        refine wp_storeG (.tmp 4) (.tmp 84) rfl (w.heap.size + 1) rfl rfl GR ?_
                        intro w7 G7 kk7
                        refine hK1.out _ _ (SW.after kk7 (fun i _ e => .inl e)) (fun SW => ?_)
                        clear hK1 K1
                        go_simp
                        have T7 := TR.keeps (SW0.after kk7 (fun i _ e => e)) (by omega)
                        refine wpAnyH_ready (rs := [5]) (by kernel_rfl) (by simp) ?_
                        refine AllReadyH.cons rfl (fun K1 hK1 => ?_) AllReadyH.nil
                        refine wp_storeT (.tmp 5) (.tmp 85) rfl (w.heap.size + 2) rfl rfl T7 ?_
                        intro w8 T8 kk8
                        refine hK1.out _ _ (SW.after kk8 (fun i _ e => .inr e)) (fun SW => ?_)
                        clear hK1 K1
                        go_simp
                        refine wpAnyH_ready (rs := [6]) (by kernel_rfl) (by simp) ?_
                        refine AllReadyH.cons rfl (fun K1 hK1 => ?_) AllReadyH.nil
                        go_simp
                        refine hK1.out _ _ SW (fun SW => ?_)
                        clear hK1 K1
                        go_simp
                        refine wpAnyH_ready (rs := [7]) (by kernel_rfl) (by simp) ?_
                        refine AllReadyH.cons rfl (fun K1 hK1 => ?_) AllReadyH.nil
                        go_simp
                        refine hK1.out _ _ SW (fun SW => ?_)
                        clear hK1 K1
                        go_simp
                        refine wpAnyH_done (by kernel_rfl) ?_ _
                        have HG8 := hide (G7.keeps kk8 (by omega))
                        have HT8 := hide T8
                        have HX8 := hide (hBw.out.keeps SW (by rintro (e | e) <;> first | exact HN1.out e | exact HN2.out e))
                        have HB8 : Hid (Below w.heap.size w w8) := hide (hB.out.trans (SW.below hB.out.size (fun k hk e => by omega)))
                        clear GK TK GR TR T8 G7 T7 kk7 kk8 SW SW0
                        go_wp2_with fail
                        refine bodyPost_ret (results_play rfl _ _ (w.heap.size + 1) (w.heap.size + 2) rfl rfl HG8.out HT8.out rfl rfl) rfl ?_
                        rw [← HRE.out]
                        have q1 := hPR.out.t_
                        have q2 := hPR.out.u_
                        have q3 := hPR.out.m
                        have q4 := hPR.out.Z_
                        subst q1 q2 q3 q4
                        exact ⟨gq, gc, rfl, HX8.out, HB8.out⟩
                      · have hil' : ¬ (i : Int) < (B.length : Int) := by omega
                        go_upto_region 17 with fail
                        have HN1 := hide (hBw.out.notCells hR1.out (by decide))
                        have HN2 := hide (hBw.out.notCells hR2.out (by decide))
                        have GK := hGk.out
                        have TK := hTk.out
                        have GR := hR1.out
                        have TR := hR2.out
                        refine wp_region_held (S := fun W4 => Keeps (fun k => k = w.heap.size + 1 ∨ k = w.heap.size + 2) wr W4) (by kernel_rfl) ?_
                        change wpAnyH _ _ _ _ _ _ _ _ (World.drew _)
                        have SW : Keeps (fun k => k = w.heap.size + 1 ∨ k = w.heap.size + 2) wr wr.drew := (Keeps.refl _ wr).drew
                        have SW0 : Keeps (fun k => k = w.heap.size + 1) wr wr.drew := (Keeps.refl _ wr).drew
                        refine wpAnyH_take (i := 0) (v := .agg (gdA W H (some ⟨gq, 0, none⟩) N gc)) rfl (by kernel_rfl) (by kernel_rfl) (by kernel_rfl) (fun _ _ _ h => h) (yieldsIf_load_mid (by rfl) 24 _ rfl w4.heap.size 0 (by rfl) (gdA W H (some ⟨gq, 0, none⟩) N gc).toList _ (fun W4 hW4 => (GK.keeps hW4 (by omega)).range) Try.underlying24 rfl (by exact size24)) SW ?_
                        go_simp
                        refine wpAnyH_take (i := 1) (v := .agg #[.int .i64 t, .int .i64 u]) rfl (by kernel_rfl) (by kernel_rfl) (by kernel_rfl) (fun _ _ _ h => h) (yieldsIf_load_mid (by rfl) 37 _ rfl (w2.heap.size + 1) 0 (by rfl) [.int .i64 t, .int .i64 u] _ (fun W4 hW4 => (TK.keeps hW4 (by omega)).range) Try.underlying37 rfl (by exact size37)) SW ?_
                        go_simp
                        refine wpAnyH_take (i := 2) (v := .int .i64 j) rfl (by kernel_rfl) (by kernel_rfl) (by kernel_rfl) (fun _ _ _ h => h) (Or.inl ⟨by rfl, ?_⟩) SW ?_
                        · intro W4 hW4
                          go_simp <;> first | done | rfl | (rw [IntKind.wrap_i64]; omega) | omega
                        go_simp
                        refine wpAnyH_take (i := 3) (v := .int .i64 8) rfl (by kernel_rfl) (by kernel_rfl) (by kernel_rfl) (fun _ _ _ h => h) (Or.inl ⟨by rfl, ?_⟩) SW ?_
                        · intro W4 hW4
                          go_simp <;> first | done | rfl | (rw [IntKind.wrap_i64]; omega) | omega
                        go_simp
                        refine wpAnyH_ready (rs := [4]) (by kernel_rfl) (by simp) ?_
                        refine AllReadyH.cons rfl (fun K1 hK1 => ?_) AllReadyH.nil
                        refine wp_storeG (.tmp 4) (.tmp 84) rfl (w.heap.size + 1) rfl rfl GR ?_
                        intro w7 G7 kk7
                        refine hK1.out _ _ (SW.after kk7 (fun i _ e => .inl e)) (fun SW => ?_)
                        clear hK1 K1
                        go_simp
                        have T7 := TR.keeps (SW0.after kk7 (fun i _ e => e)) (by omega)
                        refine wpAnyH_ready (rs := [5]) (by kernel_rfl) (by simp) ?_
                        refine AllReadyH.cons rfl (fun K1 hK1 => ?_) AllReadyH.nil
                        refine wp_storeT (.tmp 5) (.tmp 85) rfl (w.heap.size + 2) rfl rfl T7 ?_
                        intro w8 T8 kk8
                        refine hK1.out _ _ (SW.after kk8 (fun i _ e => .inr e)) (fun SW => ?_)
                        clear hK1 K1
                        go_simp
                        refine wpAnyH_ready (rs := [6]) (by kernel_rfl) (by simp) ?_
                        refine AllReadyH.cons rfl (fun K1 hK1 => ?_) AllReadyH.nil
                        go_simp
                        refine hK1.out _ _ SW (fun SW => ?_)
                        clear hK1 K1
                        go_simp
                        refine wpAnyH_ready (rs := [7]) (by kernel_rfl) (by simp) ?_
                        refine AllReadyH.cons rfl (fun K1 hK1 => ?_) AllReadyH.nil
                        go_simp
                        refine hK1.out _ _ SW (fun SW => ?_)
                        clear hK1 K1
                        go_simp
                        refine wpAnyH_done (by kernel_rfl) ?_ _
                        have HG8 := hide (G7.keeps kk8 (by omega))
                        have HT8 := hide T8
                        have HX8 := hide (hBw.out.keeps SW (by rintro (e | e) <;> first | exact HN1.out e | exact HN2.out e))
                        have HB8 : Hid (Below w.heap.size w w8) := hide (hB.out.trans (SW.below hB.out.size (fun k hk e => by omega)))
                        clear GK TK GR TR T8 G7 T7 kk7 kk8 SW SW0
                        go_wp2_with fail
                        refine bodyPost_ret (results_play rfl _ _ (w.heap.size + 1) (w.heap.size + 2) rfl rfl HG8.out HT8.out rfl rfl) rfl ?_
                        rw [← HRE.out]
                        have q1 := hPR.out.t_
                        have q2 := hPR.out.u_
                        have q3 := hPR.out.m
                        have q4 := hPR.out.Z_
                        subst q1 q2 q3 q4
                        exact ⟨gq, gc, rfl, HX8.out, HB8.out⟩
                · refine hK1.out _ _ B6 (fun SW => ?_)
                  clear hK1 K1
                  go_simp
                  refine wpAnyH_take (i := 9) (v := .tuple #[.agg (gdA 0 0 none 0 0), .int .i64 0, .int .i64 (pE W H Z mI x : Nat)]) rfl (by kernel_rfl) (by kernel_rfl) (by kernel_rfl) (fun _ _ _ h => h) (Or.inl ⟨by rfl, ?_⟩) SW ?_
                  · intro W4 hW4
                    go_simp <;> first | done | rfl | (rw [IntKind.wrap_i64]; omega) | omega
                  go_simp
                  refine wpAnyH_take (i := 10) (v := .agg (gdA 0 0 none 0 0)) rfl (by kernel_rfl) (by kernel_rfl) (by kernel_rfl) (fun _ _ _ h => h) (Or.inl ⟨by rfl, ?_⟩) SW ?_
                  · intro W4 hW4
                    go_simp <;> first | done | rfl | (rw [IntKind.wrap_i64]; omega) | omega
                  go_simp
                  refine wpAnyH_take (i := 11) (v := .int .i64 0) rfl (by kernel_rfl) (by kernel_rfl) (by kernel_rfl) (fun _ _ _ h => h) (Or.inl ⟨by rfl, ?_⟩) SW ?_
                  · intro W4 hW4
                    go_simp <;> first | done | rfl | (rw [IntKind.wrap_i64]; omega) | omega
                  go_simp
                  refine wpAnyH_take (i := 12) (v := .int .i64 (pE W H Z mI x : Nat)) rfl (by kernel_rfl) (by kernel_rfl) (by kernel_rfl) (fun _ _ _ h => h) (Or.inl ⟨by rfl, ?_⟩) SW ?_
                  · intro W4 hW4
                    go_simp <;> first | done | rfl | (rw [IntKind.wrap_i64]; omega) | omega
                  go_simp
                  refine wpAnyH_ready (rs := [13]) (by kernel_rfl) (by simp) ?_
                  refine AllReadyH.cons rfl (fun K1 hK1 => ?_) AllReadyH.nil
                  go_simp
                  have KZ := Gd.new w6 0 0 none 0 0
                  refine hK1.out _ _ (SW.alloc SW.size _) (fun SW => ?_)
                  clear hK1 K1
                  go_simp
                  refine wpAnyH_ready (rs := [14]) (by kernel_rfl) (by simp) ?_
                  refine AllReadyH.cons rfl (fun K1 hK1 => ?_) AllReadyH.nil
                  refine wp_storeG (.tmp 12) (.tmp 63) rfl (w6.heap.size) rfl rfl KZ ?_
                  intro w7 G7 kk7
                  have B7 := SW.trans ((kk7.mono (Y := fun q => wr.heap.size ≤ q) (fun q _ e => by omega)).below (B := wr.heap.size) (by have := SW.size; first | omega | (rw [World.size_alloc]; omega)) (fun q hq e => by omega))
                  refine hK1.out _ _ B7 (fun SW => ?_)
                  clear B7
                  clear hK1 K1
                  go_simp
                  refine wpAnyH_ready (rs := [15]) (by kernel_rfl) (by simp) ?_
                  refine AllReadyH.cons rfl (fun K1 hK1 => ?_) AllReadyH.nil
                  go_simp
                  refine hK1.out _ _ SW (fun SW => ?_)
                  clear hK1 K1
                  go_simp
                  refine wpAnyH_ready (rs := [16]) (by kernel_rfl) (by simp) ?_
                  refine AllReadyH.cons rfl (fun K1 hK1 => ?_) AllReadyH.nil
                  go_simp
                  refine hK1.out _ _ SW (fun SW => ?_)
                  clear hK1 K1
                  go_simp
                  refine wpAnyH_done (by kernel_rfl) ?_ _
                  clear B6 hb6
                  have hee : pE W H Z mI x ≠ 0 := h61
                  have HRE : Hid ((s, pE W H Z mI x) = RR) := hide (by
                    have e := hRn.out
                    rw [HRJ.out, HNO.out hee, if_neg hee] at e
                    exact e)
                  obtain ⟨ee, hE⟩ : ∃ ee, pE W H Z mI x = ee := ⟨_, rfl⟩
                  rw [hE] at HRE hee ⊢
                  have hne : ((ee : Int) == 0) = false := by simpa using hee
                  have hne2 : ((ee : Int) != 0) = true := by simpa using hee
                  have hne0 : (0 : Int) < (B.length : Int) := by have := hPR.out.ne; omega
                  obtain ⟨ra, rc, hvf, hrl, hrm, hrg⟩ := hV.out.form
                  subst hvf
                  have hrm' : rc ≤ 9223372036854775807 := by unfold maxLen at hrm; omega
                  replace hGk := hide (hGk.out.below SW hGk.out.lt)
                  replace hBw := hide (hBw.out.mono SW)
                  replace hTk := hide (hTk.out.below SW hTk.out.lt)
                  replace hR1 := hide (hR1.out.below SW hR1.out.lt)
                  replace hR2 := hide (hR2.out.below SW hR2.out.lt)
                  replace hB : Hid (Below w.heap.size w w7) := hide (hB.out.trans (SW.mono hB.out.size))
                  clear hE h61 KZ kk7 HPU HNO HOL HNE HRJ hRn cj GK G7 SW hV hVk
                  try clear KZ0
                  go_wp2_with fail
                  obtain ⟨wo, hwo⟩ : ∃ wo, wo = wr := ⟨_, rfl⟩
                  subst hwo
                  go_loopw [14, 15] (fun v14 v15 wq => v14 = .int .i64 ee ∧ v15 = .int .i64 0 ∧ Hid (wq = w7)) (fun _ _ _ => 0)
                  case atStart => exact ⟨rfl, rfl, hide rfl⟩
                  case round =>
                    obtain ⟨rfl, rfl, hwq⟩ := hrel
                    have hwq := hwq.out
                    subst hwq
                    go_upto_region 17 with fail
                    have HN1 := hide (hBw.out.notCells hR1.out (by decide))
                    have HN2 := hide (hBw.out.notCells hR2.out (by decide))
                    have GK := hGk.out
                    have TK := hTk.out
                    have GR := hR1.out
                    have TR := hR2.out
                    refine wp_region_held (S := fun W4 => Keeps (fun k => k = w.heap.size + 1 ∨ k = w.heap.size + 2) wr W4) (by kernel_rfl) ?_
                    change wpAnyH _ _ _ _ _ _ _ _ (World.drew _)
                    have SW : Keeps (fun k => k = w.heap.size + 1 ∨ k = w.heap.size + 2) wr wr.drew := (Keeps.refl _ wr).drew
                    have SW0 : Keeps (fun k => k = w.heap.size + 1) wr wr.drew := (Keeps.refl _ wr).drew
                    refine wpAnyH_take (i := 0) (v := .agg (gdA W H (some ⟨gq, 0, none⟩) N gc)) rfl (by kernel_rfl) (by kernel_rfl) (by kernel_rfl) (fun _ _ _ h => h) (yieldsIf_load_mid (by rfl) 24 _ rfl w4.heap.size 0 (by rfl) (gdA W H (some ⟨gq, 0, none⟩) N gc).toList _ (fun W4 hW4 => (GK.keeps hW4 (by omega)).range) Try.underlying24 rfl (by exact size24)) SW ?_
                    go_simp
                    refine wpAnyH_take (i := 1) (v := .agg #[.int .i64 t, .int .i64 u]) rfl (by kernel_rfl) (by kernel_rfl) (by kernel_rfl) (fun _ _ _ h => h) (yieldsIf_load_mid (by rfl) 37 _ rfl (w2.heap.size + 1) 0 (by rfl) [.int .i64 t, .int .i64 u] _ (fun W4 hW4 => (TK.keeps hW4 (by omega)).range) Try.underlying37 rfl (by exact size37)) SW ?_
                    go_simp
                    refine wpAnyH_take (i := 2) (v := .int .i64 j) rfl (by kernel_rfl) (by kernel_rfl) (by kernel_rfl) (fun _ _ _ h => h) (Or.inl ⟨by rfl, ?_⟩) SW ?_
                    · intro W4 hW4
                      go_simp <;> first | done | rfl | (rw [IntKind.wrap_i64]; omega) | omega
                    go_simp
                    refine wpAnyH_take (i := 3) (v := .int .i64 ee) rfl (by kernel_rfl) (by kernel_rfl) (by kernel_rfl) (fun _ _ _ h => h) (Or.inl ⟨by rfl, ?_⟩) SW ?_
                    · intro W4 hW4
                      go_simp <;> first | done | rfl | (rw [IntKind.wrap_i64]; omega) | omega
                    go_simp
                    refine wpAnyH_ready (rs := [4]) (by kernel_rfl) (by simp) ?_
                    refine AllReadyH.cons rfl (fun K1 hK1 => ?_) AllReadyH.nil
                    refine wp_storeG (.tmp 4) (.tmp 84) rfl (w.heap.size + 1) rfl rfl GR ?_
                    intro w7 G7 kk7
                    refine hK1.out _ _ (SW.after kk7 (fun i _ e => .inl e)) (fun SW => ?_)
                    clear hK1 K1
                    go_simp
                    have T7 := TR.keeps (SW0.after kk7 (fun i _ e => e)) (by omega)
                    refine wpAnyH_ready (rs := [5]) (by kernel_rfl) (by simp) ?_
                    refine AllReadyH.cons rfl (fun K1 hK1 => ?_) AllReadyH.nil
                    refine wp_storeT (.tmp 5) (.tmp 85) rfl (w.heap.size + 2) rfl rfl T7 ?_
                    intro w8 T8 kk8
                    refine hK1.out _ _ (SW.after kk8 (fun i _ e => .inr e)) (fun SW => ?_)
                    clear hK1 K1
                    go_simp
                    refine wpAnyH_ready (rs := [6]) (by kernel_rfl) (by simp) ?_
                    refine AllReadyH.cons rfl (fun K1 hK1 => ?_) AllReadyH.nil
                    go_simp
                    refine hK1.out _ _ SW (fun SW => ?_)
                    clear hK1 K1
                    go_simp
                    refine wpAnyH_ready (rs := [7]) (by kernel_rfl) (by simp) ?_
                    refine AllReadyH.cons rfl (fun K1 hK1 => ?_) AllReadyH.nil
                    go_simp
                    refine hK1.out _ _ SW (fun SW => ?_)
                    clear hK1 K1
                    go_simp
                    refine wpAnyH_done (by kernel_rfl) ?_ _
                    have HG8 := hide (G7.keeps kk8 (by omega))
                    have HT8 := hide T8
                    have HX8 := hide (hBw.out.keeps SW (by rintro (e | e) <;> first | exact HN1.out e | exact HN2.out e))
                    have HB8 : Hid (Below w.heap.size w w8) := hide (hB.out.trans (SW.below hB.out.size (fun k hk e => by omega)))
                    clear GK TK GR TR T8 G7 T7 kk7 kk8 SW SW0
                    go_wp2_with fail
                    refine bodyPost_ret (results_play rfl _ _ (w.heap.size + 1) (w.heap.size + 2) rfl rfl HG8.out HT8.out rfl rfl) rfl ?_
                    rw [← HRE.out]
                    have q1 := hPR.out.t_
                    have q2 := hPR.out.u_
                    have q3 := hPR.out.m
                    have q4 := hPR.out.Z_
                    subst q1 q2 q3 q4
                    exact ⟨gq, gc, rfl, HX8.out, HB8.out⟩
              refine AllReadyH.cons rfl (fun K1 hK1 => ?_) AllReadyH.nil
              go_simp
              have KZ0 : Gd (wr.alloc (.cells (gdA 0 0 none 0 0) 24)).drew wr.heap.size 0 0 none 0 0 := Gd.new wr 0 0 none 0 0
              refine hK1.out _ _ (SW.alloc SW.size _) (fun SW => ?_)
              clear hK1 K1
              go_simp
              refine wpAnyH_ready (rs := [8]) (by kernel_rfl) (by simp) ?_
              refine AllReadyH.cons rfl (fun K1 hK1 => ?_) AllReadyH.nil
              go_simp
              refine (HPU.out _ SW).mono ?_
              rintro e w6 ⟨hb6, h6⟩
              have B6 := SW.trans (hb6.mono (by have := SW.size; omega))
              have h06 : wr.heap.size ≤ w6.heap.size := B6.size
              rcases h6 with ⟨h61, h62, xg, xc, rfl, hBx, hxl⟩ | ⟨h61, rfl⟩
              · have HBX := hide hBx
                clear hBx
                have KZ := KZ0.below hb6 KZ0.lt
                refine hK1.out _ _ B6 (fun SW => ?_)
                clear hK1 K1
                go_simp
                refine wpAnyH_take (i := 9) (v := .tuple #[.agg (gdA W H (some ⟨xg, 0, none⟩) N xc), .int .i64 (pt W H Z mI x.toNat : Nat), .int .i64 0]) rfl (by kernel_rfl) (by kernel_rfl) (by kernel_rfl) (fun _ _ _ h => h) (Or.inl ⟨by rfl, ?_⟩) SW ?_
                · intro W4 hW4
                  go_simp <;> first | done | rfl | (rw [IntKind.wrap_i64]; omega) | omega
                go_simp
                refine wpAnyH_take (i := 10) (v := .agg (gdA W H (some ⟨xg, 0, none⟩) N xc)) rfl (by kernel_rfl) (by kernel_rfl) (by kernel_rfl) (fun _ _ _ h => h) (Or.inl ⟨by rfl, ?_⟩) SW ?_
                · intro W4 hW4
                  go_simp <;> first | done | rfl | (rw [IntKind.wrap_i64]; omega) | omega
                go_simp
                refine wpAnyH_take (i := 11) (v := .int .i64 (pt W H Z mI x.toNat : Nat)) rfl (by kernel_rfl) (by kernel_rfl) (by kernel_rfl) (fun _ _ _ h => h) (Or.inl ⟨by rfl, ?_⟩) SW ?_
                · intro W4 hW4
                  go_simp <;> first | done | rfl | (rw [IntKind.wrap_i64]; omega) | omega
                go_simp
                refine wpAnyH_take (i := 12) (v := .int .i64 0) rfl (by kernel_rfl) (by kernel_rfl) (by kernel_rfl) (fun _ _ _ h => h) (Or.inl ⟨by rfl, ?_⟩) SW ?_
                · intro W4 hW4
                  go_simp <;> first | done | rfl | (rw [IntKind.wrap_i64]; omega) | omega
                go_simp
                refine wpAnyH_ready (rs := [14]) (by kernel_rfl) (by simp) ?_
                refine AllReadyH.cons rfl (fun K1 hK1 => ?_) AllReadyH.nil
                refine wp_storeG (.tmp 12) (.tmp 63) rfl (wr.heap.size) rfl rfl KZ ?_
                intro w7 G7 kk7
                have B7 := SW.trans ((kk7.mono (Y := fun q => wr.heap.size ≤ q) (fun q _ e => by omega)).below (B := wr.heap.size) (by have := SW.size; first | omega | (rw [World.size_alloc]; omega)) (fun q hq e => by omega))
                have HX7 := hide (HBX.out.keeps kk7 (HBX.out.notCells KZ (by decide)))
                refine hK1.out _ _ B7 (fun SW => ?_)
                clear B7
                clear hK1 K1
                go_simp
                refine wpAnyH_ready (rs := [15]) (by kernel_rfl) (by simp) ?_
                refine AllReadyH.cons rfl (fun K1 hK1 => ?_) AllReadyH.nil
                go_simp
                refine hK1.out _ _ SW (fun SW => ?_)
                clear hK1 K1
                go_simp
                refine wpAnyH_ready (rs := [16]) (by kernel_rfl) (by simp) ?_
                refine AllReadyH.cons rfl (fun K1 hK1 => ?_) AllReadyH.nil
                go_simp
                refine hK1.out _ _ SW (fun SW => ?_)
                clear hK1 K1
                go_simp
                refine wpAnyH_done (by kernel_rfl) ?_ _
                clear B6 hb6
                have hpt : pt W H Z mI x.toNat ≤ 100 := by
                  rw [pt, gone]
                  exact Nat.le_trans (goneU_len (List.prefix_refl _)) (by rw [HNN.out]; exact hN100)
                replace HOL := hide (HOL.out h61 HZL2.out)
                replace HNE := hide (HNE.out h61 HZL2.out hpt)
                obtain ⟨Y, hY⟩ : ∃ Y, pz W H Z mI x.toNat = Y := ⟨_, rfl⟩
                obtain ⟨k, hk⟩ : ∃ k, pt W H Z mI x.toNat = k := ⟨_, rfl⟩
                rw [hY] at HOL HX7
                rw [hY, hk] at HNE
                rw [hk] at hpt ⊢
                have hne0 : (0 : Int) < (B.length : Int) := by have := hPR.out.ne; omega
                obtain ⟨ra, rc, hvf, hrl, hrm, hrg⟩ := hV.out.form
                obtain ⟨rg, hrg⟩ := hrg (by intro e; rw [e] at hne0; simp at hne0)
                subst hrg
                subst hvf
                have hrm' : rc ≤ 9223372036854775807 := by unfold maxLen at hrm; omega
                have hbl : B.length ≤ 300 := by have := hPR.out.bl; omega
                have HK4 : Hid (w4.heap.size < wr.heap.size) := hide hGk.out.lt
                have hrgl : Hid (rg < wr.heap.size) := hide (by
                  obtain ⟨vs, h1, -⟩ := hV.out
                  exact (h1.lt rg rfl).2)
                replace hV := hide (hV.out.below SW)
                replace hGk := hide (hGk.out.below SW hGk.out.lt)
                replace hBw := hide (hBw.out.mono SW)
                replace hTk := hide (hTk.out.below SW hTk.out.lt)
                replace hR1 := hide (hR1.out.below SW hR1.out.lt)
                replace hR2 := hide (hR2.out.below SW hR2.out.lt)
                replace hB : Hid (Below w.heap.size w w7) := hide (hB.out.trans (SW.mono hB.out.size))
                have HG7 := hide G7
                clear hY hk h61 h62 KZ kk7 HPU HNO cj GK G7 SW hxl HBX
                try clear KZ0
                go_wp2_with fail
                obtain ⟨wo, hwo⟩ : ∃ wo, wo = wr := ⟨_, rfl⟩
                subst hwo
                go_loopw [14, 15] (fun v14 v15 wq => ∃ i : Nat, v15 = .int .i64 i ∧ i ≤ B.length ∧ ((v14 = .int .i64 0 ∧ Hid (∀ q, q < i → B.getD q [] ≠ Y)) ∨ (v14 = .int .i64 8 ∧ Hid (Y ∈ B))) ∧ Hid (Below w7.heap.size w7 wq)) (fun _ v _ => B.length - (intOf v).toNat)
                case atStart => exact ⟨0, rfl, by omega, .inl ⟨rfl, hide (fun q hq => absurd hq (by omega))⟩, hide (Below.refl _ _)⟩
                case round =>
                  obtain ⟨i, rfl, hi, hor, hBq⟩ := hrel
                  rcases hor with ⟨rfl, hnone⟩ | ⟨rfl, hin⟩
                  · by_cases hil : i < B.length
                    · have hil' : (i : Int) < (B.length : Int) := by omega
                      obtain ⟨bg, bc, hbr, hbb⟩ := (hV.out.below hBq.out).at hil
                      rw [Nat.mul_comm 3 i] at hbr
                      have GQ := HG7.out.below hBq.out HG7.out.lt
                      have HSG : Hid (∀ W4, Below wr.heap.size wr W4 → _) := hide (fun W4 hb => SameGrid_any W H (some ⟨bg, 0, none⟩) (some ⟨xg, 0, none⟩) N bc xc (B.getD i []) Y W4 (hbb.mono hb).rd ((HX7.out.mono hBq.out).mono hb).rd)
                      obtain ⟨dd, hdd⟩ : ∃ dd, decide (B.getD i [] = Y) = dd := ⟨_, rfl⟩
                      rw [hdd] at HSG
                      have HDD := hide hdd
                      clear hdd hbb
                      go_upto_region 14 with fail
                      refine wp_region_held (S := fun W4 => Below wr.heap.size wr W4) (by kernel_rfl) ?_
                      change wpAnyH _ _ _ _ _ _ _ _ (World.drew _)
                      have SW : Below wr.heap.size wr wr.drew := (Below.refl _ wr).drew
                      refine wpAnyH_take (i := 0) (v := .slice (some ⟨rg, 0, none⟩) B.length rc) rfl (by kernel_rfl) (by kernel_rfl) (by kernel_rfl) (fun _ _ _ h => h) (Or.inl ⟨by rfl, ?_⟩) SW ?_
                      · intro W4 hW4
                        go_simp <;> first | done | rfl | (rw [IntKind.wrap_i64]; omega) | omega
                      go_simp
                      refine wpAnyH_take (i := 1) (v := .int .i64 i) rfl (by kernel_rfl) (by kernel_rfl) (by kernel_rfl) (fun _ _ _ h => h) (Or.inl ⟨by rfl, ?_⟩) SW ?_
                      · intro W4 hW4
                        go_simp <;> first | done | rfl | (rw [IntKind.wrap_i64]; omega) | omega
                      go_simp
                      refine wpAnyH_take (i := 2) (v := .pointer (some ⟨rg, i * 3, none⟩)) rfl (by kernel_rfl) (by kernel_rfl) (by kernel_rfl) (fun _ _ _ h => h) (Or.inl ⟨by rfl, ?_⟩) SW ?_
                      · intro W4 hW4
                        go_simp <;> first | done | rfl | (rw [IntKind.wrap_i64]; omega) | omega
                      go_simp
                      refine wpAnyH_take (i := 3) (v := .agg (gdA W H (some ⟨bg, 0, none⟩) N bc)) rfl (by kernel_rfl) (by kernel_rfl) (by kernel_rfl) (fun _ _ _ h => h) (yieldsIf_load_mid (by rfl) 24 _ rfl rg (i * 3) (by rfl) (gv W H N bg bc) _ (fun W4 hW4 => rangeAt_below hbr hW4) Try.underlying24 rfl (by exact size24)) SW ?_
                      go_simp
                      refine wpAnyH_take (i := 4) (v := .agg (gdA W H (some ⟨xg, 0, none⟩) N xc)) rfl (by kernel_rfl) (by kernel_rfl) (by kernel_rfl) (fun _ _ _ h => h) (yieldsIf_load_mid (by rfl) 24 _ rfl (wo.heap.size) 0 (by rfl) (gdA W H (some ⟨xg, 0, none⟩) N xc).toList _ (fun W4 hW4 => (GQ.below hW4 GQ.lt).range) Try.underlying24 rfl (by exact size24)) SW ?_
                      go_simp
                      refine wpAnyH_ready (rs := [5]) (by kernel_rfl) (by simp) ?_
                      refine AllReadyH.cons rfl (fun K1 hK1 => ?_) AllReadyH.nil
                      go_simp
                      refine (HSG.out _ SW).mono ?_
                      rintro e w9 ⟨rfl, hb9⟩
                      have B9 := SW.trans (hb9.mono (by have := SW.size; omega))
                      refine hK1.out _ _ B9 (fun SW => ?_)
                      clear B9 hb9
                      clear hK1 K1
                      go_simp
                      refine wpAnyH_done (by kernel_rfl) ?_ _
                      have HBq9 : Hid (Below w7.heap.size w7 w9) := hide (hBq.out.trans (SW.mono hBq.out.size))
                      clear SW GQ hbr
                      cases dd with
                      | true =>
                        go_wp2_with fail
                        have hin : B.getD i [] = Y := of_decide_eq_true HDD.out
                        exact ⟨⟨i + 1, rfl, by omega, .inr ⟨rfl, hide (by rw [← hin]; exact getD_memL hil)⟩, HBq9⟩, by simp only [intOf]; omega⟩
                      | false =>
                        go_wp2_with fail
                        have hnin : B.getD i [] ≠ Y := of_decide_eq_false HDD.out
                        exact ⟨⟨i + 1, rfl, by omega, .inl ⟨rfl, hide (fun q hq => by
                          by_cases e : q = i
                          · rw [e]; exact hnin
                          · exact hnone.out q (by omega))⟩, HBq9⟩, by simp only [intOf]; omega⟩
                    · obtain rfl : i = B.length := by omega
                      have hil' : ¬ (B.length : Int) < (B.length : Int) := by omega
                      have hnin : ¬ Y ∈ B := by
                        intro hY
                        obtain ⟨q, hq, e⟩ := List.getElem_of_mem hY
                        exact hnone.out q hq (by rw [← e]; simp [List.getD, hq])
                      have hpp := HNE.out hnin
                      have HR2 : Hid (runP W H (mvd W H s x).1 (L.drop (j + 1)) = RR) := hide (by
                        have e := hRn.out
                        rw [HRJ.out, if_pos hpp.1] at e
                        exact e)
                      have HPP := hide hpp.2
                      clear hpp hnin hnone
                      have GQ := HG7.out.below hBq.out HG7.out.lt
                      have GQL : Hid (rg < wo.heap.size) := hide (by have := hrgl.out; omega)
                      obtain ⟨wa, hwa⟩ : ∃ wa, wr.alloc (.cells (gdA W H (some ⟨xg, 0, none⟩) N xc) 24) = wa := ⟨_, rfl⟩
                      have BA : Below wr.heap.size wr wa := by rw [← hwa]; exact (Below.refl _ _).alloc (Nat.le_refl _) _
                      have VA := (hV.out.below hBq.out).below BA
                      have XA := (HX7.out.mono hBq.out).mono BA
                      have GA : Gd wa wr.heap.size W H (some ⟨xg, 0, none⟩) N xc := by rw [← hwa]; exact Gd.new wr W H _ N xc
                      have hcellA : ∀ q v, (gv W H N xg xc)[q]? = some v → wa.cell? (Addr.add ⟨wr.heap.size, 0, none⟩ q) = some v := fun q v hv => by
                        rw [Addr.add_mid]
                        exact GA.range q v hv
                      have hGvA : Gv wa W H N (gv W H N xg xc) [Y] := ⟨xg, xc, [], rfl, XA, rfl⟩
                      have hbase : w2.heap.size ≤ wa.heap.size := by have h1 := BA.size; have h2 := hBq.out.size; have h3 := hV.out; have h4 := HG7.out.lt; have h5 := hGk.out.lt; omega
                      have BW : Below w7.heap.size w7 wa := hBq.out.trans (BA.mono hBq.out.size)
                      have GA2 := HG7.out.below BW HG7.out.lt
                      replace hGk := hide (hGk.out.below BW hGk.out.lt)
                      replace hTk := hide (hTk.out.below BW hTk.out.lt)
                      replace hR1 := hide (hR1.out.below BW hR1.out.lt)
                      replace hR2 := hide (hR2.out.below BW hR2.out.lt)
                      replace hB : Hid (Below w.heap.size w wa) := hide (hB.out.trans (BW.mono hB.out.size))
                      have HXA := hide XA
                      have HVA := hide VA
                      have HGA2 := hide GA2
                      clear BW GA
                      go_upto_region 19 with (first
                        | (refine wpList_load_gd rfl (.tmp 12) rfl (wo.heap.size) rfl GQ ?_)
                        | (at_builtin; refine wpList_append_bs _ rfl _ _ rfl w2.heap.size W H N _ B rfl VA ⟨wr.heap.size, 0, none⟩ 1 1 (gv W H N xg xc) [Y] rfl rfl hcellA hGvA (by omega) hbase ?_; intro v' w8 hV8 hg8 hq8))
                      have hrb : w2.heap.size ≤ rg := hq8 rg rfl
                      have kk8 : Keeps (fun q => q = rg) wa w8 := keeps_grownS hg8
                      have hnk : w4.heap.size ≠ rg := fun e => hVk.out (by rw [e]; rfl)
                      have hnt : w2.heap.size + 1 ≠ rg := fun e => HVA.out.notT hTk.out (by decide) (by rw [e]; rfl)
                      have hnx : xg ≠ rg := fun e => apart HVA.out HXA.out (by rw [e]; rfl)
                      have G8 := HGA2.out.keeps kk8 (by have := GQL.out; omega)
                      have GK8 := hGk.out.keeps kk8 hnk
                      have HT8 := hide (hTk.out.keeps kk8 hnt)
                      have HR8 := hide (hR1.out.keeps kk8 (by omega))
                      have HU8 := hide (hR2.out.keeps kk8 (by omega))
                      have HX8 := hide (HXA.out.keeps kk8 hnx)
                      have HB8 : Hid (Below w.heap.size w w8) := hide (hB.out.trans (kk8.below hB.out.size (fun q hq e => by omega)))
                      have hV8k : Hid (v'.ownBlock ≠ some w4.heap.size) := hide (hV8.notG (by rw [List.length_append]; have := hPR.out.ne; simp; omega) GK8)
                      have HV8 := hide hV8
                      have h12k : Hid ((wo.heap.size) ≠ w4.heap.size) := hide (by have := HK4.out; omega)
                      clear hg8 hq8 kk8 hV8 VA XA GA2 hwa BA GQ hcellA hGvA hbase hVk
                      go_upto_region 20 with (first
                        | (refine wpList_load_gd rfl (.tmp 12) rfl (wo.heap.size) rfl G8 ?_)
                        | (refine wpList_store_gd rfl (.tmp 10) (.tmp 92) rfl w4.heap.size rfl rfl GK8 ?_; intro w9 G9 kk9))
                      have HG9 := hide G9
                      have HT9 := hide (HT8.out.keeps kk9 (by omega))
                      have HR9 := hide (HR8.out.keeps kk9 (by omega))
                      have HU9 := hide (HU8.out.keeps kk9 (by omega))
                      have HX9 := hide (HX8.out.keeps kk9 (HX8.out.notCells GK8 (by decide)))
                      have HV9 := hide (HV8.out.keepsC kk9 GK8 (by decide) hV8k.out)
                      have HB9 : Hid (Below w.heap.size w w9) := hide (HB8.out.trans (kk9.below HB8.out.size (fun q hq e => by omega)))
                      have HVK := hV8k
                      have htb := hPR.out.tb
                      have hub := hPR.out.ub
                      clear G8 GK8 kk9 G9
                      have h01 : tn = 0 ∨ tn = 1 := by omega
                      rcases h01 with rfl | rfl
                      · rw [if_pos rfl, if_pos rfl] at HPP
                        obtain ⟨tk, htk⟩ : ∃ tk, t + k = tk := ⟨_, rfl⟩
                        rw [htk] at HPP
                        have hsum : (t : Int) + (k : Int) = (tk : Int) := by omega
                        have htk9 : tk ≤ 200000 := by omega
                        have cT := HT9.out.cells.1
                        have fT := HT9.out.frozen 0
                        have kk10 := Keeps.set1 w9 (w2.heap.size + 1) 0 (.int .i64 (tk : Int))
                        have HT10 := hide (HT9.out.set0 (tk : Int))
                        have HV10 := hide (HV9.out.keepsC kk10 HT9.out (by decide) (HV9.out.notT HT9.out (by decide)))
                        have HG10 := hide (HG9.out.keeps kk10 (by omega))
                        have HX10 := hide (HX9.out.keeps kk10 (HX9.out.notCells HT9.out (by decide)))
                        have HR10 := hide (HR9.out.keeps kk10 (by omega))
                        have HU10 := hide (HU9.out.keeps kk10 (by omega))
                        have HB10 : Hid (Below w.heap.size w (w9.setCell ⟨w2.heap.size + 1, 0, none⟩ (.int .i64 (tk : Int)))) := hide (HB9.out.trans (kk10.below HB9.out.size (fun q hq e => by omega)))
                        clear htk kk10
                        go_wp2_with fail
                        exact ⟨⟨j + 1, _, Y, tk, u, B ++ [Y], xg, xc, rfl, by omega, HPP, HR2, HV10, HVK, HG10, HX10, HT10, HR10, HU10, HB10⟩, by simp only [intOf]; omega⟩
                      · rw [if_neg (show ¬ (1 : Nat) = 0 by decide), if_neg (show ¬ (1 : Nat) = 0 by decide)] at HPP
                        obtain ⟨tk, htk⟩ : ∃ tk, u + k = tk := ⟨_, rfl⟩
                        rw [htk] at HPP
                        have hsum : (u : Int) + (k : Int) = (tk : Int) := by omega
                        have htk9 : tk ≤ 200000 := by omega
                        have cT := HT9.out.cells.2
                        have fT := HT9.out.frozen 1
                        have kk10 := Keeps.set1 w9 (w2.heap.size + 1) 1 (.int .i64 (tk : Int))
                        have HT10 := hide (HT9.out.set1 (tk : Int))
                        have HV10 := hide (HV9.out.keepsC kk10 HT9.out (by decide) (HV9.out.notT HT9.out (by decide)))
                        have HG10 := hide (HG9.out.keeps kk10 (by omega))
                        have HX10 := hide (HX9.out.keeps kk10 (HX9.out.notCells HT9.out (by decide)))
                        have HR10 := hide (HR9.out.keeps kk10 (by omega))
                        have HU10 := hide (HU9.out.keeps kk10 (by omega))
                        have HB10 : Hid (Below w.heap.size w (w9.setCell ⟨w2.heap.size + 1, 1, none⟩ (.int .i64 (tk : Int)))) := hide (HB9.out.trans (kk10.below HB9.out.size (fun q hq e => by omega)))
                        clear htk kk10
                        go_wp2_with fail
                        exact ⟨⟨j + 1, _, Y, t, tk, B ++ [Y], xg, xc, rfl, by omega, HPP, HR2, HV10, HVK, HG10, HX10, HT10, HR10, HU10, HB10⟩, by simp only [intOf]; omega⟩
                  · have HRE : Hid ((s, 8) = RR) := hide (by
                      have e := hRn.out
                      rw [HRJ.out, HOL.out hin.out, if_neg (show ¬ (8 : Nat) = 0 by decide)] at e
                      exact e)
                    replace hGk := hide (hGk.out.below hBq.out hGk.out.lt)
                    replace hBw := hide (hBw.out.mono hBq.out)
                    replace hTk := hide (hTk.out.below hBq.out hTk.out.lt)
                    replace hR1 := hide (hR1.out.below hBq.out hR1.out.lt)
                    replace hR2 := hide (hR2.out.below hBq.out hR2.out.lt)
                    replace hB : Hid (Below w.heap.size w wr) := hide (hB.out.trans (hBq.out.mono hB.out.size))
                    clear hRn HRJ
                    by_cases hil : i < B.length
                    · have hil' : (i : Int) < (B.length : Int) := by omega
                      go_upto_region 17 with fail
                      have HN1 := hide (hBw.out.notCells hR1.out (by decide))
                      have HN2 := hide (hBw.out.notCells hR2.out (by decide))
                      have GK := hGk.out
                      have TK := hTk.out
                      have GR := hR1.out
                      have TR := hR2.out
                      refine wp_region_held (S := fun W4 => Keeps (fun k => k = w.heap.size + 1 ∨ k = w.heap.size + 2) wr W4) (by kernel_rfl) ?_
                      change wpAnyH _ _ _ _ _ _ _ _ (World.drew _)
                      have SW : Keeps (fun k => k = w.heap.size + 1 ∨ k = w.heap.size + 2) wr wr.drew := (Keeps.refl _ wr).drew
                      have SW0 : Keeps (fun k => k = w.heap.size + 1) wr wr.drew := (Keeps.refl _ wr).drew
                      refine wpAnyH_take (i := 0) (v := .agg (gdA W H (some ⟨gq, 0, none⟩) N gc)) rfl (by kernel_rfl) (by kernel_rfl) (by kernel_rfl) (fun _ _ _ h => h) (yieldsIf_load_mid (by rfl) 24 _ rfl w4.heap.size 0 (by rfl) (gdA W H (some ⟨gq, 0, none⟩) N gc).toList _ (fun W4 hW4 => (GK.keeps hW4 (by omega)).range) Try.underlying24 rfl (by exact size24)) SW ?_
                      go_simp
                      refine wpAnyH_take (i := 1) (v := .agg #[.int .i64 t, .int .i64 u]) rfl (by kernel_rfl) (by kernel_rfl) (by kernel_rfl) (fun _ _ _ h => h) (yieldsIf_load_mid (by rfl) 37 _ rfl (w2.heap.size + 1) 0 (by rfl) [.int .i64 t, .int .i64 u] _ (fun W4 hW4 => (TK.keeps hW4 (by omega)).range) Try.underlying37 rfl (by exact size37)) SW ?_
                      go_simp
                      refine wpAnyH_take (i := 2) (v := .int .i64 j) rfl (by kernel_rfl) (by kernel_rfl) (by kernel_rfl) (fun _ _ _ h => h) (Or.inl ⟨by rfl, ?_⟩) SW ?_
                      · intro W4 hW4
                        go_simp <;> first | done | rfl | (rw [IntKind.wrap_i64]; omega) | omega
                      go_simp
                      refine wpAnyH_take (i := 3) (v := .int .i64 8) rfl (by kernel_rfl) (by kernel_rfl) (by kernel_rfl) (fun _ _ _ h => h) (Or.inl ⟨by rfl, ?_⟩) SW ?_
                      · intro W4 hW4
                        go_simp <;> first | done | rfl | (rw [IntKind.wrap_i64]; omega) | omega
                      go_simp
                      refine wpAnyH_ready (rs := [4]) (by kernel_rfl) (by simp) ?_
                      refine AllReadyH.cons rfl (fun K1 hK1 => ?_) AllReadyH.nil
                      refine wp_storeG (.tmp 4) (.tmp 84) rfl (w.heap.size + 1) rfl rfl GR ?_
                      intro w7 G7 kk7
                      refine hK1.out _ _ (SW.after kk7 (fun i _ e => .inl e)) (fun SW => ?_)
                      clear hK1 K1
                      go_simp
                      have T7 := TR.keeps (SW0.after kk7 (fun i _ e => e)) (by omega)
                      refine wpAnyH_ready (rs := [5]) (by kernel_rfl) (by simp) ?_
                      refine AllReadyH.cons rfl (fun K1 hK1 => ?_) AllReadyH.nil
                      refine wp_storeT (.tmp 5) (.tmp 85) rfl (w.heap.size + 2) rfl rfl T7 ?_
                      intro w8 T8 kk8
                      refine hK1.out _ _ (SW.after kk8 (fun i _ e => .inr e)) (fun SW => ?_)
                      clear hK1 K1
                      go_simp
                      refine wpAnyH_ready (rs := [6]) (by kernel_rfl) (by simp) ?_
                      refine AllReadyH.cons rfl (fun K1 hK1 => ?_) AllReadyH.nil
                      go_simp
                      refine hK1.out _ _ SW (fun SW => ?_)
                      clear hK1 K1
                      go_simp
                      refine wpAnyH_ready (rs := [7]) (by kernel_rfl) (by simp) ?_
                      refine AllReadyH.cons rfl (fun K1 hK1 => ?_) AllReadyH.nil
                      go_simp
                      refine hK1.out _ _ SW (fun SW => ?_)
                      clear hK1 K1
                      go_simp
                      refine wpAnyH_done (by kernel_rfl) ?_ _
                      have HG8 := hide (G7.keeps kk8 (by omega))
                      have HT8 := hide T8
                      have HX8 := hide (hBw.out.keeps SW (by rintro (e | e) <;> first | exact HN1.out e | exact HN2.out e))
                      have HB8 : Hid (Below w.heap.size w w8) := hide (hB.out.trans (SW.below hB.out.size (fun k hk e => by omega)))
                      clear GK TK GR TR T8 G7 T7 kk7 kk8 SW SW0
                      go_wp2_with fail
                      refine bodyPost_ret (results_play rfl _ _ (w.heap.size + 1) (w.heap.size + 2) rfl rfl HG8.out HT8.out rfl rfl) rfl ?_
                      rw [← HRE.out]
                      have q1 := hPR.out.t_
                      have q2 := hPR.out.u_
                      have q3 := hPR.out.m
                      have q4 := hPR.out.Z_
                      subst q1 q2 q3 q4
                      exact ⟨gq, gc, rfl, HX8.out, HB8.out⟩
                    · have hil' : ¬ (i : Int) < (B.length : Int) := by omega
                      go_upto_region 17 with fail
                      have HN1 := hide (hBw.out.notCells hR1.out (by decide))
                      have HN2 := hide (hBw.out.notCells hR2.out (by decide))
                      have GK := hGk.out
                      have TK := hTk.out
                      have GR := hR1.out
                      have TR := hR2.out
                      refine wp_region_held (S := fun W4 => Keeps (fun k => k = w.heap.size + 1 ∨ k = w.heap.size + 2) wr W4) (by kernel_rfl) ?_
                      change wpAnyH _ _ _ _ _ _ _ _ (World.drew _)
                      have SW : Keeps (fun k => k = w.heap.size + 1 ∨ k = w.heap.size + 2) wr wr.drew := (Keeps.refl _ wr).drew
                      have SW0 : Keeps (fun k => k = w.heap.size + 1) wr wr.drew := (Keeps.refl _ wr).drew
                      refine wpAnyH_take (i := 0) (v := .agg (gdA W H (some ⟨gq, 0, none⟩) N gc)) rfl (by kernel_rfl) (by kernel_rfl) (by kernel_rfl) (fun _ _ _ h => h) (yieldsIf_load_mid (by rfl) 24 _ rfl w4.heap.size 0 (by rfl) (gdA W H (some ⟨gq, 0, none⟩) N gc).toList _ (fun W4 hW4 => (GK.keeps hW4 (by omega)).range) Try.underlying24 rfl (by exact size24)) SW ?_
                      go_simp
                      refine wpAnyH_take (i := 1) (v := .agg #[.int .i64 t, .int .i64 u]) rfl (by kernel_rfl) (by kernel_rfl) (by kernel_rfl) (fun _ _ _ h => h) (yieldsIf_load_mid (by rfl) 37 _ rfl (w2.heap.size + 1) 0 (by rfl) [.int .i64 t, .int .i64 u] _ (fun W4 hW4 => (TK.keeps hW4 (by omega)).range) Try.underlying37 rfl (by exact size37)) SW ?_
                      go_simp
                      refine wpAnyH_take (i := 2) (v := .int .i64 j) rfl (by kernel_rfl) (by kernel_rfl) (by kernel_rfl) (fun _ _ _ h => h) (Or.inl ⟨by rfl, ?_⟩) SW ?_
                      · intro W4 hW4
                        go_simp <;> first | done | rfl | (rw [IntKind.wrap_i64]; omega) | omega
                      go_simp
                      refine wpAnyH_take (i := 3) (v := .int .i64 8) rfl (by kernel_rfl) (by kernel_rfl) (by kernel_rfl) (fun _ _ _ h => h) (Or.inl ⟨by rfl, ?_⟩) SW ?_
                      · intro W4 hW4
                        go_simp <;> first | done | rfl | (rw [IntKind.wrap_i64]; omega) | omega
                      go_simp
                      refine wpAnyH_ready (rs := [4]) (by kernel_rfl) (by simp) ?_
                      refine AllReadyH.cons rfl (fun K1 hK1 => ?_) AllReadyH.nil
                      refine wp_storeG (.tmp 4) (.tmp 84) rfl (w.heap.size + 1) rfl rfl GR ?_
                      intro w7 G7 kk7
                      refine hK1.out _ _ (SW.after kk7 (fun i _ e => .inl e)) (fun SW => ?_)
                      clear hK1 K1
                      go_simp
                      have T7 := TR.keeps (SW0.after kk7 (fun i _ e => e)) (by omega)
                      refine wpAnyH_ready (rs := [5]) (by kernel_rfl) (by simp) ?_
                      refine AllReadyH.cons rfl (fun K1 hK1 => ?_) AllReadyH.nil
                      refine wp_storeT (.tmp 5) (.tmp 85) rfl (w.heap.size + 2) rfl rfl T7 ?_
                      intro w8 T8 kk8
                      refine hK1.out _ _ (SW.after kk8 (fun i _ e => .inr e)) (fun SW => ?_)
                      clear hK1 K1
                      go_simp
                      refine wpAnyH_ready (rs := [6]) (by kernel_rfl) (by simp) ?_
                      refine AllReadyH.cons rfl (fun K1 hK1 => ?_) AllReadyH.nil
                      go_simp
                      refine hK1.out _ _ SW (fun SW => ?_)
                      clear hK1 K1
                      go_simp
                      refine wpAnyH_ready (rs := [7]) (by kernel_rfl) (by simp) ?_
                      refine AllReadyH.cons rfl (fun K1 hK1 => ?_) AllReadyH.nil
                      go_simp
                      refine hK1.out _ _ SW (fun SW => ?_)
                      clear hK1 K1
                      go_simp
                      refine wpAnyH_done (by kernel_rfl) ?_ _
                      have HG8 := hide (G7.keeps kk8 (by omega))
                      have HT8 := hide T8
                      have HX8 := hide (hBw.out.keeps SW (by rintro (e | e) <;> first | exact HN1.out e | exact HN2.out e))
                      have HB8 : Hid (Below w.heap.size w w8) := hide (hB.out.trans (SW.below hB.out.size (fun k hk e => by omega)))
                      clear GK TK GR TR T8 G7 T7 kk7 kk8 SW SW0
                      go_wp2_with fail
                      refine bodyPost_ret (results_play rfl _ _ (w.heap.size + 1) (w.heap.size + 2) rfl rfl HG8.out HT8.out rfl rfl) rfl ?_
                      rw [← HRE.out]
                      have q1 := hPR.out.t_
                      have q2 := hPR.out.u_
                      have q3 := hPR.out.m
                      have q4 := hPR.out.Z_
                      subst q1 q2 q3 q4
                      exact ⟨gq, gc, rfl, HX8.out, HB8.out⟩
              · have KZ := KZ0.below hb6 KZ0.lt
                refine hK1.out _ _ B6 (fun SW => ?_)
                clear hK1 K1
                go_simp
                refine wpAnyH_take (i := 9) (v := .tuple #[.agg (gdA 0 0 none 0 0), .int .i64 0, .int .i64 (pE W H Z mI x : Nat)]) rfl (by kernel_rfl) (by kernel_rfl) (by kernel_rfl) (fun _ _ _ h => h) (Or.inl ⟨by rfl, ?_⟩) SW ?_
                · intro W4 hW4
                  go_simp <;> first | done | rfl | (rw [IntKind.wrap_i64]; omega) | omega
                go_simp
                refine wpAnyH_take (i := 10) (v := .agg (gdA 0 0 none 0 0)) rfl (by kernel_rfl) (by kernel_rfl) (by kernel_rfl) (fun _ _ _ h => h) (Or.inl ⟨by rfl, ?_⟩) SW ?_
                · intro W4 hW4
                  go_simp <;> first | done | rfl | (rw [IntKind.wrap_i64]; omega) | omega
                go_simp
                refine wpAnyH_take (i := 11) (v := .int .i64 0) rfl (by kernel_rfl) (by kernel_rfl) (by kernel_rfl) (fun _ _ _ h => h) (Or.inl ⟨by rfl, ?_⟩) SW ?_
                · intro W4 hW4
                  go_simp <;> first | done | rfl | (rw [IntKind.wrap_i64]; omega) | omega
                go_simp
                refine wpAnyH_take (i := 12) (v := .int .i64 (pE W H Z mI x : Nat)) rfl (by kernel_rfl) (by kernel_rfl) (by kernel_rfl) (fun _ _ _ h => h) (Or.inl ⟨by rfl, ?_⟩) SW ?_
                · intro W4 hW4
                  go_simp <;> first | done | rfl | (rw [IntKind.wrap_i64]; omega) | omega
                go_simp
                refine wpAnyH_ready (rs := [14]) (by kernel_rfl) (by simp) ?_
                refine AllReadyH.cons rfl (fun K1 hK1 => ?_) AllReadyH.nil
                refine wp_storeG (.tmp 12) (.tmp 63) rfl (wr.heap.size) rfl rfl KZ ?_
                intro w7 G7 kk7
                have B7 := SW.trans ((kk7.mono (Y := fun q => wr.heap.size ≤ q) (fun q _ e => by omega)).below (B := wr.heap.size) (by have := SW.size; first | omega | (rw [World.size_alloc]; omega)) (fun q hq e => by omega))
                refine hK1.out _ _ B7 (fun SW => ?_)
                clear B7
                clear hK1 K1
                go_simp
                refine wpAnyH_ready (rs := [15]) (by kernel_rfl) (by simp) ?_
                refine AllReadyH.cons rfl (fun K1 hK1 => ?_) AllReadyH.nil
                go_simp
                refine hK1.out _ _ SW (fun SW => ?_)
                clear hK1 K1
                go_simp
                refine wpAnyH_ready (rs := [16]) (by kernel_rfl) (by simp) ?_
                refine AllReadyH.cons rfl (fun K1 hK1 => ?_) AllReadyH.nil
                go_simp
                refine hK1.out _ _ SW (fun SW => ?_)
                clear hK1 K1
                go_simp
                refine wpAnyH_done (by kernel_rfl) ?_ _
                clear B6 hb6
                have hee : pE W H Z mI x ≠ 0 := h61
                have HRE : Hid ((s, pE W H Z mI x) = RR) := hide (by
                  have e := hRn.out
                  rw [HRJ.out, HNO.out hee, if_neg hee] at e
                  exact e)
                obtain ⟨ee, hE⟩ : ∃ ee, pE W H Z mI x = ee := ⟨_, rfl⟩
                rw [hE] at HRE hee ⊢
                have hne : ((ee : Int) == 0) = false := by simpa using hee
                have hne2 : ((ee : Int) != 0) = true := by simpa using hee
                have hne0 : (0 : Int) < (B.length : Int) := by have := hPR.out.ne; omega
                obtain ⟨ra, rc, hvf, hrl, hrm, hrg⟩ := hV.out.form
                subst hvf
                have hrm' : rc ≤ 9223372036854775807 := by unfold maxLen at hrm; omega
                replace hGk := hide (hGk.out.below SW hGk.out.lt)
                replace hBw := hide (hBw.out.mono SW)
                replace hTk := hide (hTk.out.below SW hTk.out.lt)
                replace hR1 := hide (hR1.out.below SW hR1.out.lt)
                replace hR2 := hide (hR2.out.below SW hR2.out.lt)
                replace hB : Hid (Below w.heap.size w w7) := hide (hB.out.trans (SW.mono hB.out.size))
                clear hE h61 KZ kk7 HPU HNO HOL HNE HRJ hRn cj GK G7 SW hV hVk
                try clear KZ0
                go_wp2_with fail
                obtain ⟨wo, hwo⟩ : ∃ wo, wo = wr := ⟨_, rfl⟩
                subst hwo
                go_loopw [14, 15] (fun v14 v15 wq => v14 = .int .i64 ee ∧ v15 = .int .i64 0 ∧ Hid (wq = w7)) (fun _ _ _ => 0)
                case atStart => exact ⟨rfl, rfl, hide rfl⟩
                case round =>
                  obtain ⟨rfl, rfl, hwq⟩ := hrel
                  have hwq := hwq.out
                  subst hwq
                  go_upto_region 17 with fail
                  have HN1 := hide (hBw.out.notCells hR1.out (by decide))
                  have HN2 := hide (hBw.out.notCells hR2.out (by decide))
                  have GK := hGk.out
                  have TK := hTk.out
                  have GR := hR1.out
                  have TR := hR2.out
                  refine wp_region_held (S := fun W4 => Keeps (fun k => k = w.heap.size + 1 ∨ k = w.heap.size + 2) wr W4) (by kernel_rfl) ?_
                  change wpAnyH _ _ _ _ _ _ _ _ (World.drew _)
                  have SW : Keeps (fun k => k = w.heap.size + 1 ∨ k = w.heap.size + 2) wr wr.drew := (Keeps.refl _ wr).drew
                  have SW0 : Keeps (fun k => k = w.heap.size + 1) wr wr.drew := (Keeps.refl _ wr).drew
                  refine wpAnyH_take (i := 0) (v := .agg (gdA W H (some ⟨gq, 0, none⟩) N gc)) rfl (by kernel_rfl) (by kernel_rfl) (by kernel_rfl) (fun _ _ _ h => h) (yieldsIf_load_mid (by rfl) 24 _ rfl w4.heap.size 0 (by rfl) (gdA W H (some ⟨gq, 0, none⟩) N gc).toList _ (fun W4 hW4 => (GK.keeps hW4 (by omega)).range) Try.underlying24 rfl (by exact size24)) SW ?_
                  go_simp
                  refine wpAnyH_take (i := 1) (v := .agg #[.int .i64 t, .int .i64 u]) rfl (by kernel_rfl) (by kernel_rfl) (by kernel_rfl) (fun _ _ _ h => h) (yieldsIf_load_mid (by rfl) 37 _ rfl (w2.heap.size + 1) 0 (by rfl) [.int .i64 t, .int .i64 u] _ (fun W4 hW4 => (TK.keeps hW4 (by omega)).range) Try.underlying37 rfl (by exact size37)) SW ?_
                  go_simp
                  refine wpAnyH_take (i := 2) (v := .int .i64 j) rfl (by kernel_rfl) (by kernel_rfl) (by kernel_rfl) (fun _ _ _ h => h) (Or.inl ⟨by rfl, ?_⟩) SW ?_
                  · intro W4 hW4
                    go_simp <;> first | done | rfl | (rw [IntKind.wrap_i64]; omega) | omega
                  go_simp
                  refine wpAnyH_take (i := 3) (v := .int .i64 ee) rfl (by kernel_rfl) (by kernel_rfl) (by kernel_rfl) (fun _ _ _ h => h) (Or.inl ⟨by rfl, ?_⟩) SW ?_
                  · intro W4 hW4
                    go_simp <;> first | done | rfl | (rw [IntKind.wrap_i64]; omega) | omega
                  go_simp
                  refine wpAnyH_ready (rs := [4]) (by kernel_rfl) (by simp) ?_
                  refine AllReadyH.cons rfl (fun K1 hK1 => ?_) AllReadyH.nil
                  refine wp_storeG (.tmp 4) (.tmp 84) rfl (w.heap.size + 1) rfl rfl GR ?_
                  intro w7 G7 kk7
                  refine hK1.out _ _ (SW.after kk7 (fun i _ e => .inl e)) (fun SW => ?_)
                  clear hK1 K1
                  go_simp
                  have T7 := TR.keeps (SW0.after kk7 (fun i _ e => e)) (by omega)
                  refine wpAnyH_ready (rs := [5]) (by kernel_rfl) (by simp) ?_
                  refine AllReadyH.cons rfl (fun K1 hK1 => ?_) AllReadyH.nil
                  refine wp_storeT (.tmp 5) (.tmp 85) rfl (w.heap.size + 2) rfl rfl T7 ?_
                  intro w8 T8 kk8
                  refine hK1.out _ _ (SW.after kk8 (fun i _ e => .inr e)) (fun SW => ?_)
                  clear hK1 K1
                  go_simp
                  refine wpAnyH_ready (rs := [6]) (by kernel_rfl) (by simp) ?_
                  refine AllReadyH.cons rfl (fun K1 hK1 => ?_) AllReadyH.nil
                  go_simp
                  refine hK1.out _ _ SW (fun SW => ?_)
                  clear hK1 K1
                  go_simp
                  refine wpAnyH_ready (rs := [7]) (by kernel_rfl) (by simp) ?_
                  refine AllReadyH.cons rfl (fun K1 hK1 => ?_) AllReadyH.nil
                  go_simp
                  refine hK1.out _ _ SW (fun SW => ?_)
                  clear hK1 K1
                  go_simp
                  refine wpAnyH_done (by kernel_rfl) ?_ _
                  have HG8 := hide (G7.keeps kk8 (by omega))
                  have HT8 := hide T8
                  have HX8 := hide (hBw.out.keeps SW (by rintro (e | e) <;> first | exact HN1.out e | exact HN2.out e))
                  have HB8 : Hid (Below w.heap.size w w8) := hide (hB.out.trans (SW.below hB.out.size (fun k hk e => by omega)))
                  clear GK TK GR TR T8 G7 T7 kk7 kk8 SW SW0
                  go_wp2_with fail
                  refine bodyPost_ret (results_play rfl _ _ (w.heap.size + 1) (w.heap.size + 2) rfl rfl HG8.out HT8.out rfl rfl) rfl ?_
                  rw [← HRE.out]
                  have q1 := hPR.out.t_
                  have q2 := hPR.out.u_
                  have q3 := hPR.out.m
                  have q4 := hPR.out.Z_
                  subst q1 q2 q3 q4
                  exact ⟨gq, gc, rfl, HX8.out, HB8.out⟩
        · have hq : Hid (qof L j ≠ 2) := hide (fun e => hx1 (hlt2.1 e).2.1)
          obtain ⟨y1, hy1⟩ : ∃ y1, L.getD j1 0 = y1 := ⟨_, rfl⟩
          rw [hy1] at c1 hx1
          have hyb : (y1 == -1) = false := by simpa using hx1
          clear hlt2 hx1 hy1
          by_cases hx : L.getD j 0 = -1
          · have hpp := hPR.out.pass hx hq.out
            have HR2 : Hid (runP W H (mvd W H s (L.getD j 0)).1 (L.drop (j + 1)) = RR) := hide (by
              have e := hRn.out
              rw [HRJ.out, if_pos hpp.1] at e
              exact e)
            have HPP := hide hpp.2
            rw [hx] at cj
            clear hpp hx
            go_wp2_with fail
            exact ⟨⟨j + 1, _, Z, t, u, B, gq, gc, rfl, by omega, HPP, HR2, hV, hVk, hGk, hBw, hTk, hR1, hR2, hB⟩, by simp only [intOf]; omega⟩
          · have HX := hide hx
            have HZL2 : Hid (Z.length = N) := hide hBw.out.rd.len
            obtain ⟨tn, htn⟩ : ∃ tn, j % 2 = tn := ⟨_, rfl⟩
            have htn1 : tn ≤ 1 := by omega
            have hrem : Int.tmod (j : Int) 2 = (tn : Int) := by rw [Int.tmod_eq_emod_of_nonneg (by omega)]; omega
            have HTN := hide htn
            have HPU : Hid (∀ W4, Below wr.heap.size wr W4 → Calls Try.prog 16 #[.agg (gdA W H (some ⟨gq, 0, none⟩) N gc), .int .i64 ((1 + tn : Nat) : Int), .int .i64 (L.getD j 0)] W4 (PutIs W H N Z (1 + tn) (L.getD j 0) W4)) := hide (fun W4 hb => HPS.out gq gc Z (1 + tn) (L.getD j 0) W4 (by omega) (hBw.out.mono hb))
            obtain ⟨mI, hmI⟩ : ∃ mI : Nat, 1 + tn = mI := ⟨_, rfl⟩
            have hmi : 1 + (tn : Int) = (mI : Int) := by omega
            have HMI := hide hmI
            rw [hmI] at HPU
            have HNO := hide (hPR.out.no hx hq.out)
            have HOL := hide (hPR.out.old HNN.out hx hq.out)
            have HNE := hide (hPR.out.new HNN.out hx hq.out)
            rw [htn, hmI] at HNO HOL HNE
            obtain ⟨x, hxx⟩ : ∃ x, L.getD j 0 = x := ⟨_, rfl⟩
            rw [hxx] at cj hx HPU HNO HOL HNE HRJ
            have hxb : (x == -1) = false := by simpa using hx
            clear htn hmI hxx hx
            go_upto_region 10 with fail
            have GK := hGk.out
            refine wp_region_held (S := fun W4 => Below wr.heap.size wr W4) (by kernel_rfl) ?_
            change wpAnyH _ _ _ _ _ _ _ _ (World.drew _)
            have SW : Below wr.heap.size wr wr.drew := (Below.refl _ wr).drew
            have hdr : wr.drew.heap.size = wr.heap.size := rfl
            refine wpAnyH_take (i := 0) (v := .agg (gdA W H (some ⟨gq, 0, none⟩) N gc)) rfl (by kernel_rfl) (by kernel_rfl) (by kernel_rfl) (fun _ _ _ h => h) (yieldsIf_load_mid (by rfl) 24 _ rfl w4.heap.size 0 (by rfl) (gdA W H (some ⟨gq, 0, none⟩) N gc).toList _ (fun W4 hW4 => (GK.below hW4 GK.lt).range) Try.underlying24 rfl (by exact size24)) SW ?_
            go_simp
            refine wpAnyH_take (i := 1) (v := .int .i64 j) rfl (by kernel_rfl) (by kernel_rfl) (by kernel_rfl) (fun _ _ _ h => h) (Or.inl ⟨by rfl, ?_⟩) SW ?_
            · intro W4 hW4
              go_simp <;> first | done | rfl | (rw [IntKind.wrap_i64]; omega) | omega
            go_simp
            refine wpAnyH_take (i := 2) (v := .int .i64 tn) rfl (by kernel_rfl) (by kernel_rfl) (by kernel_rfl) (fun _ _ _ h => h) (Or.inl ⟨by rfl, ?_⟩) SW ?_
            · intro W4 hW4
              go_simp <;> first | done | rfl | (rw [IntKind.wrap_i64]; omega) | omega
            go_simp
            refine wpAnyH_take (i := 3) (v := .int .i64 mI) rfl (by kernel_rfl) (by kernel_rfl) (by kernel_rfl) (fun _ _ _ h => h) (Or.inl ⟨by rfl, ?_⟩) SW ?_
            · intro W4 hW4
              go_simp <;> first | done | rfl | (rw [IntKind.wrap_i64]; omega) | omega
            go_simp
            refine wpAnyH_take (i := 4) (v := .slice (some ⟨lb, lo, none⟩) ln lc) rfl (by kernel_rfl) (by kernel_rfl) (by kernel_rfl) (fun _ _ _ h => h) (Or.inl ⟨by rfl, ?_⟩) SW ?_
            · intro W4 hW4
              go_simp <;> first | done | rfl | (rw [IntKind.wrap_i64]; omega) | omega
            go_simp
            refine wpAnyH_take (i := 5) (v := .int .i64 j) rfl (by kernel_rfl) (by kernel_rfl) (by kernel_rfl) (fun _ _ _ h => h) (Or.inl ⟨by rfl, ?_⟩) SW ?_
            · intro W4 hW4
              go_simp <;> first | done | rfl | (rw [IntKind.wrap_i64]; omega) | omega
            go_simp
            refine wpAnyH_take (i := 6) (v := .pointer (some ⟨lb, lo + j, none⟩)) rfl (by kernel_rfl) (by kernel_rfl) (by kernel_rfl) (fun _ _ _ h => h) (Or.inl ⟨by rfl, ?_⟩) SW ?_
            · intro W4 hW4
              go_simp <;> first | done | rfl | (rw [IntKind.wrap_i64]; omega) | omega
            go_simp
            refine wpAnyH_take (i := 7) (v := .int .i64 x) rfl (by kernel_rfl) (by kernel_rfl) (by kernel_rfl) (fun _ _ _ h => h) (Or.inl ⟨by rfl, ?_⟩) SW ?_
            · intro W4 hW4
              have hcell := (cell_below cj hW4)
              go_simp <;> first | done | rfl | (rw [IntKind.wrap_i64]; omega) | omega
            go_simp
            refine wpAnyH_ready (rs := [8, 13]) (by kernel_rfl) (by simp) ?_
            refine AllReadyH.cons rfl (fun K1 hK1 => ?_) ?_
            · go_simp
              refine (HPU.out _ SW).mono ?_
              rintro e w6 ⟨hb6, h6⟩
              have B6 := SW.trans (hb6.mono (by have := SW.size; omega))
              have h06 : wr.heap.size ≤ w6.heap.size := B6.size
              rcases h6 with ⟨h61, h62, xg, xc, rfl, hBx, hxl⟩ | ⟨h61, rfl⟩
              · have HBX := hide hBx
                clear hBx
                refine hK1.out _ _ B6 (fun SW => ?_)
                clear hK1 K1
                go_simp
                refine wpAnyH_take (i := 9) (v := .tuple #[.agg (gdA W H (some ⟨xg, 0, none⟩) N xc), .int .i64 (pt W H Z mI x.toNat : Nat), .int .i64 0]) rfl (by kernel_rfl) (by kernel_rfl) (by kernel_rfl) (fun _ _ _ h => h) (Or.inl ⟨by rfl, ?_⟩) SW ?_
                · intro W4 hW4
                  go_simp <;> first | done | rfl | (rw [IntKind.wrap_i64]; omega) | omega
                go_simp
                refine wpAnyH_take (i := 10) (v := .agg (gdA W H (some ⟨xg, 0, none⟩) N xc)) rfl (by kernel_rfl) (by kernel_rfl) (by kernel_rfl) (fun _ _ _ h => h) (Or.inl ⟨by rfl, ?_⟩) SW ?_
                · intro W4 hW4
                  go_simp <;> first | done | rfl | (rw [IntKind.wrap_i64]; omega) | omega
                go_simp
                refine wpAnyH_take (i := 11) (v := .int .i64 (pt W H Z mI x.toNat : Nat)) rfl (by kernel_rfl) (by kernel_rfl) (by kernel_rfl) (fun _ _ _ h => h) (Or.inl ⟨by rfl, ?_⟩) SW ?_
                · intro W4 hW4
                  go_simp <;> first | done | rfl | (rw [IntKind.wrap_i64]; omega) | omega
                go_simp
                refine wpAnyH_take (i := 12) (v := .int .i64 0) rfl (by kernel_rfl) (by kernel_rfl) (by kernel_rfl) (fun _ _ _ h => h) (Or.inl ⟨by rfl, ?_⟩) SW ?_
                · intro W4 hW4
                  go_simp <;> first | done | rfl | (rw [IntKind.wrap_i64]; omega) | omega
                go_simp
                refine wpAnyH_ready (rs := [13]) (by kernel_rfl) (by simp) ?_
                refine AllReadyH.cons rfl (fun K1 hK1 => ?_) AllReadyH.nil
                go_simp
                have KZ := Gd.new w6 0 0 none 0 0
                have HBX := hide (HBX.out.mono ((Below.refl _ w6).alloc (Nat.le_refl _) (.cells (gdA 0 0 none 0 0) 24)))
                refine hK1.out _ _ (SW.alloc SW.size _) (fun SW => ?_)
                clear hK1 K1
                go_simp
                refine wpAnyH_ready (rs := [14]) (by kernel_rfl) (by simp) ?_
                refine AllReadyH.cons rfl (fun K1 hK1 => ?_) AllReadyH.nil
                refine wp_storeG (.tmp 12) (.tmp 63) rfl (w6.heap.size) rfl rfl KZ ?_
                intro w7 G7 kk7
                have B7 := SW.trans ((kk7.mono (Y := fun q => wr.heap.size ≤ q) (fun q _ e => by omega)).below (B := wr.heap.size) (by have := SW.size; first | omega | (rw [World.size_alloc]; omega)) (fun q hq e => by omega))
                have HX7 := hide (HBX.out.keeps kk7 (HBX.out.notCells KZ (by decide)))
                refine hK1.out _ _ B7 (fun SW => ?_)
                clear B7
                clear hK1 K1
                go_simp
                refine wpAnyH_ready (rs := [15]) (by kernel_rfl) (by simp) ?_
                refine AllReadyH.cons rfl (fun K1 hK1 => ?_) AllReadyH.nil
                go_simp
                refine hK1.out _ _ SW (fun SW => ?_)
                clear hK1 K1
                go_simp
                refine wpAnyH_ready (rs := [16]) (by kernel_rfl) (by simp) ?_
                refine AllReadyH.cons rfl (fun K1 hK1 => ?_) AllReadyH.nil
                go_simp
                refine hK1.out _ _ SW (fun SW => ?_)
                clear hK1 K1
                go_simp
                refine wpAnyH_done (by kernel_rfl) ?_ _
                clear B6 hb6
                have hpt : pt W H Z mI x.toNat ≤ 100 := by
                  rw [pt, gone]
                  exact Nat.le_trans (goneU_len (List.prefix_refl _)) (by rw [HNN.out]; exact hN100)
                replace HOL := hide (HOL.out h61 HZL2.out)
                replace HNE := hide (HNE.out h61 HZL2.out hpt)
                obtain ⟨Y, hY⟩ : ∃ Y, pz W H Z mI x.toNat = Y := ⟨_, rfl⟩
                obtain ⟨k, hk⟩ : ∃ k, pt W H Z mI x.toNat = k := ⟨_, rfl⟩
                rw [hY] at HOL HX7
                rw [hY, hk] at HNE
                rw [hk] at hpt ⊢
                have hne0 : (0 : Int) < (B.length : Int) := by have := hPR.out.ne; omega
                obtain ⟨ra, rc, hvf, hrl, hrm, hrg⟩ := hV.out.form
                obtain ⟨rg, hrg⟩ := hrg (by intro e; rw [e] at hne0; simp at hne0)
                subst hrg
                subst hvf
                have hrm' : rc ≤ 9223372036854775807 := by unfold maxLen at hrm; omega
                have hbl : B.length ≤ 300 := by have := hPR.out.bl; omega
                have HK4 : Hid (w4.heap.size < wr.heap.size) := hide hGk.out.lt
                have hrgl : Hid (rg < wr.heap.size) := hide (by
                  obtain ⟨vs, h1, -⟩ := hV.out
                  exact (h1.lt rg rfl).2)
                replace hV := hide (hV.out.below SW)
                replace hGk := hide (hGk.out.below SW hGk.out.lt)
                replace hBw := hide (hBw.out.mono SW)
                replace hTk := hide (hTk.out.below SW hTk.out.lt)
                replace hR1 := hide (hR1.out.below SW hR1.out.lt)
                replace hR2 := hide (hR2.out.below SW hR2.out.lt)
                replace hB : Hid (Below w.heap.size w w7) := hide (hB.out.trans (SW.mono hB.out.size))
                have HG7 := hide G7
                clear hY hk h61 h62 KZ kk7 HPU HNO cj GK G7 SW hxl HBX
                try clear KZ0
                go_wp2_with fail
                obtain ⟨wo, hwo⟩ : ∃ wo, wo = wr := ⟨_, rfl⟩
                subst hwo
                go_loopw [14, 15] (fun v14 v15 wq => ∃ i : Nat, v15 = .int .i64 i ∧ i ≤ B.length ∧ ((v14 = .int .i64 0 ∧ Hid (∀ q, q < i → B.getD q [] ≠ Y)) ∨ (v14 = .int .i64 8 ∧ Hid (Y ∈ B))) ∧ Hid (Below w7.heap.size w7 wq)) (fun _ v _ => B.length - (intOf v).toNat)
                case atStart => exact ⟨0, rfl, by omega, .inl ⟨rfl, hide (fun q hq => absurd hq (by omega))⟩, hide (Below.refl _ _)⟩
                case round =>
                  obtain ⟨i, rfl, hi, hor, hBq⟩ := hrel
                  rcases hor with ⟨rfl, hnone⟩ | ⟨rfl, hin⟩
                  · by_cases hil : i < B.length
                    · have hil' : (i : Int) < (B.length : Int) := by omega
                      obtain ⟨bg, bc, hbr, hbb⟩ := (hV.out.below hBq.out).at hil
                      rw [Nat.mul_comm 3 i] at hbr
                      have GQ := HG7.out.below hBq.out HG7.out.lt
                      have HSG : Hid (∀ W4, Below wr.heap.size wr W4 → _) := hide (fun W4 hb => SameGrid_any W H (some ⟨bg, 0, none⟩) (some ⟨xg, 0, none⟩) N bc xc (B.getD i []) Y W4 (hbb.mono hb).rd ((HX7.out.mono hBq.out).mono hb).rd)
                      obtain ⟨dd, hdd⟩ : ∃ dd, decide (B.getD i [] = Y) = dd := ⟨_, rfl⟩
                      rw [hdd] at HSG
                      have HDD := hide hdd
                      clear hdd hbb
                      go_upto_region 14 with fail
                      refine wp_region_held (S := fun W4 => Below wr.heap.size wr W4) (by kernel_rfl) ?_
                      change wpAnyH _ _ _ _ _ _ _ _ (World.drew _)
                      have SW : Below wr.heap.size wr wr.drew := (Below.refl _ wr).drew
                      refine wpAnyH_take (i := 0) (v := .slice (some ⟨rg, 0, none⟩) B.length rc) rfl (by kernel_rfl) (by kernel_rfl) (by kernel_rfl) (fun _ _ _ h => h) (Or.inl ⟨by rfl, ?_⟩) SW ?_
                      · intro W4 hW4
                        go_simp <;> first | done | rfl | (rw [IntKind.wrap_i64]; omega) | omega
                      go_simp
                      refine wpAnyH_take (i := 1) (v := .int .i64 i) rfl (by kernel_rfl) (by kernel_rfl) (by kernel_rfl) (fun _ _ _ h => h) (Or.inl ⟨by rfl, ?_⟩) SW ?_
                      · intro W4 hW4
                        go_simp <;> first | done | rfl | (rw [IntKind.wrap_i64]; omega) | omega
                      go_simp
                      refine wpAnyH_take (i := 2) (v := .pointer (some ⟨rg, i * 3, none⟩)) rfl (by kernel_rfl) (by kernel_rfl) (by kernel_rfl) (fun _ _ _ h => h) (Or.inl ⟨by rfl, ?_⟩) SW ?_
                      · intro W4 hW4
                        go_simp <;> first | done | rfl | (rw [IntKind.wrap_i64]; omega) | omega
                      go_simp
                      refine wpAnyH_take (i := 3) (v := .agg (gdA W H (some ⟨bg, 0, none⟩) N bc)) rfl (by kernel_rfl) (by kernel_rfl) (by kernel_rfl) (fun _ _ _ h => h) (yieldsIf_load_mid (by rfl) 24 _ rfl rg (i * 3) (by rfl) (gv W H N bg bc) _ (fun W4 hW4 => rangeAt_below hbr hW4) Try.underlying24 rfl (by exact size24)) SW ?_
                      go_simp
                      refine wpAnyH_take (i := 4) (v := .agg (gdA W H (some ⟨xg, 0, none⟩) N xc)) rfl (by kernel_rfl) (by kernel_rfl) (by kernel_rfl) (fun _ _ _ h => h) (yieldsIf_load_mid (by rfl) 24 _ rfl (w6.heap.size) 0 (by rfl) (gdA W H (some ⟨xg, 0, none⟩) N xc).toList _ (fun W4 hW4 => (GQ.below hW4 GQ.lt).range) Try.underlying24 rfl (by exact size24)) SW ?_
                      go_simp
                      refine wpAnyH_ready (rs := [5]) (by kernel_rfl) (by simp) ?_
                      refine AllReadyH.cons rfl (fun K1 hK1 => ?_) AllReadyH.nil
                      go_simp
                      refine (HSG.out _ SW).mono ?_
                      rintro e w9 ⟨rfl, hb9⟩
                      have B9 := SW.trans (hb9.mono (by have := SW.size; omega))
                      refine hK1.out _ _ B9 (fun SW => ?_)
                      clear B9 hb9
                      clear hK1 K1
                      go_simp
                      refine wpAnyH_done (by kernel_rfl) ?_ _
                      have HBq9 : Hid (Below w7.heap.size w7 w9) := hide (hBq.out.trans (SW.mono hBq.out.size))
                      clear SW GQ hbr
                      cases dd with
                      | true =>
                        go_wp2_with fail
                        have hin : B.getD i [] = Y := of_decide_eq_true HDD.out
                        exact ⟨⟨i + 1, rfl, by omega, .inr ⟨rfl, hide (by rw [← hin]; exact getD_memL hil)⟩, HBq9⟩, by simp only [intOf]; omega⟩
                      | false =>
                        go_wp2_with fail
                        have hnin : B.getD i [] ≠ Y := of_decide_eq_false HDD.out
                        exact ⟨⟨i + 1, rfl, by omega, .inl ⟨rfl, hide (fun q hq => by
                          by_cases e : q = i
                          · rw [e]; exact hnin
                          · exact hnone.out q (by omega))⟩, HBq9⟩, by simp only [intOf]; omega⟩
                    · obtain rfl : i = B.length := by omega
                      have hil' : ¬ (B.length : Int) < (B.length : Int) := by omega
                      have hnin : ¬ Y ∈ B := by
                        intro hY
                        obtain ⟨q, hq, e⟩ := List.getElem_of_mem hY
                        exact hnone.out q hq (by rw [← e]; simp [List.getD, hq])
                      have hpp := HNE.out hnin
                      have HR2 : Hid (runP W H (mvd W H s x).1 (L.drop (j + 1)) = RR) := hide (by
                        have e := hRn.out
                        rw [HRJ.out, if_pos hpp.1] at e
                        exact e)
                      have HPP := hide hpp.2
                      clear hpp hnin hnone
                      have GQ := HG7.out.below hBq.out HG7.out.lt
                      have GQL : Hid (rg < w6.heap.size) := hide (by have := hrgl.out; omega)
                      obtain ⟨wa, hwa⟩ : ∃ wa, wr.alloc (.cells (gdA W H (some ⟨xg, 0, none⟩) N xc) 24) = wa := ⟨_, rfl⟩
                      have BA : Below wr.heap.size wr wa := by rw [← hwa]; exact (Below.refl _ _).alloc (Nat.le_refl _) _
                      have VA := (hV.out.below hBq.out).below BA
                      have XA := (HX7.out.mono hBq.out).mono BA
                      have GA : Gd wa wr.heap.size W H (some ⟨xg, 0, none⟩) N xc := by rw [← hwa]; exact Gd.new wr W H _ N xc
                      have hcellA : ∀ q v, (gv W H N xg xc)[q]? = some v → wa.cell? (Addr.add ⟨wr.heap.size, 0, none⟩ q) = some v := fun q v hv => by
                        rw [Addr.add_mid]
                        exact GA.range q v hv
                      have hGvA : Gv wa W H N (gv W H N xg xc) [Y] := ⟨xg, xc, [], rfl, XA, rfl⟩
                      have hbase : w2.heap.size ≤ wa.heap.size := by have h1 := BA.size; have h2 := hBq.out.size; have h3 := hV.out; have h4 := HG7.out.lt; have h5 := hGk.out.lt; omega
                      have BW : Below w7.heap.size w7 wa := hBq.out.trans (BA.mono hBq.out.size)
                      have GA2 := HG7.out.below BW HG7.out.lt
                      replace hGk := hide (hGk.out.below BW hGk.out.lt)
                      replace hTk := hide (hTk.out.below BW hTk.out.lt)
                      replace hR1 := hide (hR1.out.below BW hR1.out.lt)
                      replace hR2 := hide (hR2.out.below BW hR2.out.lt)
                      replace hB : Hid (Below w.heap.size w wa) := hide (hB.out.trans (BW.mono hB.out.size))
                      have HXA := hide XA
                      have HVA := hide VA
                      have HGA2 := hide GA2
                      clear BW GA
                      go_upto_region 19 with (first
                        | (refine wpList_load_gd rfl (.tmp 12) rfl (w6.heap.size) rfl GQ ?_)
                        | (at_builtin; refine wpList_append_bs _ rfl _ _ rfl w2.heap.size W H N _ B rfl VA ⟨wr.heap.size, 0, none⟩ 1 1 (gv W H N xg xc) [Y] rfl rfl hcellA hGvA (by omega) hbase ?_; intro v' w8 hV8 hg8 hq8))
                      have hrb : w2.heap.size ≤ rg := hq8 rg rfl
                      have kk8 : Keeps (fun q => q = rg) wa w8 := keeps_grownS hg8
                      have hnk : w4.heap.size ≠ rg := fun e => hVk.out (by rw [e]; rfl)
                      have hnt : w2.heap.size + 1 ≠ rg := fun e => HVA.out.notT hTk.out (by decide) (by rw [e]; rfl)
                      have hnx : xg ≠ rg := fun e => apart HVA.out HXA.out (by rw [e]; rfl)
                      have G8 := HGA2.out.keeps kk8 (by have := GQL.out; omega)
                      have GK8 := hGk.out.keeps kk8 hnk
                      have HT8 := hide (hTk.out.keeps kk8 hnt)
                      have HR8 := hide (hR1.out.keeps kk8 (by omega))
                      have HU8 := hide (hR2.out.keeps kk8 (by omega))
                      have HX8 := hide (HXA.out.keeps kk8 hnx)
                      have HB8 : Hid (Below w.heap.size w w8) := hide (hB.out.trans (kk8.below hB.out.size (fun q hq e => by omega)))
                      have hV8k : Hid (v'.ownBlock ≠ some w4.heap.size) := hide (hV8.notG (by rw [List.length_append]; have := hPR.out.ne; simp; omega) GK8)
                      have HV8 := hide hV8
                      have h12k : Hid ((w6.heap.size) ≠ w4.heap.size) := hide (by have := HK4.out; omega)
                      clear hg8 hq8 kk8 hV8 VA XA GA2 hwa BA GQ hcellA hGvA hbase hVk
                      go_upto_region 20 with (first
                        | (refine wpList_load_gd rfl (.tmp 12) rfl (w6.heap.size) rfl G8 ?_)
                        | (refine wpList_store_gd rfl (.tmp 10) (.tmp 92) rfl w4.heap.size rfl rfl GK8 ?_; intro w9 G9 kk9))
                      have HG9 := hide G9
                      have HT9 := hide (HT8.out.keeps kk9 (by omega))
                      have HR9 := hide (HR8.out.keeps kk9 (by omega))
                      have HU9 := hide (HU8.out.keeps kk9 (by omega))
                      have HX9 := hide (HX8.out.keeps kk9 (HX8.out.notCells GK8 (by decide)))
                      have HV9 := hide (HV8.out.keepsC kk9 GK8 (by decide) hV8k.out)
                      have HB9 : Hid (Below w.heap.size w w9) := hide (HB8.out.trans (kk9.below HB8.out.size (fun q hq e => by omega)))
                      have HVK := hV8k
                      have htb := hPR.out.tb
                      have hub := hPR.out.ub
                      clear G8 GK8 kk9 G9
                      have h01 : tn = 0 ∨ tn = 1 := by omega
                      rcases h01 with rfl | rfl
                      · rw [if_pos rfl, if_pos rfl] at HPP
                        obtain ⟨tk, htk⟩ : ∃ tk, t + k = tk := ⟨_, rfl⟩
                        rw [htk] at HPP
                        have hsum : (t : Int) + (k : Int) = (tk : Int) := by omega
                        have htk9 : tk ≤ 200000 := by omega
                        have cT := HT9.out.cells.1
                        have fT := HT9.out.frozen 0
                        have kk10 := Keeps.set1 w9 (w2.heap.size + 1) 0 (.int .i64 (tk : Int))
                        have HT10 := hide (HT9.out.set0 (tk : Int))
                        have HV10 := hide (HV9.out.keepsC kk10 HT9.out (by decide) (HV9.out.notT HT9.out (by decide)))
                        have HG10 := hide (HG9.out.keeps kk10 (by omega))
                        have HX10 := hide (HX9.out.keeps kk10 (HX9.out.notCells HT9.out (by decide)))
                        have HR10 := hide (HR9.out.keeps kk10 (by omega))
                        have HU10 := hide (HU9.out.keeps kk10 (by omega))
                        have HB10 : Hid (Below w.heap.size w (w9.setCell ⟨w2.heap.size + 1, 0, none⟩ (.int .i64 (tk : Int)))) := hide (HB9.out.trans (kk10.below HB9.out.size (fun q hq e => by omega)))
                        clear htk kk10
                        go_wp2_with fail
                        exact ⟨⟨j + 1, _, Y, tk, u, B ++ [Y], xg, xc, rfl, by omega, HPP, HR2, HV10, HVK, HG10, HX10, HT10, HR10, HU10, HB10⟩, by simp only [intOf]; omega⟩
                      · rw [if_neg (show ¬ (1 : Nat) = 0 by decide), if_neg (show ¬ (1 : Nat) = 0 by decide)] at HPP
                        obtain ⟨tk, htk⟩ : ∃ tk, u + k = tk := ⟨_, rfl⟩
                        rw [htk] at HPP
                        have hsum : (u : Int) + (k : Int) = (tk : Int) := by omega
                        have htk9 : tk ≤ 200000 := by omega
                        have cT := HT9.out.cells.2
                        have fT := HT9.out.frozen 1
                        have kk10 := Keeps.set1 w9 (w2.heap.size + 1) 1 (.int .i64 (tk : Int))
                        have HT10 := hide (HT9.out.set1 (tk : Int))
                        have HV10 := hide (HV9.out.keepsC kk10 HT9.out (by decide) (HV9.out.notT HT9.out (by decide)))
                        have HG10 := hide (HG9.out.keeps kk10 (by omega))
                        have HX10 := hide (HX9.out.keeps kk10 (HX9.out.notCells HT9.out (by decide)))
                        have HR10 := hide (HR9.out.keeps kk10 (by omega))
                        have HU10 := hide (HU9.out.keeps kk10 (by omega))
                        have HB10 : Hid (Below w.heap.size w (w9.setCell ⟨w2.heap.size + 1, 1, none⟩ (.int .i64 (tk : Int)))) := hide (HB9.out.trans (kk10.below HB9.out.size (fun q hq e => by omega)))
                        clear htk kk10
                        go_wp2_with fail
                        exact ⟨⟨j + 1, _, Y, t, tk, B ++ [Y], xg, xc, rfl, by omega, HPP, HR2, HV10, HVK, HG10, HX10, HT10, HR10, HU10, HB10⟩, by simp only [intOf]; omega⟩
                  · have HRE : Hid ((s, 8) = RR) := hide (by
                      have e := hRn.out
                      rw [HRJ.out, HOL.out hin.out, if_neg (show ¬ (8 : Nat) = 0 by decide)] at e
                      exact e)
                    replace hGk := hide (hGk.out.below hBq.out hGk.out.lt)
                    replace hBw := hide (hBw.out.mono hBq.out)
                    replace hTk := hide (hTk.out.below hBq.out hTk.out.lt)
                    replace hR1 := hide (hR1.out.below hBq.out hR1.out.lt)
                    replace hR2 := hide (hR2.out.below hBq.out hR2.out.lt)
                    replace hB : Hid (Below w.heap.size w wr) := hide (hB.out.trans (hBq.out.mono hB.out.size))
                    clear hRn HRJ
                    by_cases hil : i < B.length
                    · have hil' : (i : Int) < (B.length : Int) := by omega
                      go_upto_region 17 with fail
                      have HN1 := hide (hBw.out.notCells hR1.out (by decide))
                      have HN2 := hide (hBw.out.notCells hR2.out (by decide))
                      have GK := hGk.out
                      have TK := hTk.out
                      have GR := hR1.out
                      have TR := hR2.out
                      refine wp_region_held (S := fun W4 => Keeps (fun k => k = w.heap.size + 1 ∨ k = w.heap.size + 2) wr W4) (by kernel_rfl) ?_
                      change wpAnyH _ _ _ _ _ _ _ _ (World.drew _)
                      have SW : Keeps (fun k => k = w.heap.size + 1 ∨ k = w.heap.size + 2) wr wr.drew := (Keeps.refl _ wr).drew
                      have SW0 : Keeps (fun k => k = w.heap.size + 1) wr wr.drew := (Keeps.refl _ wr).drew
                      refine wpAnyH_take (i := 0) (v := .agg (gdA W H (some ⟨gq, 0, none⟩) N gc)) rfl (by kernel_rfl) (by kernel_rfl) (by kernel_rfl) (fun _ _ _ h => h) (yieldsIf_load_mid (by rfl) 24 _ rfl w4.heap.size 0 (by rfl) (gdA W H (some ⟨gq, 0, none⟩) N gc).toList _ (fun W4 hW4 => (GK.keeps hW4 (by omega)).range) Try.underlying24 rfl (by exact size24)) SW ?_
                      go_simp
                      refine wpAnyH_take (i := 1) (v := .agg #[.int .i64 t, .int .i64 u]) rfl (by kernel_rfl) (by kernel_rfl) (by kernel_rfl) (fun _ _ _ h => h) (yieldsIf_load_mid (by rfl) 37 _ rfl (w2.heap.size + 1) 0 (by rfl) [.int .i64 t, .int .i64 u] _ (fun W4 hW4 => (TK.keeps hW4 (by omega)).range) Try.underlying37 rfl (by exact size37)) SW ?_
                      go_simp
                      refine wpAnyH_take (i := 2) (v := .int .i64 j) rfl (by kernel_rfl) (by kernel_rfl) (by kernel_rfl) (fun _ _ _ h => h) (Or.inl ⟨by rfl, ?_⟩) SW ?_
                      · intro W4 hW4
                        go_simp <;> first | done | rfl | (rw [IntKind.wrap_i64]; omega) | omega
                      go_simp
                      refine wpAnyH_take (i := 3) (v := .int .i64 8) rfl (by kernel_rfl) (by kernel_rfl) (by kernel_rfl) (fun _ _ _ h => h) (Or.inl ⟨by rfl, ?_⟩) SW ?_
                      · intro W4 hW4
                        go_simp <;> first | done | rfl | (rw [IntKind.wrap_i64]; omega) | omega
                      go_simp
                      refine wpAnyH_ready (rs := [4]) (by kernel_rfl) (by simp) ?_
                      refine AllReadyH.cons rfl (fun K1 hK1 => ?_) AllReadyH.nil
                      refine wp_storeG (.tmp 4) (.tmp 84) rfl (w.heap.size + 1) rfl rfl GR ?_
                      intro w7 G7 kk7
                      refine hK1.out _ _ (SW.after kk7 (fun i _ e => .inl e)) (fun SW => ?_)
                      clear hK1 K1
                      go_simp
                      have T7 := TR.keeps (SW0.after kk7 (fun i _ e => e)) (by omega)
                      refine wpAnyH_ready (rs := [5]) (by kernel_rfl) (by simp) ?_
                      refine AllReadyH.cons rfl (fun K1 hK1 => ?_) AllReadyH.nil
                      refine wp_storeT (.tmp 5) (.tmp 85) rfl (w.heap.size + 2) rfl rfl T7 ?_
                      intro w8 T8 kk8
                      refine hK1.out _ _ (SW.after kk8 (fun i _ e => .inr e)) (fun SW => ?_)
                      clear hK1 K1
                      go_simp
                      refine wpAnyH_ready (rs := [6]) (by kernel_rfl) (by simp) ?_
                      refine AllReadyH.cons rfl (fun K1 hK1 => ?_) AllReadyH.nil
                      go_simp
                      refine hK1.out _ _ SW (fun SW => ?_)
                      clear hK1 K1
                      go_simp
                      refine wpAnyH_ready (rs := [7]) (by kernel_rfl) (by simp) ?_
                      refine AllReadyH.cons rfl (fun K1 hK1 => ?_) AllReadyH.nil
                      go_simp
                      refine hK1.out _ _ SW (fun SW => ?_)
                      clear hK1 K1
                      go_simp
                      refine wpAnyH_done (by kernel_rfl) ?_ _
                      have HG8 := hide (G7.keeps kk8 (by omega))
                      have HT8 := hide T8
                      have HX8 := hide (hBw.out.keeps SW (by rintro (e | e) <;> first | exact HN1.out e | exact HN2.out e))
                      have HB8 : Hid (Below w.heap.size w w8) := hide (hB.out.trans (SW.below hB.out.size (fun k hk e => by omega)))
                      clear GK TK GR TR T8 G7 T7 kk7 kk8 SW SW0
                      go_wp2_with fail
                      refine bodyPost_ret (results_play rfl _ _ (w.heap.size + 1) (w.heap.size + 2) rfl rfl HG8.out HT8.out rfl rfl) rfl ?_
                      rw [← HRE.out]
                      have q1 := hPR.out.t_
                      have q2 := hPR.out.u_
                      have q3 := hPR.out.m
                      have q4 := hPR.out.Z_
                      subst q1 q2 q3 q4
                      exact ⟨gq, gc, rfl, HX8.out, HB8.out⟩
                    · have hil' : ¬ (i : Int) < (B.length : Int) := by omega
                      go_upto_region 17 with fail
                      have HN1 := hide (hBw.out.notCells hR1.out (by decide))
                      have HN2 := hide (hBw.out.notCells hR2.out (by decide))
                      have GK := hGk.out
                      have TK := hTk.out
                      have GR := hR1.out
                      have TR := hR2.out
                      refine wp_region_held (S := fun W4 => Keeps (fun k => k = w.heap.size + 1 ∨ k = w.heap.size + 2) wr W4) (by kernel_rfl) ?_
                      change wpAnyH _ _ _ _ _ _ _ _ (World.drew _)
                      have SW : Keeps (fun k => k = w.heap.size + 1 ∨ k = w.heap.size + 2) wr wr.drew := (Keeps.refl _ wr).drew
                      have SW0 : Keeps (fun k => k = w.heap.size + 1) wr wr.drew := (Keeps.refl _ wr).drew
                      refine wpAnyH_take (i := 0) (v := .agg (gdA W H (some ⟨gq, 0, none⟩) N gc)) rfl (by kernel_rfl) (by kernel_rfl) (by kernel_rfl) (fun _ _ _ h => h) (yieldsIf_load_mid (by rfl) 24 _ rfl w4.heap.size 0 (by rfl) (gdA W H (some ⟨gq, 0, none⟩) N gc).toList _ (fun W4 hW4 => (GK.keeps hW4 (by omega)).range) Try.underlying24 rfl (by exact size24)) SW ?_
                      go_simp
                      refine wpAnyH_take (i := 1) (v := .agg #[.int .i64 t, .int .i64 u]) rfl (by kernel_rfl) (by kernel_rfl) (by kernel_rfl) (fun _ _ _ h => h) (yieldsIf_load_mid (by rfl) 37 _ rfl (w2.heap.size + 1) 0 (by rfl) [.int .i64 t, .int .i64 u] _ (fun W4 hW4 => (TK.keeps hW4 (by omega)).range) Try.underlying37 rfl (by exact size37)) SW ?_
                      go_simp
                      refine wpAnyH_take (i := 2) (v := .int .i64 j) rfl (by kernel_rfl) (by kernel_rfl) (by kernel_rfl) (fun _ _ _ h => h) (Or.inl ⟨by rfl, ?_⟩) SW ?_
                      · intro W4 hW4
                        go_simp <;> first | done | rfl | (rw [IntKind.wrap_i64]; omega) | omega
                      go_simp
                      refine wpAnyH_take (i := 3) (v := .int .i64 8) rfl (by kernel_rfl) (by kernel_rfl) (by kernel_rfl) (fun _ _ _ h => h) (Or.inl ⟨by rfl, ?_⟩) SW ?_
                      · intro W4 hW4
                        go_simp <;> first | done | rfl | (rw [IntKind.wrap_i64]; omega) | omega
                      go_simp
                      refine wpAnyH_ready (rs := [4]) (by kernel_rfl) (by simp) ?_
                      refine AllReadyH.cons rfl (fun K1 hK1 => ?_) AllReadyH.nil
                      refine wp_storeG (.tmp 4) (.tmp 84) rfl (w.heap.size + 1) rfl rfl GR ?_
                      intro w7 G7 kk7
                      refine hK1.out _ _ (SW.after kk7 (fun i _ e => .inl e)) (fun SW => ?_)
                      clear hK1 K1
                      go_simp
                      have T7 := TR.keeps (SW0.after kk7 (fun i _ e => e)) (by omega)
                      refine wpAnyH_ready (rs := [5]) (by kernel_rfl) (by simp) ?_
                      refine AllReadyH.cons rfl (fun K1 hK1 => ?_) AllReadyH.nil
                      refine wp_storeT (.tmp 5) (.tmp 85) rfl (w.heap.size + 2) rfl rfl T7 ?_
                      intro w8 T8 kk8
                      refine hK1.out _ _ (SW.after kk8 (fun i _ e => .inr e)) (fun SW => ?_)
                      clear hK1 K1
                      go_simp
                      refine wpAnyH_ready (rs := [6]) (by kernel_rfl) (by simp) ?_
                      refine AllReadyH.cons rfl (fun K1 hK1 => ?_) AllReadyH.nil
                      go_simp
                      refine hK1.out _ _ SW (fun SW => ?_)
                      clear hK1 K1
                      go_simp
                      refine wpAnyH_ready (rs := [7]) (by kernel_rfl) (by simp) ?_
                      refine AllReadyH.cons rfl (fun K1 hK1 => ?_) AllReadyH.nil
                      go_simp
                      refine hK1.out _ _ SW (fun SW => ?_)
                      clear hK1 K1
                      go_simp
                      refine wpAnyH_done (by kernel_rfl) ?_ _
                      have HG8 := hide (G7.keeps kk8 (by omega))
                      have HT8 := hide T8
                      have HX8 := hide (hBw.out.keeps SW (by rintro (e | e) <;> first | exact HN1.out e | exact HN2.out e))
                      have HB8 : Hid (Below w.heap.size w w8) := hide (hB.out.trans (SW.below hB.out.size (fun k hk e => by omega)))
                      clear GK TK GR TR T8 G7 T7 kk7 kk8 SW SW0
                      go_wp2_with fail
                      refine bodyPost_ret (results_play rfl _ _ (w.heap.size + 1) (w.heap.size + 2) rfl rfl HG8.out HT8.out rfl rfl) rfl ?_
                      rw [← HRE.out]
                      have q1 := hPR.out.t_
                      have q2 := hPR.out.u_
                      have q3 := hPR.out.m
                      have q4 := hPR.out.Z_
                      subst q1 q2 q3 q4
                      exact ⟨gq, gc, rfl, HX8.out, HB8.out⟩
              · refine hK1.out _ _ B6 (fun SW => ?_)
                clear hK1 K1
                go_simp
                refine wpAnyH_take (i := 9) (v := .tuple #[.agg (gdA 0 0 none 0 0), .int .i64 0, .int .i64 (pE W H Z mI x : Nat)]) rfl (by kernel_rfl) (by kernel_rfl) (by kernel_rfl) (fun _ _ _ h => h) (Or.inl ⟨by rfl, ?_⟩) SW ?_
                · intro W4 hW4
                  go_simp <;> first | done | rfl | (rw [IntKind.wrap_i64]; omega) | omega
                go_simp
                refine wpAnyH_take (i := 10) (v := .agg (gdA 0 0 none 0 0)) rfl (by kernel_rfl) (by kernel_rfl) (by kernel_rfl) (fun _ _ _ h => h) (Or.inl ⟨by rfl, ?_⟩) SW ?_
                · intro W4 hW4
                  go_simp <;> first | done | rfl | (rw [IntKind.wrap_i64]; omega) | omega
                go_simp
                refine wpAnyH_take (i := 11) (v := .int .i64 0) rfl (by kernel_rfl) (by kernel_rfl) (by kernel_rfl) (fun _ _ _ h => h) (Or.inl ⟨by rfl, ?_⟩) SW ?_
                · intro W4 hW4
                  go_simp <;> first | done | rfl | (rw [IntKind.wrap_i64]; omega) | omega
                go_simp
                refine wpAnyH_take (i := 12) (v := .int .i64 (pE W H Z mI x : Nat)) rfl (by kernel_rfl) (by kernel_rfl) (by kernel_rfl) (fun _ _ _ h => h) (Or.inl ⟨by rfl, ?_⟩) SW ?_
                · intro W4 hW4
                  go_simp <;> first | done | rfl | (rw [IntKind.wrap_i64]; omega) | omega
                go_simp
                refine wpAnyH_ready (rs := [13]) (by kernel_rfl) (by simp) ?_
                refine AllReadyH.cons rfl (fun K1 hK1 => ?_) AllReadyH.nil
                go_simp
                have KZ := Gd.new w6 0 0 none 0 0
                refine hK1.out _ _ (SW.alloc SW.size _) (fun SW => ?_)
                clear hK1 K1
                go_simp
                refine wpAnyH_ready (rs := [14]) (by kernel_rfl) (by simp) ?_
                refine AllReadyH.cons rfl (fun K1 hK1 => ?_) AllReadyH.nil
                refine wp_storeG (.tmp 12) (.tmp 63) rfl (w6.heap.size) rfl rfl KZ ?_
                intro w7 G7 kk7
                have B7 := SW.trans ((kk7.mono (Y := fun q => wr.heap.size ≤ q) (fun q _ e => by omega)).below (B := wr.heap.size) (by have := SW.size; first | omega | (rw [World.size_alloc]; omega)) (fun q hq e => by omega))
                refine hK1.out _ _ B7 (fun SW => ?_)
                clear B7
                clear hK1 K1
                go_simp
                refine wpAnyH_ready (rs := [15]) (by kernel_rfl) (by simp) ?_
                refine AllReadyH.cons rfl (fun K1 hK1 => ?_) AllReadyH.nil
                go_simp
                refine hK1.out _ _ SW (fun SW => ?_)
                clear hK1 K1
                go_simp
                refine wpAnyH_ready (rs := [16]) (by kernel_rfl) (by simp) ?_
                refine AllReadyH.cons rfl (fun K1 hK1 => ?_) AllReadyH.nil
                go_simp
                refine hK1.out _ _ SW (fun SW => ?_)
                clear hK1 K1
                go_simp
                refine wpAnyH_done (by kernel_rfl) ?_ _
                clear B6 hb6
                have hee : pE W H Z mI x ≠ 0 := h61
                have HRE : Hid ((s, pE W H Z mI x) = RR) := hide (by
                  have e := hRn.out
                  rw [HRJ.out, HNO.out hee, if_neg hee] at e
                  exact e)
                obtain ⟨ee, hE⟩ : ∃ ee, pE W H Z mI x = ee := ⟨_, rfl⟩
                rw [hE] at HRE hee ⊢
                have hne : ((ee : Int) == 0) = false := by simpa using hee
                have hne2 : ((ee : Int) != 0) = true := by simpa using hee
                have hne0 : (0 : Int) < (B.length : Int) := by have := hPR.out.ne; omega
                obtain ⟨ra, rc, hvf, hrl, hrm, hrg⟩ := hV.out.form
                subst hvf
                have hrm' : rc ≤ 9223372036854775807 := by unfold maxLen at hrm; omega
                replace hGk := hide (hGk.out.below SW hGk.out.lt)
                replace hBw := hide (hBw.out.mono SW)
                replace hTk := hide (hTk.out.below SW hTk.out.lt)
                replace hR1 := hide (hR1.out.below SW hR1.out.lt)
                replace hR2 := hide (hR2.out.below SW hR2.out.lt)
                replace hB : Hid (Below w.heap.size w w7) := hide (hB.out.trans (SW.mono hB.out.size))
                clear hE h61 KZ kk7 HPU HNO HOL HNE HRJ hRn cj GK G7 SW hV hVk
                try clear KZ0
                go_wp2_with fail
                obtain ⟨wo, hwo⟩ : ∃ wo, wo = wr := ⟨_, rfl⟩
                subst hwo
                go_loopw [14, 15] (fun v14 v15 wq => v14 = .int .i64 ee ∧ v15 = .int .i64 0 ∧ Hid (wq = w7)) (fun _ _ _ => 0)
                case atStart => exact ⟨rfl, rfl, hide rfl⟩
                case round =>
                  obtain ⟨rfl, rfl, hwq⟩ := hrel
                  have hwq := hwq.out
                  subst hwq
                  go_upto_region 17 with fail
                  have HN1 := hide (hBw.out.notCells hR1.out (by decide))
                  have HN2 := hide (hBw.out.notCells hR2.out (by decide))
                  have GK := hGk.out
                  have TK := hTk.out
                  have GR := hR1.out
                  have TR := hR2.out
                  refine wp_region_held (S := fun W4 => Keeps (fun k => k = w.heap.size + 1 ∨ k = w.heap.size + 2) wr W4) (by kernel_rfl) ?_
                  change wpAnyH _ _ _ _ _ _ _ _ (World.drew _)
                  have SW : Keeps (fun k => k = w.heap.size + 1 ∨ k = w.heap.size + 2) wr wr.drew := (Keeps.refl _ wr).drew
                  have SW0 : Keeps (fun k => k = w.heap.size + 1) wr wr.drew := (Keeps.refl _ wr).drew
                  refine wpAnyH_take (i := 0) (v := .agg (gdA W H (some ⟨gq, 0, none⟩) N gc)) rfl (by kernel_rfl) (by kernel_rfl) (by kernel_rfl) (fun _ _ _ h => h) (yieldsIf_load_mid (by rfl) 24 _ rfl w4.heap.size 0 (by rfl) (gdA W H (some ⟨gq, 0, none⟩) N gc).toList _ (fun W4 hW4 => (GK.keeps hW4 (by omega)).range) Try.underlying24 rfl (by exact size24)) SW ?_
                  go_simp
                  refine wpAnyH_take (i := 1) (v := .agg #[.int .i64 t, .int .i64 u]) rfl (by kernel_rfl) (by kernel_rfl) (by kernel_rfl) (fun _ _ _ h => h) (yieldsIf_load_mid (by rfl) 37 _ rfl (w2.heap.size + 1) 0 (by rfl) [.int .i64 t, .int .i64 u] _ (fun W4 hW4 => (TK.keeps hW4 (by omega)).range) Try.underlying37 rfl (by exact size37)) SW ?_
                  go_simp
                  refine wpAnyH_take (i := 2) (v := .int .i64 j) rfl (by kernel_rfl) (by kernel_rfl) (by kernel_rfl) (fun _ _ _ h => h) (Or.inl ⟨by rfl, ?_⟩) SW ?_
                  · intro W4 hW4
                    go_simp <;> first | done | rfl | (rw [IntKind.wrap_i64]; omega) | omega
                  go_simp
                  refine wpAnyH_take (i := 3) (v := .int .i64 ee) rfl (by kernel_rfl) (by kernel_rfl) (by kernel_rfl) (fun _ _ _ h => h) (Or.inl ⟨by rfl, ?_⟩) SW ?_
                  · intro W4 hW4
                    go_simp <;> first | done | rfl | (rw [IntKind.wrap_i64]; omega) | omega
                  go_simp
                  refine wpAnyH_ready (rs := [4]) (by kernel_rfl) (by simp) ?_
                  refine AllReadyH.cons rfl (fun K1 hK1 => ?_) AllReadyH.nil
                  refine wp_storeG (.tmp 4) (.tmp 84) rfl (w.heap.size + 1) rfl rfl GR ?_
                  intro w7 G7 kk7
                  refine hK1.out _ _ (SW.after kk7 (fun i _ e => .inl e)) (fun SW => ?_)
                  clear hK1 K1
                  go_simp
                  have T7 := TR.keeps (SW0.after kk7 (fun i _ e => e)) (by omega)
                  refine wpAnyH_ready (rs := [5]) (by kernel_rfl) (by simp) ?_
                  refine AllReadyH.cons rfl (fun K1 hK1 => ?_) AllReadyH.nil
                  refine wp_storeT (.tmp 5) (.tmp 85) rfl (w.heap.size + 2) rfl rfl T7 ?_
                  intro w8 T8 kk8
                  refine hK1.out _ _ (SW.after kk8 (fun i _ e => .inr e)) (fun SW => ?_)
                  clear hK1 K1
                  go_simp
                  refine wpAnyH_ready (rs := [6]) (by kernel_rfl) (by simp) ?_
                  refine AllReadyH.cons rfl (fun K1 hK1 => ?_) AllReadyH.nil
                  go_simp
                  refine hK1.out _ _ SW (fun SW => ?_)
                  clear hK1 K1
                  go_simp
                  refine wpAnyH_ready (rs := [7]) (by kernel_rfl) (by simp) ?_
                  refine AllReadyH.cons rfl (fun K1 hK1 => ?_) AllReadyH.nil
                  go_simp
                  refine hK1.out _ _ SW (fun SW => ?_)
                  clear hK1 K1
                  go_simp
                  refine wpAnyH_done (by kernel_rfl) ?_ _
                  have HG8 := hide (G7.keeps kk8 (by omega))
                  have HT8 := hide T8
                  have HX8 := hide (hBw.out.keeps SW (by rintro (e | e) <;> first | exact HN1.out e | exact HN2.out e))
                  have HB8 : Hid (Below w.heap.size w w8) := hide (hB.out.trans (SW.below hB.out.size (fun k hk e => by omega)))
                  clear GK TK GR TR T8 G7 T7 kk7 kk8 SW SW0
                  go_wp2_with fail
                  refine bodyPost_ret (results_play rfl _ _ (w.heap.size + 1) (w.heap.size + 2) rfl rfl HG8.out HT8.out rfl rfl) rfl ?_
                  rw [← HRE.out]
                  have q1 := hPR.out.t_
                  have q2 := hPR.out.u_
                  have q3 := hPR.out.m
                  have q4 := hPR.out.Z_
                  subst q1 q2 q3 q4
                  exact ⟨gq, gc, rfl, HX8.out, HB8.out⟩
            refine AllReadyH.cons rfl (fun K1 hK1 => ?_) AllReadyH.nil
            go_simp
            have KZ0 : Gd (wr.alloc (.cells (gdA 0 0 none 0 0) 24)).drew wr.heap.size 0 0 none 0 0 := Gd.new wr 0 0 none 0 0
            refine hK1.out _ _ (SW.alloc SW.size _) (fun SW => ?_)
            clear hK1 K1
            go_simp
            refine wpAnyH_ready (rs := [8]) (by kernel_rfl) (by simp) ?_
            refine AllReadyH.cons rfl (fun K1 hK1 => ?_) AllReadyH.nil
            go_simp
            refine (HPU.out _ SW).mono ?_
            rintro e w6 ⟨hb6, h6⟩
            have B6 := SW.trans (hb6.mono (by have := SW.size; omega))
            have h06 : wr.heap.size ≤ w6.heap.size := B6.size
            rcases h6 with ⟨h61, h62, xg, xc, rfl, hBx, hxl⟩ | ⟨h61, rfl⟩
            · have HBX := hide hBx
              clear hBx
              have KZ := KZ0.below hb6 KZ0.lt
              refine hK1.out _ _ B6 (fun SW => ?_)
              clear hK1 K1
              go_simp
              refine wpAnyH_take (i := 9) (v := .tuple #[.agg (gdA W H (some ⟨xg, 0, none⟩) N xc), .int .i64 (pt W H Z mI x.toNat : Nat), .int .i64 0]) rfl (by kernel_rfl) (by kernel_rfl) (by kernel_rfl) (fun _ _ _ h => h) (Or.inl ⟨by rfl, ?_⟩) SW ?_
              · intro W4 hW4
                go_simp <;> first | done | rfl | (rw [IntKind.wrap_i64]; omega) | omega
              go_simp
              refine wpAnyH_take (i := 10) (v := .agg (gdA W H (some ⟨xg, 0, none⟩) N xc)) rfl (by kernel_rfl) (by kernel_rfl) (by kernel_rfl) (fun _ _ _ h => h) (Or.inl ⟨by rfl, ?_⟩) SW ?_
              · intro W4 hW4
                go_simp <;> first | done | rfl | (rw [IntKind.wrap_i64]; omega) | omega
              go_simp
              refine wpAnyH_take (i := 11) (v := .int .i64 (pt W H Z mI x.toNat : Nat)) rfl (by kernel_rfl) (by kernel_rfl) (by kernel_rfl) (fun _ _ _ h => h) (Or.inl ⟨by rfl, ?_⟩) SW ?_
              · intro W4 hW4
                go_simp <;> first | done | rfl | (rw [IntKind.wrap_i64]; omega) | omega
              go_simp
              refine wpAnyH_take (i := 12) (v := .int .i64 0) rfl (by kernel_rfl) (by kernel_rfl) (by kernel_rfl) (fun _ _ _ h => h) (Or.inl ⟨by rfl, ?_⟩) SW ?_
              · intro W4 hW4
                go_simp <;> first | done | rfl | (rw [IntKind.wrap_i64]; omega) | omega
              go_simp
              refine wpAnyH_ready (rs := [14]) (by kernel_rfl) (by simp) ?_
              refine AllReadyH.cons rfl (fun K1 hK1 => ?_) AllReadyH.nil
              refine wp_storeG (.tmp 12) (.tmp 63) rfl (wr.heap.size) rfl rfl KZ ?_
              intro w7 G7 kk7
              have B7 := SW.trans ((kk7.mono (Y := fun q => wr.heap.size ≤ q) (fun q _ e => by omega)).below (B := wr.heap.size) (by have := SW.size; first | omega | (rw [World.size_alloc]; omega)) (fun q hq e => by omega))
              have HX7 := hide (HBX.out.keeps kk7 (HBX.out.notCells KZ (by decide)))
              refine hK1.out _ _ B7 (fun SW => ?_)
              clear B7
              clear hK1 K1
              go_simp
              refine wpAnyH_ready (rs := [15]) (by kernel_rfl) (by simp) ?_
              refine AllReadyH.cons rfl (fun K1 hK1 => ?_) AllReadyH.nil
              go_simp
              refine hK1.out _ _ SW (fun SW => ?_)
              clear hK1 K1
              go_simp
              refine wpAnyH_ready (rs := [16]) (by kernel_rfl) (by simp) ?_
              refine AllReadyH.cons rfl (fun K1 hK1 => ?_) AllReadyH.nil
              go_simp
              refine hK1.out _ _ SW (fun SW => ?_)
              clear hK1 K1
              go_simp
              refine wpAnyH_done (by kernel_rfl) ?_ _
              clear B6 hb6
              have hpt : pt W H Z mI x.toNat ≤ 100 := by
                rw [pt, gone]
                exact Nat.le_trans (goneU_len (List.prefix_refl _)) (by rw [HNN.out]; exact hN100)
              replace HOL := hide (HOL.out h61 HZL2.out)
              replace HNE := hide (HNE.out h61 HZL2.out hpt)
              obtain ⟨Y, hY⟩ : ∃ Y, pz W H Z mI x.toNat = Y := ⟨_, rfl⟩
              obtain ⟨k, hk⟩ : ∃ k, pt W H Z mI x.toNat = k := ⟨_, rfl⟩
              rw [hY] at HOL HX7
              rw [hY, hk] at HNE
              rw [hk] at hpt ⊢
              have hne0 : (0 : Int) < (B.length : Int) := by have := hPR.out.ne; omega
              obtain ⟨ra, rc, hvf, hrl, hrm, hrg⟩ := hV.out.form
              obtain ⟨rg, hrg⟩ := hrg (by intro e; rw [e] at hne0; simp at hne0)
              subst hrg
              subst hvf
              have hrm' : rc ≤ 9223372036854775807 := by unfold maxLen at hrm; omega
              have hbl : B.length ≤ 300 := by have := hPR.out.bl; omega
              have HK4 : Hid (w4.heap.size < wr.heap.size) := hide hGk.out.lt
              have hrgl : Hid (rg < wr.heap.size) := hide (by
                obtain ⟨vs, h1, -⟩ := hV.out
                exact (h1.lt rg rfl).2)
              replace hV := hide (hV.out.below SW)
              replace hGk := hide (hGk.out.below SW hGk.out.lt)
              replace hBw := hide (hBw.out.mono SW)
              replace hTk := hide (hTk.out.below SW hTk.out.lt)
              replace hR1 := hide (hR1.out.below SW hR1.out.lt)
              replace hR2 := hide (hR2.out.below SW hR2.out.lt)
              replace hB : Hid (Below w.heap.size w w7) := hide (hB.out.trans (SW.mono hB.out.size))
              have HG7 := hide G7
              clear hY hk h61 h62 KZ kk7 HPU HNO cj GK G7 SW hxl HBX
              try clear KZ0
              go_wp2_with fail
              obtain ⟨wo, hwo⟩ : ∃ wo, wo = wr := ⟨_, rfl⟩
              subst hwo
              go_loopw [14, 15] (fun v14 v15 wq => ∃ i : Nat, v15 = .int .i64 i ∧ i ≤ B.length ∧ ((v14 = .int .i64 0 ∧ Hid (∀ q, q < i → B.getD q [] ≠ Y)) ∨ (v14 = .int .i64 8 ∧ Hid (Y ∈ B))) ∧ Hid (Below w7.heap.size w7 wq)) (fun _ v _ => B.length - (intOf v).toNat)
              case atStart => exact ⟨0, rfl, by omega, .inl ⟨rfl, hide (fun q hq => absurd hq (by omega))⟩, hide (Below.refl _ _)⟩
              case round =>
                obtain ⟨i, rfl, hi, hor, hBq⟩ := hrel
                rcases hor with ⟨rfl, hnone⟩ | ⟨rfl, hin⟩
                · by_cases hil : i < B.length
                  · have hil' : (i : Int) < (B.length : Int) := by omega
                    obtain ⟨bg, bc, hbr, hbb⟩ := (hV.out.below hBq.out).at hil
                    rw [Nat.mul_comm 3 i] at hbr
                    have GQ := HG7.out.below hBq.out HG7.out.lt
                    have HSG : Hid (∀ W4, Below wr.heap.size wr W4 → _) := hide (fun W4 hb => SameGrid_any W H (some ⟨bg, 0, none⟩) (some ⟨xg, 0, none⟩) N bc xc (B.getD i []) Y W4 (hbb.mono hb).rd ((HX7.out.mono hBq.out).mono hb).rd)
                    obtain ⟨dd, hdd⟩ : ∃ dd, decide (B.getD i [] = Y) = dd := ⟨_, rfl⟩
                    rw [hdd] at HSG
                    have HDD := hide hdd
                    clear hdd hbb
                    go_upto_region 14 with fail
                    refine wp_region_held (S := fun W4 => Below wr.heap.size wr W4) (by kernel_rfl) ?_
                    change wpAnyH _ _ _ _ _ _ _ _ (World.drew _)
                    have SW : Below wr.heap.size wr wr.drew := (Below.refl _ wr).drew
                    refine wpAnyH_take (i := 0) (v := .slice (some ⟨rg, 0, none⟩) B.length rc) rfl (by kernel_rfl) (by kernel_rfl) (by kernel_rfl) (fun _ _ _ h => h) (Or.inl ⟨by rfl, ?_⟩) SW ?_
                    · intro W4 hW4
                      go_simp <;> first | done | rfl | (rw [IntKind.wrap_i64]; omega) | omega
                    go_simp
                    refine wpAnyH_take (i := 1) (v := .int .i64 i) rfl (by kernel_rfl) (by kernel_rfl) (by kernel_rfl) (fun _ _ _ h => h) (Or.inl ⟨by rfl, ?_⟩) SW ?_
                    · intro W4 hW4
                      go_simp <;> first | done | rfl | (rw [IntKind.wrap_i64]; omega) | omega
                    go_simp
                    refine wpAnyH_take (i := 2) (v := .pointer (some ⟨rg, i * 3, none⟩)) rfl (by kernel_rfl) (by kernel_rfl) (by kernel_rfl) (fun _ _ _ h => h) (Or.inl ⟨by rfl, ?_⟩) SW ?_
                    · intro W4 hW4
                      go_simp <;> first | done | rfl | (rw [IntKind.wrap_i64]; omega) | omega
                    go_simp
                    refine wpAnyH_take (i := 3) (v := .agg (gdA W H (some ⟨bg, 0, none⟩) N bc)) rfl (by kernel_rfl) (by kernel_rfl) (by kernel_rfl) (fun _ _ _ h => h) (yieldsIf_load_mid (by rfl) 24 _ rfl rg (i * 3) (by rfl) (gv W H N bg bc) _ (fun W4 hW4 => rangeAt_below hbr hW4) Try.underlying24 rfl (by exact size24)) SW ?_
                    go_simp
                    refine wpAnyH_take (i := 4) (v := .agg (gdA W H (some ⟨xg, 0, none⟩) N xc)) rfl (by kernel_rfl) (by kernel_rfl) (by kernel_rfl) (fun _ _ _ h => h) (yieldsIf_load_mid (by rfl) 24 _ rfl (wo.heap.size) 0 (by rfl) (gdA W H (some ⟨xg, 0, none⟩) N xc).toList _ (fun W4 hW4 => (GQ.below hW4 GQ.lt).range) Try.underlying24 rfl (by exact size24)) SW ?_
                    go_simp
                    refine wpAnyH_ready (rs := [5]) (by kernel_rfl) (by simp) ?_
                    refine AllReadyH.cons rfl (fun K1 hK1 => ?_) AllReadyH.nil
                    go_simp
                    refine (HSG.out _ SW).mono ?_
                    rintro e w9 ⟨rfl, hb9⟩
                    have B9 := SW.trans (hb9.mono (by have := SW.size; omega))
                    refine hK1.out _ _ B9 (fun SW => ?_)
                    clear B9 hb9
                    clear hK1 K1
                    go_simp
                    refine wpAnyH_done (by kernel_rfl) ?_ _
                    have HBq9 : Hid (Below w7.heap.size w7 w9) := hide (hBq.out.trans (SW.mono hBq.out.size))
                    clear SW GQ hbr
                    cases dd with
                    | true =>
                      go_wp2_with fail
                      have hin : B.getD i [] = Y := of_decide_eq_true HDD.out
                      exact ⟨⟨i + 1, rfl, by omega, .inr ⟨rfl, hide (by rw [← hin]; exact getD_memL hil)⟩, HBq9⟩, by simp only [intOf]; omega⟩
                    | false =>
                      go_wp2_with fail
                      have hnin : B.getD i [] ≠ Y := of_decide_eq_false HDD.out
                      exact ⟨⟨i + 1, rfl, by omega, .inl ⟨rfl, hide (fun q hq => by
                        by_cases e : q = i
                        · rw [e]; exact hnin
                        · exact hnone.out q (by omega))⟩, HBq9⟩, by simp only [intOf]; omega⟩
                  · obtain rfl : i = B.length := by omega
                    have hil' : ¬ (B.length : Int) < (B.length : Int) := by omega
                    have hnin : ¬ Y ∈ B := by
                      intro hY
                      obtain ⟨q, hq, e⟩ := List.getElem_of_mem hY
                      exact hnone.out q hq (by rw [← e]; simp [List.getD, hq])
                    have hpp := HNE.out hnin
                    have HR2 : Hid (runP W H (mvd W H s x).1 (L.drop (j + 1)) = RR) := hide (by
                      have e := hRn.out
                      rw [HRJ.out, if_pos hpp.1] at e
                      exact e)
                    have HPP := hide hpp.2
                    clear hpp hnin hnone
                    have GQ := HG7.out.below hBq.out HG7.out.lt
                    have GQL : Hid (rg < wo.heap.size) := hide (by have := hrgl.out; omega)
                    obtain ⟨wa, hwa⟩ : ∃ wa, wr.alloc (.cells (gdA W H (some ⟨xg, 0, none⟩) N xc) 24) = wa := ⟨_, rfl⟩
                    have BA : Below wr.heap.size wr wa := by rw [← hwa]; exact (Below.refl _ _).alloc (Nat.le_refl _) _
                    have VA := (hV.out.below hBq.out).below BA
                    have XA := (HX7.out.mono hBq.out).mono BA
                    have GA : Gd wa wr.heap.size W H (some ⟨xg, 0, none⟩) N xc := by rw [← hwa]; exact Gd.new wr W H _ N xc
                    have hcellA : ∀ q v, (gv W H N xg xc)[q]? = some v → wa.cell? (Addr.add ⟨wr.heap.size, 0, none⟩ q) = some v := fun q v hv => by
                      rw [Addr.add_mid]
                      exact GA.range q v hv
                    have hGvA : Gv wa W H N (gv W H N xg xc) [Y] := ⟨xg, xc, [], rfl, XA, rfl⟩
                    have hbase : w2.heap.size ≤ wa.heap.size := by have h1 := BA.size; have h2 := hBq.out.size; have h3 := hV.out; have h4 := HG7.out.lt; have h5 := hGk.out.lt; omega
                    have BW : Below w7.heap.size w7 wa := hBq.out.trans (BA.mono hBq.out.size)
                    have GA2 := HG7.out.below BW HG7.out.lt
                    replace hGk := hide (hGk.out.below BW hGk.out.lt)
                    replace hTk := hide (hTk.out.below BW hTk.out.lt)
                    replace hR1 := hide (hR1.out.below BW hR1.out.lt)
                    replace hR2 := hide (hR2.out.below BW hR2.out.lt)
                    replace hB : Hid (Below w.heap.size w wa) := hide (hB.out.trans (BW.mono hB.out.size))
                    have HXA := hide XA
                    have HVA := hide VA
                    have HGA2 := hide GA2
                    clear BW GA
                    go_upto_region 19 with (first
                      | (refine wpList_load_gd rfl (.tmp 12) rfl (wo.heap.size) rfl GQ ?_)
                      | (at_builtin; refine wpList_append_bs _ rfl _ _ rfl w2.heap.size W H N _ B rfl VA ⟨wr.heap.size, 0, none⟩ 1 1 (gv W H N xg xc) [Y] rfl rfl hcellA hGvA (by omega) hbase ?_; intro v' w8 hV8 hg8 hq8))
                    have hrb : w2.heap.size ≤ rg := hq8 rg rfl
                    have kk8 : Keeps (fun q => q = rg) wa w8 := keeps_grownS hg8
                    have hnk : w4.heap.size ≠ rg := fun e => hVk.out (by rw [e]; rfl)
                    have hnt : w2.heap.size + 1 ≠ rg := fun e => HVA.out.notT hTk.out (by decide) (by rw [e]; rfl)
                    have hnx : xg ≠ rg := fun e => apart HVA.out HXA.out (by rw [e]; rfl)
                    have G8 := HGA2.out.keeps kk8 (by have := GQL.out; omega)
                    have GK8 := hGk.out.keeps kk8 hnk
                    have HT8 := hide (hTk.out.keeps kk8 hnt)
                    have HR8 := hide (hR1.out.keeps kk8 (by omega))
                    have HU8 := hide (hR2.out.keeps kk8 (by omega))
                    have HX8 := hide (HXA.out.keeps kk8 hnx)
                    have HB8 : Hid (Below w.heap.size w w8) := hide (hB.out.trans (kk8.below hB.out.size (fun q hq e => by omega)))
                    have hV8k : Hid (v'.ownBlock ≠ some w4.heap.size) := hide (hV8.notG (by rw [List.length_append]; have := hPR.out.ne; simp; omega) GK8)
                    have HV8 := hide hV8
                    have h12k : Hid ((wo.heap.size) ≠ w4.heap.size) := hide (by have := HK4.out; omega)
                    clear hg8 hq8 kk8 hV8 VA XA GA2 hwa BA GQ hcellA hGvA hbase hVk
                    go_upto_region 20 with (first
                      | (refine wpList_load_gd rfl (.tmp 12) rfl (wo.heap.size) rfl G8 ?_)
                      | (refine wpList_store_gd rfl (.tmp 10) (.tmp 92) rfl w4.heap.size rfl rfl GK8 ?_; intro w9 G9 kk9))
                    have HG9 := hide G9
                    have HT9 := hide (HT8.out.keeps kk9 (by omega))
                    have HR9 := hide (HR8.out.keeps kk9 (by omega))
                    have HU9 := hide (HU8.out.keeps kk9 (by omega))
                    have HX9 := hide (HX8.out.keeps kk9 (HX8.out.notCells GK8 (by decide)))
                    have HV9 := hide (HV8.out.keepsC kk9 GK8 (by decide) hV8k.out)
                    have HB9 : Hid (Below w.heap.size w w9) := hide (HB8.out.trans (kk9.below HB8.out.size (fun q hq e => by omega)))
                    have HVK := hV8k
                    have htb := hPR.out.tb
                    have hub := hPR.out.ub
                    clear G8 GK8 kk9 G9
                    have h01 : tn = 0 ∨ tn = 1 := by omega
                    rcases h01 with rfl | rfl
                    · rw [if_pos rfl, if_pos rfl] at HPP
                      obtain ⟨tk, htk⟩ : ∃ tk, t + k = tk := ⟨_, rfl⟩
                      rw [htk] at HPP
                      have hsum : (t : Int) + (k : Int) = (tk : Int) := by omega
                      have htk9 : tk ≤ 200000 := by omega
                      have cT := HT9.out.cells.1
                      have fT := HT9.out.frozen 0
                      have kk10 := Keeps.set1 w9 (w2.heap.size + 1) 0 (.int .i64 (tk : Int))
                      have HT10 := hide (HT9.out.set0 (tk : Int))
                      have HV10 := hide (HV9.out.keepsC kk10 HT9.out (by decide) (HV9.out.notT HT9.out (by decide)))
                      have HG10 := hide (HG9.out.keeps kk10 (by omega))
                      have HX10 := hide (HX9.out.keeps kk10 (HX9.out.notCells HT9.out (by decide)))
                      have HR10 := hide (HR9.out.keeps kk10 (by omega))
                      have HU10 := hide (HU9.out.keeps kk10 (by omega))
                      have HB10 : Hid (Below w.heap.size w (w9.setCell ⟨w2.heap.size + 1, 0, none⟩ (.int .i64 (tk : Int)))) := hide (HB9.out.trans (kk10.below HB9.out.size (fun q hq e => by omega)))
                      clear htk kk10
                      go_wp2_with fail
                      exact ⟨⟨j + 1, _, Y, tk, u, B ++ [Y], xg, xc, rfl, by omega, HPP, HR2, HV10, HVK, HG10, HX10, HT10, HR10, HU10, HB10⟩, by simp only [intOf]; omega⟩
                    · rw [if_neg (show ¬ (1 : Nat) = 0 by decide), if_neg (show ¬ (1 : Nat) = 0 by decide)] at HPP
                      obtain ⟨tk, htk⟩ : ∃ tk, u + k = tk := ⟨_, rfl⟩
                      rw [htk] at HPP
                      have hsum : (u : Int) + (k : Int) = (tk : Int) := by omega
                      have htk9 : tk ≤ 200000 := by omega
                      have cT := HT9.out.cells.2
                      have fT := HT9.out.frozen 1
                      have kk10 := Keeps.set1 w9 (w2.heap.size + 1) 1 (.int .i64 (tk : Int))
                      have HT10 := hide (HT9.out.set1 (tk : Int))
                      have HV10 := hide (HV9.out.keepsC kk10 HT9.out (by decide) (HV9.out.notT HT9.out (by decide)))
                      have HG10 := hide (HG9.out.keeps kk10 (by omega))
                      have HX10 := hide (HX9.out.keeps kk10 (HX9.out.notCells HT9.out (by decide)))
                      have HR10 := hide (HR9.out.keeps kk10 (by omega))
                      have HU10 := hide (HU9.out.keeps kk10 (by omega))
                      have HB10 : Hid (Below w.heap.size w (w9.setCell ⟨w2.heap.size + 1, 1, none⟩ (.int .i64 (tk : Int)))) := hide (HB9.out.trans (kk10.below HB9.out.size (fun q hq e => by omega)))
                      clear htk kk10
                      go_wp2_with fail
                      exact ⟨⟨j + 1, _, Y, t, tk, B ++ [Y], xg, xc, rfl, by omega, HPP, HR2, HV10, HVK, HG10, HX10, HT10, HR10, HU10, HB10⟩, by simp only [intOf]; omega⟩
                · have HRE : Hid ((s, 8) = RR) := hide (by
                    have e := hRn.out
                    rw [HRJ.out, HOL.out hin.out, if_neg (show ¬ (8 : Nat) = 0 by decide)] at e
                    exact e)
                  replace hGk := hide (hGk.out.below hBq.out hGk.out.lt)
                  replace hBw := hide (hBw.out.mono hBq.out)
                  replace hTk := hide (hTk.out.below hBq.out hTk.out.lt)
                  replace hR1 := hide (hR1.out.below hBq.out hR1.out.lt)
                  replace hR2 := hide (hR2.out.below hBq.out hR2.out.lt)
                  replace hB : Hid (Below w.heap.size w wr) := hide (hB.out.trans (hBq.out.mono hB.out.size))
                  clear hRn HRJ
                  by_cases hil : i < B.length
                  · have hil' : (i : Int) < (B.length : Int) := by omega
                    go_upto_region 17 with fail
                    have HN1 := hide (hBw.out.notCells hR1.out (by decide))
                    have HN2 := hide (hBw.out.notCells hR2.out (by decide))
                    have GK := hGk.out
                    have TK := hTk.out
                    have GR := hR1.out
                    have TR := hR2.out
                    refine wp_region_held (S := fun W4 => Keeps (fun k => k = w.heap.size + 1 ∨ k = w.heap.size + 2) wr W4) (by kernel_rfl) ?_
                    change wpAnyH _ _ _ _ _ _ _ _ (World.drew _)
                    have SW : Keeps (fun k => k = w.heap.size + 1 ∨ k = w.heap.size + 2) wr wr.drew := (Keeps.refl _ wr).drew
                    have SW0 : Keeps (fun k => k = w.heap.size + 1) wr wr.drew := (Keeps.refl _ wr).drew
                    refine wpAnyH_take (i := 0) (v := .agg (gdA W H (some ⟨gq, 0, none⟩) N gc)) rfl (by kernel_rfl) (by kernel_rfl) (by kernel_rfl) (fun _ _ _ h => h) (yieldsIf_load_mid (by rfl) 24 _ rfl w4.heap.size 0 (by rfl) (gdA W H (some ⟨gq, 0, none⟩) N gc).toList _ (fun W4 hW4 => (GK.keeps hW4 (by omega)).range) Try.underlying24 rfl (by exact size24)) SW ?_
                    go_simp
                    refine wpAnyH_take (i := 1) (v := .agg #[.int .i64 t, .int .i64 u]) rfl (by kernel_rfl) (by kernel_rfl) (by kernel_rfl) (fun _ _ _ h => h) (yieldsIf_load_mid (by rfl) 37 _ rfl (w2.heap.size + 1) 0 (by rfl) [.int .i64 t, .int .i64 u] _ (fun W4 hW4 => (TK.keeps hW4 (by omega)).range) Try.underlying37 rfl (by exact size37)) SW ?_
                    go_simp
                    refine wpAnyH_take (i := 2) (v := .int .i64 j) rfl (by kernel_rfl) (by kernel_rfl) (by kernel_rfl) (fun _ _ _ h => h) (Or.inl ⟨by rfl, ?_⟩) SW ?_
                    · intro W4 hW4
                      go_simp <;> first | done | rfl | (rw [IntKind.wrap_i64]; omega) | omega
                    go_simp
                    refine wpAnyH_take (i := 3) (v := .int .i64 8) rfl (by kernel_rfl) (by kernel_rfl) (by kernel_rfl) (fun _ _ _ h => h) (Or.inl ⟨by rfl, ?_⟩) SW ?_
                    · intro W4 hW4
                      go_simp <;> first | done | rfl | (rw [IntKind.wrap_i64]; omega) | omega
                    go_simp
                    refine wpAnyH_ready (rs := [4]) (by kernel_rfl) (by simp) ?_
                    refine AllReadyH.cons rfl (fun K1 hK1 => ?_) AllReadyH.nil
                    refine wp_storeG (.tmp 4) (.tmp 84) rfl (w.heap.size + 1) rfl rfl GR ?_
                    intro w7 G7 kk7
                    refine hK1.out _ _ (SW.after kk7 (fun i _ e => .inl e)) (fun SW => ?_)
                    clear hK1 K1
                    go_simp
                    have T7 := TR.keeps (SW0.after kk7 (fun i _ e => e)) (by omega)
                    refine wpAnyH_ready (rs := [5]) (by kernel_rfl) (by simp) ?_
                    refine AllReadyH.cons rfl (fun K1 hK1 => ?_) AllReadyH.nil
                    refine wp_storeT (.tmp 5) (.tmp 85) rfl (w.heap.size + 2) rfl rfl T7 ?_
                    intro w8 T8 kk8
                    refine hK1.out _ _ (SW.after kk8 (fun i _ e => .inr e)) (fun SW => ?_)
                    clear hK1 K1
                    go_simp
                    refine wpAnyH_ready (rs := [6]) (by kernel_rfl) (by simp) ?_
                    refine AllReadyH.cons rfl (fun K1 hK1 => ?_) AllReadyH.nil
                    go_simp
                    refine hK1.out _ _ SW (fun SW => ?_)
                    clear hK1 K1
                    go_simp
                    refine wpAnyH_ready (rs := [7]) (by kernel_rfl) (by simp) ?_
                    refine AllReadyH.cons rfl (fun K1 hK1 => ?_) AllReadyH.nil
                    go_simp
                    refine hK1.out _ _ SW (fun SW => ?_)
                    clear hK1 K1
                    go_simp
                    refine wpAnyH_done (by kernel_rfl) ?_ _
                    have HG8 := hide (G7.keeps kk8 (by omega))
                    have HT8 := hide T8
                    have HX8 := hide (hBw.out.keeps SW (by rintro (e | e) <;> first | exact HN1.out e | exact HN2.out e))
                    have HB8 : Hid (Below w.heap.size w w8) := hide (hB.out.trans (SW.below hB.out.size (fun k hk e => by omega)))
                    clear GK TK GR TR T8 G7 T7 kk7 kk8 SW SW0
                    go_wp2_with fail
                    refine bodyPost_ret (results_play rfl _ _ (w.heap.size + 1) (w.heap.size + 2) rfl rfl HG8.out HT8.out rfl rfl) rfl ?_
                    rw [← HRE.out]
                    have q1 := hPR.out.t_
                    have q2 := hPR.out.u_
                    have q3 := hPR.out.m
                    have q4 := hPR.out.Z_
                    subst q1 q2 q3 q4
                    exact ⟨gq, gc, rfl, HX8.out, HB8.out⟩
                  · have hil' : ¬ (i : Int) < (B.length : Int) := by omega
                    go_upto_region 17 with fail
                    have HN1 := hide (hBw.out.notCells hR1.out (by decide))
                    have HN2 := hide (hBw.out.notCells hR2.out (by decide))
                    have GK := hGk.out
                    have TK := hTk.out
                    have GR := hR1.out
                    have TR := hR2.out
                    refine wp_region_held (S := fun W4 => Keeps (fun k => k = w.heap.size + 1 ∨ k = w.heap.size + 2) wr W4) (by kernel_rfl) ?_
                    change wpAnyH _ _ _ _ _ _ _ _ (World.drew _)
                    have SW : Keeps (fun k => k = w.heap.size + 1 ∨ k = w.heap.size + 2) wr wr.drew := (Keeps.refl _ wr).drew
                    have SW0 : Keeps (fun k => k = w.heap.size + 1) wr wr.drew := (Keeps.refl _ wr).drew
                    refine wpAnyH_take (i := 0) (v := .agg (gdA W H (some ⟨gq, 0, none⟩) N gc)) rfl (by kernel_rfl) (by kernel_rfl) (by kernel_rfl) (fun _ _ _ h => h) (yieldsIf_load_mid (by rfl) 24 _ rfl w4.heap.size 0 (by rfl) (gdA W H (some ⟨gq, 0, none⟩) N gc).toList _ (fun W4 hW4 => (GK.keeps hW4 (by omega)).range) Try.underlying24 rfl (by exact size24)) SW ?_
                    go_simp
                    refine wpAnyH_take (i := 1) (v := .agg #[.int .i64 t, .int .i64 u]) rfl (by kernel_rfl) (by kernel_rfl) (by kernel_rfl) (fun _ _ _ h => h) (yieldsIf_load_mid (by rfl) 37 _ rfl (w2.heap.size + 1) 0 (by rfl) [.int .i64 t, .int .i64 u] _ (fun W4 hW4 => (TK.keeps hW4 (by omega)).range) Try.underlying37 rfl (by exact size37)) SW ?_
                    go_simp
                    refine wpAnyH_take (i := 2) (v := .int .i64 j) rfl (by kernel_rfl) (by kernel_rfl) (by kernel_rfl) (fun _ _ _ h => h) (Or.inl ⟨by rfl, ?_⟩) SW ?_
                    · intro W4 hW4
                      go_simp <;> first | done | rfl | (rw [IntKind.wrap_i64]; omega) | omega
                    go_simp
                    refine wpAnyH_take (i := 3) (v := .int .i64 8) rfl (by kernel_rfl) (by kernel_rfl) (by kernel_rfl) (fun _ _ _ h => h) (Or.inl ⟨by rfl, ?_⟩) SW ?_
                    · intro W4 hW4
                      go_simp <;> first | done | rfl | (rw [IntKind.wrap_i64]; omega) | omega
                    go_simp
                    refine wpAnyH_ready (rs := [4]) (by kernel_rfl) (by simp) ?_
                    refine AllReadyH.cons rfl (fun K1 hK1 => ?_) AllReadyH.nil
                    refine wp_storeG (.tmp 4) (.tmp 84) rfl (w.heap.size + 1) rfl rfl GR ?_
                    intro w7 G7 kk7
                    refine hK1.out _ _ (SW.after kk7 (fun i _ e => .inl e)) (fun SW => ?_)
                    clear hK1 K1
                    go_simp
                    have T7 := TR.keeps (SW0.after kk7 (fun i _ e => e)) (by omega)
                    refine wpAnyH_ready (rs := [5]) (by kernel_rfl) (by simp) ?_
                    refine AllReadyH.cons rfl (fun K1 hK1 => ?_) AllReadyH.nil
                    refine wp_storeT (.tmp 5) (.tmp 85) rfl (w.heap.size + 2) rfl rfl T7 ?_
                    intro w8 T8 kk8
                    refine hK1.out _ _ (SW.after kk8 (fun i _ e => .inr e)) (fun SW => ?_)
                    clear hK1 K1
                    go_simp
                    refine wpAnyH_ready (rs := [6]) (by kernel_rfl) (by simp) ?_
                    refine AllReadyH.cons rfl (fun K1 hK1 => ?_) AllReadyH.nil
                    go_simp
                    refine hK1.out _ _ SW (fun SW => ?_)
                    clear hK1 K1
                    go_simp
                    refine wpAnyH_ready (rs := [7]) (by kernel_rfl) (by simp) ?_
                    refine AllReadyH.cons rfl (fun K1 hK1 => ?_) AllReadyH.nil
                    go_simp
                    refine hK1.out _ _ SW (fun SW => ?_)
                    clear hK1 K1
                    go_simp
                    refine wpAnyH_done (by kernel_rfl) ?_ _
                    have HG8 := hide (G7.keeps kk8 (by omega))
                    have HT8 := hide T8
                    have HX8 := hide (hBw.out.keeps SW (by rintro (e | e) <;> first | exact HN1.out e | exact HN2.out e))
                    have HB8 : Hid (Below w.heap.size w w8) := hide (hB.out.trans (SW.below hB.out.size (fun k hk e => by omega)))
                    clear GK TK GR TR T8 G7 T7 kk7 kk8 SW SW0
                    go_wp2_with fail
                    refine bodyPost_ret (results_play rfl _ _ (w.heap.size + 1) (w.heap.size + 2) rfl rfl HG8.out HT8.out rfl rfl) rfl ?_
                    rw [← HRE.out]
                    have q1 := hPR.out.t_
                    have q2 := hPR.out.u_
                    have q3 := hPR.out.m
                    have q4 := hPR.out.Z_
                    subst q1 q2 q3 q4
                    exact ⟨gq, gc, rfl, HX8.out, HB8.out⟩
            · have KZ := KZ0.below hb6 KZ0.lt
              refine hK1.out _ _ B6 (fun SW => ?_)
              clear hK1 K1
              go_simp
              refine wpAnyH_take (i := 9) (v := .tuple #[.agg (gdA 0 0 none 0 0), .int .i64 0, .int .i64 (pE W H Z mI x : Nat)]) rfl (by kernel_rfl) (by kernel_rfl) (by kernel_rfl) (fun _ _ _ h => h) (Or.inl ⟨by rfl, ?_⟩) SW ?_
              · intro W4 hW4
                go_simp <;> first | done | rfl | (rw [IntKind.wrap_i64]; omega) | omega
              go_simp
              refine wpAnyH_take (i := 10) (v := .agg (gdA 0 0 none 0 0)) rfl (by kernel_rfl) (by kernel_rfl) (by kernel_rfl) (fun _ _ _ h => h) (Or.inl ⟨by rfl, ?_⟩) SW ?_
              · intro W4 hW4
                go_simp <;> first | done | rfl | (rw [IntKind.wrap_i64]; omega) | omega
              go_simp
              refine wpAnyH_take (i := 11) (v := .int .i64 0) rfl (by kernel_rfl) (by kernel_rfl) (by kernel_rfl) (fun _ _ _ h => h) (Or.inl ⟨by rfl, ?_⟩) SW ?_
              · intro W4 hW4
                go_simp <;> first | done | rfl | (rw [IntKind.wrap_i64]; omega) | omega
              go_simp
              refine wpAnyH_take (i := 12) (v := .int .i64 (pE W H Z mI x : Nat)) rfl (by kernel_rfl) (by kernel_rfl) (by kernel_rfl) (fun _ _ _ h => h) (Or.inl ⟨by rfl, ?_⟩) SW ?_
              · intro W4 hW4
                go_simp <;> first | done | rfl | (rw [IntKind.wrap_i64]; omega) | omega
              go_simp
              refine wpAnyH_ready (rs := [14]) (by kernel_rfl) (by simp) ?_
              refine AllReadyH.cons rfl (fun K1 hK1 => ?_) AllReadyH.nil
              refine wp_storeG (.tmp 12) (.tmp 63) rfl (wr.heap.size) rfl rfl KZ ?_
              intro w7 G7 kk7
              have B7 := SW.trans ((kk7.mono (Y := fun q => wr.heap.size ≤ q) (fun q _ e => by omega)).below (B := wr.heap.size) (by have := SW.size; first | omega | (rw [World.size_alloc]; omega)) (fun q hq e => by omega))
              refine hK1.out _ _ B7 (fun SW => ?_)
              clear B7
              clear hK1 K1
              go_simp
              refine wpAnyH_ready (rs := [15]) (by kernel_rfl) (by simp) ?_
              refine AllReadyH.cons rfl (fun K1 hK1 => ?_) AllReadyH.nil
              go_simp
              refine hK1.out _ _ SW (fun SW => ?_)
              clear hK1 K1
              go_simp
              refine wpAnyH_ready (rs := [16]) (by kernel_rfl) (by simp) ?_
              refine AllReadyH.cons rfl (fun K1 hK1 => ?_) AllReadyH.nil
              go_simp
              refine hK1.out _ _ SW (fun SW => ?_)
              clear hK1 K1
              go_simp
              refine wpAnyH_done (by kernel_rfl) ?_ _
              clear B6 hb6
              have hee : pE W H Z mI x ≠ 0 := h61
              have HRE : Hid ((s, pE W H Z mI x) = RR) := hide (by
                have e := hRn.out
                rw [HRJ.out, HNO.out hee, if_neg hee] at e
                exact e)
              obtain ⟨ee, hE⟩ : ∃ ee, pE W H Z mI x = ee := ⟨_, rfl⟩
              rw [hE] at HRE hee ⊢
              have hne : ((ee : Int) == 0) = false := by simpa using hee
              have hne2 : ((ee : Int) != 0) = true := by simpa using hee
              have hne0 : (0 : Int) < (B.length : Int) := by have := hPR.out.ne; omega
              obtain ⟨ra, rc, hvf, hrl, hrm, hrg⟩ := hV.out.form
              subst hvf
              have hrm' : rc ≤ 9223372036854775807 := by unfold maxLen at hrm; omega
              replace hGk := hide (hGk.out.below SW hGk.out.lt)
              replace hBw := hide (hBw.out.mono SW)
              replace hTk := hide (hTk.out.below SW hTk.out.lt)
              replace hR1 := hide (hR1.out.below SW hR1.out.lt)
              replace hR2 := hide (hR2.out.below SW hR2.out.lt)
              replace hB : Hid (Below w.heap.size w w7) := hide (hB.out.trans (SW.mono hB.out.size))
              clear hE h61 KZ kk7 HPU HNO HOL HNE HRJ hRn cj GK G7 SW hV hVk
              try clear KZ0
              go_wp2_with fail
              obtain ⟨wo, hwo⟩ : ∃ wo, wo = wr := ⟨_, rfl⟩
              subst hwo
              go_loopw [14, 15] (fun v14 v15 wq => v14 = .int .i64 ee ∧ v15 = .int .i64 0 ∧ Hid (wq = w7)) (fun _ _ _ => 0)
              case atStart => exact ⟨rfl, rfl, hide rfl⟩
              case round =>
                obtain ⟨rfl, rfl, hwq⟩ := hrel
                have hwq := hwq.out
                subst hwq
                go_upto_region 17 with fail
                have HN1 := hide (hBw.out.notCells hR1.out (by decide))
                have HN2 := hide (hBw.out.notCells hR2.out (by decide))
                have GK := hGk.out
                have TK := hTk.out
                have GR := hR1.out
                have TR := hR2.out
                refine wp_region_held (S := fun W4 => Keeps (fun k => k = w.heap.size + 1 ∨ k = w.heap.size + 2) wr W4) (by kernel_rfl) ?_
                change wpAnyH _ _ _ _ _ _ _ _ (World.drew _)
                have SW : Keeps (fun k => k = w.heap.size + 1 ∨ k = w.heap.size + 2) wr wr.drew := (Keeps.refl _ wr).drew
                have SW0 : Keeps (fun k => k = w.heap.size + 1) wr wr.drew := (Keeps.refl _ wr).drew
                refine wpAnyH_take (i := 0) (v := .agg (gdA W H (some ⟨gq, 0, none⟩) N gc)) rfl (by kernel_rfl) (by kernel_rfl) (by kernel_rfl) (fun _ _ _ h => h) (yieldsIf_load_mid (by rfl) 24 _ rfl w4.heap.size 0 (by rfl) (gdA W H (some ⟨gq, 0, none⟩) N gc).toList _ (fun W4 hW4 => (GK.keeps hW4 (by omega)).range) Try.underlying24 rfl (by exact size24)) SW ?_
                go_simp
                refine wpAnyH_take (i := 1) (v := .agg #[.int .i64 t, .int .i64 u]) rfl (by kernel_rfl) (by kernel_rfl) (by kernel_rfl) (fun _ _ _ h => h) (yieldsIf_load_mid (by rfl) 37 _ rfl (w2.heap.size + 1) 0 (by rfl) [.int .i64 t, .int .i64 u] _ (fun W4 hW4 => (TK.keeps hW4 (by omega)).range) Try.underlying37 rfl (by exact size37)) SW ?_
                go_simp
                refine wpAnyH_take (i := 2) (v := .int .i64 j) rfl (by kernel_rfl) (by kernel_rfl) (by kernel_rfl) (fun _ _ _ h => h) (Or.inl ⟨by rfl, ?_⟩) SW ?_
                · intro W4 hW4
                  go_simp <;> first | done | rfl | (rw [IntKind.wrap_i64]; omega) | omega
                go_simp
                refine wpAnyH_take (i := 3) (v := .int .i64 ee) rfl (by kernel_rfl) (by kernel_rfl) (by kernel_rfl) (fun _ _ _ h => h) (Or.inl ⟨by rfl, ?_⟩) SW ?_
                · intro W4 hW4
                  go_simp <;> first | done | rfl | (rw [IntKind.wrap_i64]; omega) | omega
                go_simp
                refine wpAnyH_ready (rs := [4]) (by kernel_rfl) (by simp) ?_
                refine AllReadyH.cons rfl (fun K1 hK1 => ?_) AllReadyH.nil
                refine wp_storeG (.tmp 4) (.tmp 84) rfl (w.heap.size + 1) rfl rfl GR ?_
                intro w7 G7 kk7
                refine hK1.out _ _ (SW.after kk7 (fun i _ e => .inl e)) (fun SW => ?_)
                clear hK1 K1
                go_simp
                have T7 := TR.keeps (SW0.after kk7 (fun i _ e => e)) (by omega)
                refine wpAnyH_ready (rs := [5]) (by kernel_rfl) (by simp) ?_
                refine AllReadyH.cons rfl (fun K1 hK1 => ?_) AllReadyH.nil
                refine wp_storeT (.tmp 5) (.tmp 85) rfl (w.heap.size + 2) rfl rfl T7 ?_
                intro w8 T8 kk8
                refine hK1.out _ _ (SW.after kk8 (fun i _ e => .inr e)) (fun SW => ?_)
                clear hK1 K1
                go_simp
                refine wpAnyH_ready (rs := [6]) (by kernel_rfl) (by simp) ?_
                refine AllReadyH.cons rfl (fun K1 hK1 => ?_) AllReadyH.nil
                go_simp
                refine hK1.out _ _ SW (fun SW => ?_)
                clear hK1 K1
                go_simp
                refine wpAnyH_ready (rs := [7]) (by kernel_rfl) (by simp) ?_
                refine AllReadyH.cons rfl (fun K1 hK1 => ?_) AllReadyH.nil
                go_simp
                refine hK1.out _ _ SW (fun SW => ?_)
                clear hK1 K1
                go_simp
                refine wpAnyH_done (by kernel_rfl) ?_ _
                have HG8 := hide (G7.keeps kk8 (by omega))
                have HT8 := hide T8
                have HX8 := hide (hBw.out.keeps SW (by rintro (e | e) <;> first | exact HN1.out e | exact HN2.out e))
                have HB8 : Hid (Below w.heap.size w w8) := hide (hB.out.trans (SW.below hB.out.size (fun k hk e => by omega)))
                clear GK TK GR TR T8 G7 T7 kk7 kk8 SW SW0
                go_wp2_with fail
                refine bodyPost_ret (results_play rfl _ _ (w.heap.size + 1) (w.heap.size + 2) rfl rfl HG8.out HT8.out rfl rfl) rfl ?_
                rw [← HRE.out]
                have q1 := hPR.out.t_
                have q2 := hPR.out.u_
                have q3 := hPR.out.m
                have q4 := hPR.out.Z_
                subst q1 q2 q3 q4
                exact ⟨gq, gc, rfl, HX8.out, HB8.out⟩
      · have h2' : ¬ (2 : Int) ≤ (j : Int) := by omega
        have hq : Hid (qof L j ≠ 2) := hide (fun e => h2 (hlt2.1 e).1)
        clear hlt2 hcell
        by_cases hx : L.getD j 0 = -1
        · have hpp := hPR.out.pass hx hq.out
          have HR2 : Hid (runP W H (mvd W H s (L.getD j 0)).1 (L.drop (j + 1)) = RR) := hide (by
            have e := hRn.out
            rw [HRJ.out, if_pos hpp.1] at e
            exact e)
          have HPP := hide hpp.2
          rw [hx] at cj
          clear hpp hx
          go_wp2_with fail
          exact ⟨⟨j + 1, _, Z, t, u, B, gq, gc, rfl, by omega, HPP, HR2, hV, hVk, hGk, hBw, hTk, hR1, hR2, hB⟩, by simp only [intOf]; omega⟩
        · have HX := hide hx
          have HZL2 : Hid (Z.length = N) := hide hBw.out.rd.len
          obtain ⟨tn, htn⟩ : ∃ tn, j % 2 = tn := ⟨_, rfl⟩
          have htn1 : tn ≤ 1 := by omega
          have hrem : Int.tmod (j : Int) 2 = (tn : Int) := by rw [Int.tmod_eq_emod_of_nonneg (by omega)]; omega
          have HTN := hide htn
          have HPU : Hid (∀ W4, Below wr.heap.size wr W4 → Calls Try.prog 16 #[.agg (gdA W H (some ⟨gq, 0, none⟩) N gc), .int .i64 ((1 + tn : Nat) : Int), .int .i64 (L.getD j 0)] W4 (PutIs W H N Z (1 + tn) (L.getD j 0) W4)) := hide (fun W4 hb => HPS.out gq gc Z (1 + tn) (L.getD j 0) W4 (by omega) (hBw.out.mono hb))
          obtain ⟨mI, hmI⟩ : ∃ mI : Nat, 1 + tn = mI := ⟨_, rfl⟩
          have hmi : 1 + (tn : Int) = (mI : Int) := by omega
          have HMI := hide hmI
          rw [hmI] at HPU
          have HNO := hide (hPR.out.no hx hq.out)
          have HOL := hide (hPR.out.old HNN.out hx hq.out)
          have HNE := hide (hPR.out.new HNN.out hx hq.out)
          rw [htn, hmI] at HNO HOL HNE
          obtain ⟨x, hxx⟩ : ∃ x, L.getD j 0 = x := ⟨_, rfl⟩
          rw [hxx] at cj hx HPU HNO HOL HNE HRJ
          have hxb : (x == -1) = false := by simpa using hx
          clear htn hmI hxx hx
          go_upto_region 10 with fail
          have GK := hGk.out
          refine wp_region_held (S := fun W4 => Below wr.heap.size wr W4) (by kernel_rfl) ?_
          change wpAnyH _ _ _ _ _ _ _ _ (World.drew _)
          have SW : Below wr.heap.size wr wr.drew := (Below.refl _ wr).drew
          have hdr : wr.drew.heap.size = wr.heap.size := rfl
          refine wpAnyH_take (i := 0) (v := .agg (gdA W H (some ⟨gq, 0, none⟩) N gc)) rfl (by kernel_rfl) (by kernel_rfl) (by kernel_rfl) (fun _ _ _ h => h) (yieldsIf_load_mid (by rfl) 24 _ rfl w4.heap.size 0 (by rfl) (gdA W H (some ⟨gq, 0, none⟩) N gc).toList _ (fun W4 hW4 => (GK.below hW4 GK.lt).range) Try.underlying24 rfl (by exact size24)) SW ?_
          go_simp
          refine wpAnyH_take (i := 1) (v := .int .i64 j) rfl (by kernel_rfl) (by kernel_rfl) (by kernel_rfl) (fun _ _ _ h => h) (Or.inl ⟨by rfl, ?_⟩) SW ?_
          · intro W4 hW4
            go_simp <;> first | done | rfl | (rw [IntKind.wrap_i64]; omega) | omega
          go_simp
          refine wpAnyH_take (i := 2) (v := .int .i64 tn) rfl (by kernel_rfl) (by kernel_rfl) (by kernel_rfl) (fun _ _ _ h => h) (Or.inl ⟨by rfl, ?_⟩) SW ?_
          · intro W4 hW4
            go_simp <;> first | done | rfl | (rw [IntKind.wrap_i64]; omega) | omega
          go_simp
          refine wpAnyH_take (i := 3) (v := .int .i64 mI) rfl (by kernel_rfl) (by kernel_rfl) (by kernel_rfl) (fun _ _ _ h => h) (Or.inl ⟨by rfl, ?_⟩) SW ?_
          · intro W4 hW4
            go_simp <;> first | done | rfl | (rw [IntKind.wrap_i64]; omega) | omega
          go_simp
          refine wpAnyH_take (i := 4) (v := .slice (some ⟨lb, lo, none⟩) ln lc) rfl (by kernel_rfl) (by kernel_rfl) (by kernel_rfl) (fun _ _ _ h => h) (Or.inl ⟨by rfl, ?_⟩) SW ?_
          · intro W4 hW4
            go_simp <;> first | done | rfl | (rw [IntKind.wrap_i64]; omega) | omega
          go_simp
          refine wpAnyH_take (i := 5) (v := .int .i64 j) rfl (by kernel_rfl) (by kernel_rfl) (by kernel_rfl) (fun _ _ _ h => h) (Or.inl ⟨by rfl, ?_⟩) SW ?_
          · intro W4 hW4
            go_simp <;> first | done | rfl | (rw [IntKind.wrap_i64]; omega) | omega
          go_simp
          refine wpAnyH_take (i := 6) (v := .pointer (some ⟨lb, lo + j, none⟩)) rfl (by kernel_rfl) (by kernel_rfl) (by kernel_rfl) (fun _ _ _ h => h) (Or.inl ⟨by rfl, ?_⟩) SW ?_
          · intro W4 hW4
            go_simp <;> first | done | rfl | (rw [IntKind.wrap_i64]; omega) | omega
          go_simp
          refine wpAnyH_take (i := 7) (v := .int .i64 x) rfl (by kernel_rfl) (by kernel_rfl) (by kernel_rfl) (fun _ _ _ h => h) (Or.inl ⟨by rfl, ?_⟩) SW ?_
          · intro W4 hW4
            have hcell := (cell_below cj hW4)
            go_simp <;> first | done | rfl | (rw [IntKind.wrap_i64]; omega) | omega
          go_simp
          refine wpAnyH_ready (rs := [8, 13]) (by kernel_rfl) (by simp) ?_
          refine AllReadyH.cons rfl (fun K1 hK1 => ?_) ?_
          · go_simp
            refine (HPU.out _ SW).mono ?_
            rintro e w6 ⟨hb6, h6⟩
            have B6 := SW.trans (hb6.mono (by have := SW.size; omega))
            have h06 : wr.heap.size ≤ w6.heap.size := B6.size
            rcases h6 with ⟨h61, h62, xg, xc, rfl, hBx, hxl⟩ | ⟨h61, rfl⟩
            · have HBX := hide hBx
              clear hBx
              refine hK1.out _ _ B6 (fun SW => ?_)
              clear hK1 K1
              go_simp
              refine wpAnyH_take (i := 9) (v := .tuple #[.agg (gdA W H (some ⟨xg, 0, none⟩) N xc), .int .i64 (pt W H Z mI x.toNat : Nat), .int .i64 0]) rfl (by kernel_rfl) (by kernel_rfl) (by kernel_rfl) (fun _ _ _ h => h) (Or.inl ⟨by rfl, ?_⟩) SW ?_
              · intro W4 hW4
                go_simp <;> first | done | rfl | (rw [IntKind.wrap_i64]; omega) | omega
              go_simp
              refine wpAnyH_take (i := 10) (v := .agg (gdA W H (some ⟨xg, 0, none⟩) N xc)) rfl (by kernel_rfl) (by kernel_rfl) (by kernel_rfl) (fun _ _ _ h => h) (Or.inl ⟨by rfl, ?_⟩) SW ?_
              · intro W4 hW4
                go_simp <;> first | done | rfl | (rw [IntKind.wrap_i64]; omega) | omega
              go_simp
              refine wpAnyH_take (i := 11) (v := .int .i64 (pt W H Z mI x.toNat : Nat)) rfl (by kernel_rfl) (by kernel_rfl) (by kernel_rfl) (fun _ _ _ h => h) (Or.inl ⟨by rfl, ?_⟩) SW ?_
              · intro W4 hW4
                go_simp <;> first | done | rfl | (rw [IntKind.wrap_i64]; omega) | omega
              go_simp
              refine wpAnyH_take (i := 12) (v := .int .i64 0) rfl (by kernel_rfl) (by kernel_rfl) (by kernel_rfl) (fun _ _ _ h => h) (Or.inl ⟨by rfl, ?_⟩) SW ?_
              · intro W4 hW4
                go_simp <;> first | done | rfl | (rw [IntKind.wrap_i64]; omega) | omega
              go_simp
              refine wpAnyH_ready (rs := [13]) (by kernel_rfl) (by simp) ?_
              refine AllReadyH.cons rfl (fun K1 hK1 => ?_) AllReadyH.nil
              go_simp
              have KZ := Gd.new w6 0 0 none 0 0
              have HBX := hide (HBX.out.mono ((Below.refl _ w6).alloc (Nat.le_refl _) (.cells (gdA 0 0 none 0 0) 24)))
              refine hK1.out _ _ (SW.alloc SW.size _) (fun SW => ?_)
              clear hK1 K1
              go_simp
              refine wpAnyH_ready (rs := [14]) (by kernel_rfl) (by simp) ?_
              refine AllReadyH.cons rfl (fun K1 hK1 => ?_) AllReadyH.nil
              refine wp_storeG (.tmp 12) (.tmp 63) rfl (w6.heap.size) rfl rfl KZ ?_
              intro w7 G7 kk7
              have B7 := SW.trans ((kk7.mono (Y := fun q => wr.heap.size ≤ q) (fun q _ e => by omega)).below (B := wr.heap.size) (by have := SW.size; first | omega | (rw [World.size_alloc]; omega)) (fun q hq e => by omega))
              have HX7 := hide (HBX.out.keeps kk7 (HBX.out.notCells KZ (by decide)))
              refine hK1.out _ _ B7 (fun SW => ?_)
              clear B7
              clear hK1 K1
              go_simp
              refine wpAnyH_ready (rs := [15]) (by kernel_rfl) (by simp) ?_
              refine AllReadyH.cons rfl (fun K1 hK1 => ?_) AllReadyH.nil
              go_simp
              refine hK1.out _ _ SW (fun SW => ?_)
              clear hK1 K1
              go_simp
              refine wpAnyH_ready (rs := [16]) (by kernel_rfl) (by simp) ?_
              refine AllReadyH.cons rfl (fun K1 hK1 => ?_) AllReadyH.nil
              go_simp
              refine hK1.out _ _ SW (fun SW => ?_)
              clear hK1 K1
              go_simp
              refine wpAnyH_done (by kernel_rfl) ?_ _
              clear B6 hb6
              have hpt : pt W H Z mI x.toNat ≤ 100 := by
                rw [pt, gone]
                exact Nat.le_trans (goneU_len (List.prefix_refl _)) (by rw [HNN.out]; exact hN100)
              replace HOL := hide (HOL.out h61 HZL2.out)
              replace HNE := hide (HNE.out h61 HZL2.out hpt)
              obtain ⟨Y, hY⟩ : ∃ Y, pz W H Z mI x.toNat = Y := ⟨_, rfl⟩
              obtain ⟨k, hk⟩ : ∃ k, pt W H Z mI x.toNat = k := ⟨_, rfl⟩
              rw [hY] at HOL HX7
              rw [hY, hk] at HNE
              rw [hk] at hpt ⊢
              have hne0 : (0 : Int) < (B.length : Int) := by have := hPR.out.ne; omega
              obtain ⟨ra, rc, hvf, hrl, hrm, hrg⟩ := hV.out.form
              obtain ⟨rg, hrg⟩ := hrg (by intro e; rw [e] at hne0; simp at hne0)
              subst hrg
              subst hvf
              have hrm' : rc ≤ 9223372036854775807 := by unfold maxLen at hrm; omega
              have hbl : B.length ≤ 300 := by have := hPR.out.bl; omega
              have HK4 : Hid (w4.heap.size < wr.heap.size) := hide hGk.out.lt
              have hrgl : Hid (rg < wr.heap.size) := hide (by
                obtain ⟨vs, h1, -⟩ := hV.out
                exact (h1.lt rg rfl).2)
              replace hV := hide (hV.out.below SW)
              replace hGk := hide (hGk.out.below SW hGk.out.lt)
              replace hBw := hide (hBw.out.mono SW)
              replace hTk := hide (hTk.out.below SW hTk.out.lt)
              replace hR1 := hide (hR1.out.below SW hR1.out.lt)
              replace hR2 := hide (hR2.out.below SW hR2.out.lt)
              replace hB : Hid (Below w.heap.size w w7) := hide (hB.out.trans (SW.mono hB.out.size))
              have HG7 := hide G7
              clear hY hk h61 h62 KZ kk7 HPU HNO cj GK G7 SW hxl HBX
              try clear KZ0
              go_wp2_with fail
              obtain ⟨wo, hwo⟩ : ∃ wo, wo = wr := ⟨_, rfl⟩
              subst hwo
              go_loopw [14, 15] (fun v14 v15 wq => ∃ i : Nat, v15 = .int .i64 i ∧ i ≤ B.length ∧ ((v14 = .int .i64 0 ∧ Hid (∀ q, q < i → B.getD q [] ≠ Y)) ∨ (v14 = .int .i64 8 ∧ Hid (Y ∈ B))) ∧ Hid (Below w7.heap.size w7 wq)) (fun _ v _ => B.length - (intOf v).toNat)
              case atStart => exact ⟨0, rfl, by omega, .inl ⟨rfl, hide (fun q hq => absurd hq (by omega))⟩, hide (Below.refl _ _)⟩
              case round =>
                obtain ⟨i, rfl, hi, hor, hBq⟩ := hrel
                rcases hor with ⟨rfl, hnone⟩ | ⟨rfl, hin⟩
                · by_cases hil : i < B.length
                  · have hil' : (i : Int) < (B.length : Int) := by omega
                    obtain ⟨bg, bc, hbr, hbb⟩ := (hV.out.below hBq.out).at hil
                    rw [Nat.mul_comm 3 i] at hbr
                    have GQ := HG7.out.below hBq.out HG7.out.lt
                    have HSG : Hid (∀ W4, Below wr.heap.size wr W4 → _) := hide (fun W4 hb => SameGrid_any W H (some ⟨bg, 0, none⟩) (some ⟨xg, 0, none⟩) N bc xc (B.getD i []) Y W4 (hbb.mono hb).rd ((HX7.out.mono hBq.out).mono hb).rd)
                    obtain ⟨dd, hdd⟩ : ∃ dd, decide (B.getD i [] = Y) = dd := ⟨_, rfl⟩
                    rw [hdd] at HSG
                    have HDD := hide hdd
                    clear hdd hbb
                    go_upto_region 14 with fail
                    refine wp_region_held (S := fun W4 => Below wr.heap.size wr W4) (by kernel_rfl) ?_
                    change wpAnyH _ _ _ _ _ _ _ _ (World.drew _)
                    have SW : Below wr.heap.size wr wr.drew := (Below.refl _ wr).drew
                    refine wpAnyH_take (i := 0) (v := .slice (some ⟨rg, 0, none⟩) B.length rc) rfl (by kernel_rfl) (by kernel_rfl) (by kernel_rfl) (fun _ _ _ h => h) (Or.inl ⟨by rfl, ?_⟩) SW ?_
                    · intro W4 hW4
                      go_simp <;> first | done | rfl | (rw [IntKind.wrap_i64]; omega) | omega
                    go_simp
                    refine wpAnyH_take (i := 1) (v := .int .i64 i) rfl (by kernel_rfl) (by kernel_rfl) (by kernel_rfl) (fun _ _ _ h => h) (Or.inl ⟨by rfl, ?_⟩) SW ?_
                    · intro W4 hW4
                      go_simp <;> first | done | rfl | (rw [IntKind.wrap_i64]; omega) | omega
                    go_simp
                    refine wpAnyH_take (i := 2) (v := .pointer (some ⟨rg, i * 3, none⟩)) rfl (by kernel_rfl) (by kernel_rfl) (by kernel_rfl) (fun _ _ _ h => h) (Or.inl ⟨by rfl, ?_⟩) SW ?_
                    · intro W4 hW4
                      go_simp <;> first | done | rfl | (rw [IntKind.wrap_i64]; omega) | omega
                    go_simp
                    refine wpAnyH_take (i := 3) (v := .agg (gdA W H (some ⟨bg, 0, none⟩) N bc)) rfl (by kernel_rfl) (by kernel_rfl) (by kernel_rfl) (fun _ _ _ h => h) (yieldsIf_load_mid (by rfl) 24 _ rfl rg (i * 3) (by rfl) (gv W H N bg bc) _ (fun W4 hW4 => rangeAt_below hbr hW4) Try.underlying24 rfl (by exact size24)) SW ?_
                    go_simp
                    refine wpAnyH_take (i := 4) (v := .agg (gdA W H (some ⟨xg, 0, none⟩) N xc)) rfl (by kernel_rfl) (by kernel_rfl) (by kernel_rfl) (fun _ _ _ h => h) (yieldsIf_load_mid (by rfl) 24 _ rfl (w6.heap.size) 0 (by rfl) (gdA W H (some ⟨xg, 0, none⟩) N xc).toList _ (fun W4 hW4 => (GQ.below hW4 GQ.lt).range) Try.underlying24 rfl (by exact size24)) SW ?_
                    go_simp
                    refine wpAnyH_ready (rs := [5]) (by kernel_rfl) (by simp) ?_
                    refine AllReadyH.cons rfl (fun K1 hK1 => ?_) AllReadyH.nil
                    go_simp
                    refine (HSG.out _ SW).mono ?_
                    rintro e w9 ⟨rfl, hb9⟩
                    have B9 := SW.trans (hb9.mono (by have := SW.size; omega))
                    refine hK1.out _ _ B9 (fun SW => ?_)
                    clear B9 hb9
                    clear hK1 K1
                    go_simp
                    refine wpAnyH_done (by kernel_rfl) ?_ _
                    have HBq9 : Hid (Below w7.heap.size w7 w9) := hide (hBq.out.trans (SW.mono hBq.out.size))
                    clear SW GQ hbr
                    cases dd with
                    | true =>
                      go_wp2_with fail
                      have hin : B.getD i [] = Y := of_decide_eq_true HDD.out
                      exact ⟨⟨i + 1, rfl, by omega, .inr ⟨rfl, hide (by rw [← hin]; exact getD_memL hil)⟩, HBq9⟩, by simp only [intOf]; omega⟩
                    | false =>
                      go_wp2_with fail
                      have hnin : B.getD i [] ≠ Y := of_decide_eq_false HDD.out
                      exact ⟨⟨i + 1, rfl, by omega, .inl ⟨rfl, hide (fun q hq => by
                        by_cases e : q = i
                        · rw [e]; exact hnin
                        · exact hnone.out q (by omega))⟩, HBq9⟩, by simp only [intOf]; omega⟩
                  · obtain rfl : i = B.length := by omega
                    have hil' : ¬ (B.length : Int) < (B.length : Int) := by omega
                    have hnin : ¬ Y ∈ B := by
                      intro hY
                      obtain ⟨q, hq, e⟩ := List.getElem_of_mem hY
                      exact hnone.out q hq (by rw [← e]; simp [List.getD, hq])
                    have hpp := HNE.out hnin
                    have HR2 : Hid (runP W H (mvd W H s x).1 (L.drop (j + 1)) = RR) := hide (by
                      have e := hRn.out
                      rw [HRJ.out, if_pos hpp.1] at e
                      exact e)
                    have HPP := hide hpp.2
                    clear hpp hnin hnone
                    have GQ := HG7.out.below hBq.out HG7.out.lt
                    have GQL : Hid (rg < w6.heap.size) := hide (by have := hrgl.out; omega)
                    obtain ⟨wa, hwa⟩ : ∃ wa, wr.alloc (.cells (gdA W H (some ⟨xg, 0, none⟩) N xc) 24) = wa := ⟨_, rfl⟩
                    have BA : Below wr.heap.size wr wa := by rw [← hwa]; exact (Below.refl _ _).alloc (Nat.le_refl _) _
                    have VA := (hV.out.below hBq.out).below BA
                    have XA := (HX7.out.mono hBq.out).mono BA
                    have GA : Gd wa wr.heap.size W H (some ⟨xg, 0, none⟩) N xc := by rw [← hwa]; exact Gd.new wr W H _ N xc
                    have hcellA : ∀ q v, (gv W H N xg xc)[q]? = some v → wa.cell? (Addr.add ⟨wr.heap.size, 0, none⟩ q) = some v := fun q v hv => by
                      rw [Addr.add_mid]
                      exact GA.range q v hv
                    have hGvA : Gv wa W H N (gv W H N xg xc) [Y] := ⟨xg, xc, [], rfl, XA, rfl⟩
                    have hbase : w2.heap.size ≤ wa.heap.size := by have h1 := BA.size; have h2 := hBq.out.size; have h3 := hV.out; have h4 := HG7.out.lt; have h5 := hGk.out.lt; omega
                    have BW : Below w7.heap.size w7 wa := hBq.out.trans (BA.mono hBq.out.size)
                    have GA2 := HG7.out.below BW HG7.out.lt
                    replace hGk := hide (hGk.out.below BW hGk.out.lt)
                    replace hTk := hide (hTk.out.below BW hTk.out.lt)
                    replace hR1 := hide (hR1.out.below BW hR1.out.lt)
                    replace hR2 := hide (hR2.out.below BW hR2.out.lt)
                    replace hB : Hid (Below w.heap.size w wa) := hide (hB.out.trans (BW.mono hB.out.size))
                    have HXA := hide XA
                    have HVA := hide VA
                    have HGA2 := hide GA2
                    clear BW GA
                    go_upto_region 19 with (first
                      | (refine wpList_load_gd rfl (.tmp 12) rfl (w6.heap.size) rfl GQ ?_)
                      | (at_builtin; refine wpList_append_bs _ rfl _ _ rfl w2.heap.size W H N _ B rfl VA ⟨wr.heap.size, 0, none⟩ 1 1 (gv W H N xg xc) [Y] rfl rfl hcellA hGvA (by omega) hbase ?_; intro v' w8 hV8 hg8 hq8))
                    have hrb : w2.heap.size ≤ rg := hq8 rg rfl
                    have kk8 : Keeps (fun q => q = rg) wa w8 := keeps_grownS hg8
                    have hnk : w4.heap.size ≠ rg := fun e => hVk.out (by rw [e]; rfl)
                    have hnt : w2.heap.size + 1 ≠ rg := fun e => HVA.out.notT hTk.out (by decide) (by rw [e]; rfl)
                    have hnx : xg ≠ rg := fun e => apart HVA.out HXA.out (by rw [e]; rfl)
                    have G8 := HGA2.out.keeps kk8 (by have := GQL.out; omega)
                    have GK8 := hGk.out.keeps kk8 hnk
                    have HT8 := hide (hTk.out.keeps kk8 hnt)
                    have HR8 := hide (hR1.out.keeps kk8 (by omega))
                    have HU8 := hide (hR2.out.keeps kk8 (by omega))
                    have HX8 := hide (HXA.out.keeps kk8 hnx)
                    have HB8 : Hid (Below w.heap.size w w8) := hide (hB.out.trans (kk8.below hB.out.size (fun q hq e => by omega)))
                    have hV8k : Hid (v'.ownBlock ≠ some w4.heap.size) := hide (hV8.notG (by rw [List.length_append]; have := hPR.out.ne; simp; omega) GK8)
                    have HV8 := hide hV8
                    have h12k : Hid ((w6.heap.size) ≠ w4.heap.size) := hide (by have := HK4.out; omega)
                    clear hg8 hq8 kk8 hV8 VA XA GA2 hwa BA GQ hcellA hGvA hbase hVk
                    go_upto_region 20 with (first
                      | (refine wpList_load_gd rfl (.tmp 12) rfl (w6.heap.size) rfl G8 ?_)
                      | (refine wpList_store_gd rfl (.tmp 10) (.tmp 92) rfl w4.heap.size rfl rfl GK8 ?_; intro w9 G9 kk9))
                    have HG9 := hide G9
                    have HT9 := hide (HT8.out.keeps kk9 (by omega))
                    have HR9 := hide (HR8.out.keeps kk9 (by omega))
                    have HU9 := hide (HU8.out.keeps kk9 (by omega))
                    have HX9 := hide (HX8.out.keeps kk9 (HX8.out.notCells GK8 (by decide)))
                    have HV9 := hide (HV8.out.keepsC kk9 GK8 (by decide) hV8k.out)
                    have HB9 : Hid (Below w.heap.size w w9) := hide (HB8.out.trans (kk9.below HB8.out.size (fun q hq e => by omega)))
                    have HVK := hV8k
                    have htb := hPR.out.tb
                    have hub := hPR.out.ub
                    clear G8 GK8 kk9 G9
                    have h01 : tn = 0 ∨ tn = 1 := by omega
                    rcases h01 with rfl | rfl
                    · rw [if_pos rfl, if_pos rfl] at HPP
                      obtain ⟨tk, htk⟩ : ∃ tk, t + k = tk := ⟨_, rfl⟩
                      rw [htk] at HPP
                      have hsum : (t : Int) + (k : Int) = (tk : Int) := by omega
                      have htk9 : tk ≤ 200000 := by omega
                      have cT := HT9.out.cells.1
                      have fT := HT9.out.frozen 0
                      have kk10 := Keeps.set1 w9 (w2.heap.size + 1) 0 (.int .i64 (tk : Int))
                      have HT10 := hide (HT9.out.set0 (tk : Int))
                      have HV10 := hide (HV9.out.keepsC kk10 HT9.out (by decide) (HV9.out.notT HT9.out (by decide)))
                      have HG10 := hide (HG9.out.keeps kk10 (by omega))
                      have HX10 := hide (HX9.out.keeps kk10 (HX9.out.notCells HT9.out (by decide)))
                      have HR10 := hide (HR9.out.keeps kk10 (by omega))
                      have HU10 := hide (HU9.out.keeps kk10 (by omega))
                      have HB10 : Hid (Below w.heap.size w (w9.setCell ⟨w2.heap.size + 1, 0, none⟩ (.int .i64 (tk : Int)))) := hide (HB9.out.trans (kk10.below HB9.out.size (fun q hq e => by omega)))
                      clear htk kk10
                      go_wp2_with fail
                      exact ⟨⟨j + 1, _, Y, tk, u, B ++ [Y], xg, xc, rfl, by omega, HPP, HR2, HV10, HVK, HG10, HX10, HT10, HR10, HU10, HB10⟩, by simp only [intOf]; omega⟩
                    · rw [if_neg (show ¬ (1 : Nat) = 0 by decide), if_neg (show ¬ (1 : Nat) = 0 by decide)] at HPP
                      obtain ⟨tk, htk⟩ : ∃ tk, u + k = tk := ⟨_, rfl⟩
                      rw [htk] at HPP
                      have hsum : (u : Int) + (k : Int) = (tk : Int) := by omega
                      have htk9 : tk ≤ 200000 := by omega
                      have cT := HT9.out.cells.2
                      have fT := HT9.out.frozen 1
                      have kk10 := Keeps.set1 w9 (w2.heap.size + 1) 1 (.int .i64 (tk : Int))
                      have HT10 := hide (HT9.out.set1 (tk : Int))
                      have HV10 := hide (HV9.out.keepsC kk10 HT9.out (by decide) (HV9.out.notT HT9.out (by decide)))
                      have HG10 := hide (HG9.out.keeps kk10 (by omega))
                      have HX10 := hide (HX9.out.keeps kk10 (HX9.out.notCells HT9.out (by decide)))
                      have HR10 := hide (HR9.out.keeps kk10 (by omega))
                      have HU10 := hide (HU9.out.keeps kk10 (by omega))
                      have HB10 : Hid (Below w.heap.size w (w9.setCell ⟨w2.heap.size + 1, 1, none⟩ (.int .i64 (tk : Int)))) := hide (HB9.out.trans (kk10.below HB9.out.size (fun q hq e => by omega)))
                      clear htk kk10
                      go_wp2_with fail
                      exact ⟨⟨j + 1, _, Y, t, tk, B ++ [Y], xg, xc, rfl, by omega, HPP, HR2, HV10, HVK, HG10, HX10, HT10, HR10, HU10, HB10⟩, by simp only [intOf]; omega⟩
                · have HRE : Hid ((s, 8) = RR) := hide (by
                    have e := hRn.out
                    rw [HRJ.out, HOL.out hin.out, if_neg (show ¬ (8 : Nat) = 0 by decide)] at e
                    exact e)
                  replace hGk := hide (hGk.out.below hBq.out hGk.out.lt)
                  replace hBw := hide (hBw.out.mono hBq.out)
                  replace hTk := hide (hTk.out.below hBq.out hTk.out.lt)
                  replace hR1 := hide (hR1.out.below hBq.out hR1.out.lt)
                  replace hR2 := hide (hR2.out.below hBq.out hR2.out.lt)
                  replace hB : Hid (Below w.heap.size w wr) := hide (hB.out.trans (hBq.out.mono hB.out.size))
                  clear hRn HRJ
                  by_cases hil : i < B.length
                  · have hil' : (i : Int) < (B.length : Int) := by omega
                    go_upto_region 17 with fail
                    have HN1 := hide (hBw.out.notCells hR1.out (by decide))
                    have HN2 := hide (hBw.out.notCells hR2.out (by decide))
                    have GK := hGk.out
                    have TK := hTk.out
                    have GR := hR1.out
                    have TR := hR2.out
                    refine wp_region_held (S := fun W4 => Keeps (fun k => k = w.heap.size + 1 ∨ k = w.heap.size + 2) wr W4) (by kernel_rfl) ?_
                    change wpAnyH _ _ _ _ _ _ _ _ (World.drew _)
                    have SW : Keeps (fun k => k = w.heap.size + 1 ∨ k = w.heap.size + 2) wr wr.drew := (Keeps.refl _ wr).drew
                    have SW0 : Keeps (fun k => k = w.heap.size + 1) wr wr.drew := (Keeps.refl _ wr).drew
                    refine wpAnyH_take (i := 0) (v := .agg (gdA W H (some ⟨gq, 0, none⟩) N gc)) rfl (by kernel_rfl) (by kernel_rfl) (by kernel_rfl) (fun _ _ _ h => h) (yieldsIf_load_mid (by rfl) 24 _ rfl w4.heap.size 0 (by rfl) (gdA W H (some ⟨gq, 0, none⟩) N gc).toList _ (fun W4 hW4 => (GK.keeps hW4 (by omega)).range) Try.underlying24 rfl (by exact size24)) SW ?_
                    go_simp
                    refine wpAnyH_take (i := 1) (v := .agg #[.int .i64 t, .int .i64 u]) rfl (by kernel_rfl) (by kernel_rfl) (by kernel_rfl) (fun _ _ _ h => h) (yieldsIf_load_mid (by rfl) 37 _ rfl (w2.heap.size + 1) 0 (by rfl) [.int .i64 t, .int .i64 u] _ (fun W4 hW4 => (TK.keeps hW4 (by omega)).range) Try.underlying37 rfl (by exact size37)) SW ?_
                    go_simp
                    refine wpAnyH_take (i := 2) (v := .int .i64 j) rfl (by kernel_rfl) (by kernel_rfl) (by kernel_rfl) (fun _ _ _ h => h) (Or.inl ⟨by rfl, ?_⟩) SW ?_
                    · intro W4 hW4
                      go_simp <;> first | done | rfl | (rw [IntKind.wrap_i64]; omega) | omega
                    go_simp
                    refine wpAnyH_take (i := 3) (v := .int .i64 8) rfl (by kernel_rfl) (by kernel_rfl) (by kernel_rfl) (fun _ _ _ h => h) (Or.inl ⟨by rfl, ?_⟩) SW ?_
                    · intro W4 hW4
                      go_simp <;> first | done | rfl | (rw [IntKind.wrap_i64]; omega) | omega
                    go_simp
                    refine wpAnyH_ready (rs := [4]) (by kernel_rfl) (by simp) ?_
                    refine AllReadyH.cons rfl (fun K1 hK1 => ?_) AllReadyH.nil
                    refine wp_storeG (.tmp 4) (.tmp 84) rfl (w.heap.size + 1) rfl rfl GR ?_
                    intro w7 G7 kk7
                    refine hK1.out _ _ (SW.after kk7 (fun i _ e => .inl e)) (fun SW => ?_)
                    clear hK1 K1
                    go_simp
                    have T7 := TR.keeps (SW0.after kk7 (fun i _ e => e)) (by omega)
                    refine wpAnyH_ready (rs := [5]) (by kernel_rfl) (by simp) ?_
                    refine AllReadyH.cons rfl (fun K1 hK1 => ?_) AllReadyH.nil
                    refine wp_storeT (.tmp 5) (.tmp 85) rfl (w.heap.size + 2) rfl rfl T7 ?_
                    intro w8 T8 kk8
                    refine hK1.out _ _ (SW.after kk8 (fun i _ e => .inr e)) (fun SW => ?_)
                    clear hK1 K1
                    go_simp
                    refine wpAnyH_ready (rs := [6]) (by kernel_rfl) (by simp) ?_
                    refine AllReadyH.cons rfl (fun K1 hK1 => ?_) AllReadyH.nil
                    go_simp
                    refine hK1.out _ _ SW (fun SW => ?_)
                    clear hK1 K1
                    go_simp
                    refine wpAnyH_ready (rs := [7]) (by kernel_rfl) (by simp) ?_
                    refine AllReadyH.cons rfl (fun K1 hK1 => ?_) AllReadyH.nil
                    go_simp
                    refine hK1.out _ _ SW (fun SW => ?_)
                    clear hK1 K1
                    go_simp
                    refine wpAnyH_done (by kernel_rfl) ?_ _
                    have HG8 := hide (G7.keeps kk8 (by omega))
                    have HT8 := hide T8
                    have HX8 := hide (hBw.out.keeps SW (by rintro (e | e) <;> first | exact HN1.out e | exact HN2.out e))
                    have HB8 : Hid (Below w.heap.size w w8) := hide (hB.out.trans (SW.below hB.out.size (fun k hk e => by omega)))
                    clear GK TK GR TR T8 G7 T7 kk7 kk8 SW SW0
                    go_wp2_with fail
                    refine bodyPost_ret (results_play rfl _ _ (w.heap.size + 1) (w.heap.size + 2) rfl rfl HG8.out HT8.out rfl rfl) rfl ?_
                    rw [← HRE.out]
                    have q1 := hPR.out.t_
                    have q2 := hPR.out.u_
                    have q3 := hPR.out.m
                    have q4 := hPR.out.Z_
                    subst q1 q2 q3 q4
                    exact ⟨gq, gc, rfl, HX8.out, HB8.out⟩
                  · have hil' : ¬ (i : Int) < (B.length : Int) := by omega
                    go_upto_region 17 with fail
                    have HN1 := hide (hBw.out.notCells hR1.out (by decide))
                    have HN2 := hide (hBw.out.notCells hR2.out (by decide))
                    have GK := hGk.out
                    have TK := hTk.out
                    have GR := hR1.out
                    have TR := hR2.out
                    refine wp_region_held (S := fun W4 => Keeps (fun k => k = w.heap.size + 1 ∨ k = w.heap.size + 2) wr W4) (by kernel_rfl) ?_
                    change wpAnyH _ _ _ _ _ _ _ _ (World.drew _)
                    have SW : Keeps (fun k => k = w.heap.size + 1 ∨ k = w.heap.size + 2) wr wr.drew := (Keeps.refl _ wr).drew
                    have SW0 : Keeps (fun k => k = w.heap.size + 1) wr wr.drew := (Keeps.refl _ wr).drew
                    refine wpAnyH_take (i := 0) (v := .agg (gdA W H (some ⟨gq, 0, none⟩) N gc)) rfl (by kernel_rfl) (by kernel_rfl) (by kernel_rfl) (fun _ _ _ h => h) (yieldsIf_load_mid (by rfl) 24 _ rfl w4.heap.size 0 (by rfl) (gdA W H (some ⟨gq, 0, none⟩) N gc).toList _ (fun W4 hW4 => (GK.keeps hW4 (by omega)).range) Try.underlying24 rfl (by exact size24)) SW ?_
                    go_simp
                    refine wpAnyH_take (i := 1) (v := .agg #[.int .i64 t, .int .i64 u]) rfl (by kernel_rfl) (by kernel_rfl) (by kernel_rfl) (fun _ _ _ h => h) (yieldsIf_load_mid (by rfl) 37 _ rfl (w2.heap.size + 1) 0 (by rfl) [.int .i64 t, .int .i64 u] _ (fun W4 hW4 => (TK.keeps hW4 (by omega)).range) Try.underlying37 rfl (by exact size37)) SW ?_
                    go_simp
                    refine wpAnyH_take (i := 2) (v := .int .i64 j) rfl (by kernel_rfl) (by kernel_rfl) (by kernel_rfl) (fun _ _ _ h => h) (Or.inl ⟨by rfl, ?_⟩) SW ?_
                    · intro W4 hW4
                      go_simp <;> first | done | rfl | (rw [IntKind.wrap_i64]; omega) | omega
                    go_simp
                    refine wpAnyH_take (i := 3) (v := .int .i64 8) rfl (by kernel_rfl) (by kernel_rfl) (by kernel_rfl) (fun _ _ _ h => h) (Or.inl ⟨by rfl, ?_⟩) SW ?_
                    · intro W4 hW4
                      go_simp <;> first | done | rfl | (rw [IntKind.wrap_i64]; omega) | omega
                    go_simp
                    refine wpAnyH_ready (rs := [4]) (by kernel_rfl) (by simp) ?_
                    refine AllReadyH.cons rfl (fun K1 hK1 => ?_) AllReadyH.nil
                    refine wp_storeG (.tmp 4) (.tmp 84) rfl (w.heap.size + 1) rfl rfl GR ?_
                    intro w7 G7 kk7
                    refine hK1.out _ _ (SW.after kk7 (fun i _ e => .inl e)) (fun SW => ?_)
                    clear hK1 K1
                    go_simp
                    have T7 := TR.keeps (SW0.after kk7 (fun i _ e => e)) (by omega)
                    refine wpAnyH_ready (rs := [5]) (by kernel_rfl) (by simp) ?_
                    refine AllReadyH.cons rfl (fun K1 hK1 => ?_) AllReadyH.nil
                    refine wp_storeT (.tmp 5) (.tmp 85) rfl (w.heap.size + 2) rfl rfl T7 ?_
                    intro w8 T8 kk8
                    refine hK1.out _ _ (SW.after kk8 (fun i _ e => .inr e)) (fun SW => ?_)
                    clear hK1 K1
                    go_simp
                    refine wpAnyH_ready (rs := [6]) (by kernel_rfl) (by simp) ?_
                    refine AllReadyH.cons rfl (fun K1 hK1 => ?_) AllReadyH.nil
                    go_simp
                    refine hK1.out _ _ SW (fun SW => ?_)
                    clear hK1 K1
                    go_simp
                    refine wpAnyH_ready (rs := [7]) (by kernel_rfl) (by simp) ?_
                    refine AllReadyH.cons rfl (fun K1 hK1 => ?_) AllReadyH.nil
                    go_simp
                    refine hK1.out _ _ SW (fun SW => ?_)
                    clear hK1 K1
                    go_simp
                    refine wpAnyH_done (by kernel_rfl) ?_ _
                    have HG8 := hide (G7.keeps kk8 (by omega))
                    have HT8 := hide T8
                    have HX8 := hide (hBw.out.keeps SW (by rintro (e | e) <;> first | exact HN1.out e | exact HN2.out e))
                    have HB8 : Hid (Below w.heap.size w w8) := hide (hB.out.trans (SW.below hB.out.size (fun k hk e => by omega)))
                    clear GK TK GR TR T8 G7 T7 kk7 kk8 SW SW0
                    go_wp2_with fail
                    refine bodyPost_ret (results_play rfl _ _ (w.heap.size + 1) (w.heap.size + 2) rfl rfl HG8.out HT8.out rfl rfl) rfl ?_
                    rw [← HRE.out]
                    have q1 := hPR.out.t_
                    have q2 := hPR.out.u_
                    have q3 := hPR.out.m
                    have q4 := hPR.out.Z_
                    subst q1 q2 q3 q4
                    exact ⟨gq, gc, rfl, HX8.out, HB8.out⟩
            · refine hK1.out _ _ B6 (fun SW => ?_)
              clear hK1 K1
              go_simp
              refine wpAnyH_take (i := 9) (v := .tuple #[.agg (gdA 0 0 none 0 0), .int .i64 0, .int .i64 (pE W H Z mI x : Nat)]) rfl (by kernel_rfl) (by kernel_rfl) (by kernel_rfl) (fun _ _ _ h => h) (Or.inl ⟨by rfl, ?_⟩) SW ?_
              · intro W4 hW4
                go_simp <;> first | done | rfl | (rw [IntKind.wrap_i64]; omega) | omega
              go_simp
              refine wpAnyH_take (i := 10) (v := .agg (gdA 0 0 none 0 0)) rfl (by kernel_rfl) (by kernel_rfl) (by kernel_rfl) (fun _ _ _ h => h) (Or.inl ⟨by rfl, ?_⟩) SW ?_
              · intro W4 hW4
                go_simp <;> first | done | rfl | (rw [IntKind.wrap_i64]; omega) | omega
              go_simp
              refine wpAnyH_take (i := 11) (v := .int .i64 0) rfl (by kernel_rfl) (by kernel_rfl) (by kernel_rfl) (fun _ _ _ h => h) (Or.inl ⟨by rfl, ?_⟩) SW ?_
              · intro W4 hW4
                go_simp <;> first | done | rfl | (rw [IntKind.wrap_i64]; omega) | omega
              go_simp
              refine wpAnyH_take (i := 12) (v := .int .i64 (pE W H Z mI x : Nat)) rfl (by kernel_rfl) (by kernel_rfl) (by kernel_rfl) (fun _ _ _ h => h) (Or.inl ⟨by rfl, ?_⟩) SW ?_
              · intro W4 hW4
                go_simp <;> first | done | rfl | (rw [IntKind.wrap_i64]; omega) | omega
              go_simp
              refine wpAnyH_ready (rs := [13]) (by kernel_rfl) (by simp) ?_
              refine AllReadyH.cons rfl (fun K1 hK1 => ?_) AllReadyH.nil
              go_simp
              have KZ := Gd.new w6 0 0 none 0 0
              refine hK1.out _ _ (SW.alloc SW.size _) (fun SW => ?_)
              clear hK1 K1
              go_simp
              refine wpAnyH_ready (rs := [14]) (by kernel_rfl) (by simp) ?_
              refine AllReadyH.cons rfl (fun K1 hK1 => ?_) AllReadyH.nil
              refine wp_storeG (.tmp 12) (.tmp 63) rfl (w6.heap.size) rfl rfl KZ ?_
              intro w7 G7 kk7
              have B7 := SW.trans ((kk7.mono (Y := fun q => wr.heap.size ≤ q) (fun q _ e => by omega)).below (B := wr.heap.size) (by have := SW.size; first | omega | (rw [World.size_alloc]; omega)) (fun q hq e => by omega))
              refine hK1.out _ _ B7 (fun SW => ?_)
              clear B7
              clear hK1 K1
              go_simp
              refine wpAnyH_ready (rs := [15]) (by kernel_rfl) (by simp) ?_
              refine AllReadyH.cons rfl (fun K1 hK1 => ?_) AllReadyH.nil
              go_simp
              refine hK1.out _ _ SW (fun SW => ?_)
              clear hK1 K1
              go_simp
              refine wpAnyH_ready (rs := [16]) (by kernel_rfl) (by simp) ?_
              refine AllReadyH.cons rfl (fun K1 hK1 => ?_) AllReadyH.nil
              go_simp
              refine hK1.out _ _ SW (fun SW => ?_)
              clear hK1 K1
              go_simp
              refine wpAnyH_done (by kernel_rfl) ?_ _
              clear B6 hb6
              have hee : pE W H Z mI x ≠ 0 := h61
              have HRE : Hid ((s, pE W H Z mI x) = RR) := hide (by
                have e := hRn.out
                rw [HRJ.out, HNO.out hee, if_neg hee] at e
                exact e)
              obtain ⟨ee, hE⟩ : ∃ ee, pE W H Z mI x = ee := ⟨_, rfl⟩
              rw [hE] at HRE hee ⊢
              have hne : ((ee : Int) == 0) = false := by simpa using hee
              have hne2 : ((ee : Int) != 0) = true := by simpa using hee
              have hne0 : (0 : Int) < (B.length : Int) := by have := hPR.out.ne; omega
              obtain ⟨ra, rc, hvf, hrl, hrm, hrg⟩ := hV.out.form
              subst hvf
              have hrm' : rc ≤ 9223372036854775807 := by unfold maxLen at hrm; omega
              replace hGk := hide (hGk.out.below SW hGk.out.lt)
              replace hBw := hide (hBw.out.mono SW)
              replace hTk := hide (hTk.out.below SW hTk.out.lt)
              replace hR1 := hide (hR1.out.below SW hR1.out.lt)
              replace hR2 := hide (hR2.out.below SW hR2.out.lt)
              replace hB : Hid (Below w.heap.size w w7) := hide (hB.out.trans (SW.mono hB.out.size))
              clear hE h61 KZ kk7 HPU HNO HOL HNE HRJ hRn cj GK G7 SW hV hVk
              try clear KZ0
              go_wp2_with fail
              obtain ⟨wo, hwo⟩ : ∃ wo, wo = wr := ⟨_, rfl⟩
              subst hwo
              go_loopw [14, 15] (fun v14 v15 wq => v14 = .int .i64 ee ∧ v15 = .int .i64 0 ∧ Hid (wq = w7)) (fun _ _ _ => 0)
              case atStart => exact ⟨rfl, rfl, hide rfl⟩
              case round =>
                obtain ⟨rfl, rfl, hwq⟩ := hrel
                have hwq := hwq.out
                subst hwq
                go_upto_region 17 with fail
                have HN1 := hide (hBw.out.notCells hR1.out (by decide))
                have HN2 := hide (hBw.out.notCells hR2.out (by decide))
                have GK := hGk.out
                have TK := hTk.out
                have GR := hR1.out
                have TR := hR2.out
                refine wp_region_held (S := fun W4 => Keeps (fun k => k = w.heap.size + 1 ∨ k = w.heap.size + 2) wr W4) (by kernel_rfl) ?_
                change wpAnyH _ _ _ _ _ _ _ _ (World.drew _)
                have SW : Keeps (fun k => k = w.heap.size + 1 ∨ k = w.heap.size + 2) wr wr.drew := (Keeps.refl _ wr).drew
                have SW0 : Keeps (fun k => k = w.heap.size + 1) wr wr.drew := (Keeps.refl _ wr).drew
                refine wpAnyH_take (i := 0) (v := .agg (gdA W H (some ⟨gq, 0, none⟩) N gc)) rfl (by kernel_rfl) (by kernel_rfl) (by kernel_rfl) (fun _ _ _ h => h) (yieldsIf_load_mid (by rfl) 24 _ rfl w4.heap.size 0 (by rfl) (gdA W H (some ⟨gq, 0, none⟩) N gc).toList _ (fun W4 hW4 => (GK.keeps hW4 (by omega)).range) Try.underlying24 rfl (by exact size24)) SW ?_
                go_simp
                refine wpAnyH_take (i := 1) (v := .agg #[.int .i64 t, .int .i64 u]) rfl (by kernel_rfl) (by kernel_rfl) (by kernel_rfl) (fun _ _ _ h => h) (yieldsIf_load_mid (by rfl) 37 _ rfl (w2.heap.size + 1) 0 (by rfl) [.int .i64 t, .int .i64 u] _ (fun W4 hW4 => (TK.keeps hW4 (by omega)).range) Try.underlying37 rfl (by exact size37)) SW ?_
                go_simp
                refine wpAnyH_take (i := 2) (v := .int .i64 j) rfl (by kernel_rfl) (by kernel_rfl) (by kernel_rfl) (fun _ _ _ h => h) (Or.inl ⟨by rfl, ?_⟩) SW ?_
                · intro W4 hW4
                  go_simp <;> first | done | rfl | (rw [IntKind.wrap_i64]; omega) | omega
                go_simp
                refine wpAnyH_take (i := 3) (v := .int .i64 ee) rfl (by kernel_rfl) (by kernel_rfl) (by kernel_rfl) (fun _ _ _ h => h) (Or.inl ⟨by rfl, ?_⟩) SW ?_
                · intro W4 hW4
                  go_simp <;> first | done | rfl | (rw [IntKind.wrap_i64]; omega) | omega
                go_simp
                refine wpAnyH_ready (rs := [4]) (by kernel_rfl) (by simp) ?_
                refine AllReadyH.cons rfl (fun K1 hK1 => ?_) AllReadyH.nil
                refine wp_storeG (.tmp 4) (.tmp 84) rfl (w.heap.size + 1) rfl rfl GR ?_
                intro w7 G7 kk7
                refine hK1.out _ _ (SW.after kk7 (fun i _ e => .inl e)) (fun SW => ?_)
                clear hK1 K1
                go_simp
                have T7 := TR.keeps (SW0.after kk7 (fun i _ e => e)) (by omega)
                refine wpAnyH_ready (rs := [5]) (by kernel_rfl) (by simp) ?_
                refine AllReadyH.cons rfl (fun K1 hK1 => ?_) AllReadyH.nil
                refine wp_storeT (.tmp 5) (.tmp 85) rfl (w.heap.size + 2) rfl rfl T7 ?_
                intro w8 T8 kk8
                refine hK1.out _ _ (SW.after kk8 (fun i _ e => .inr e)) (fun SW => ?_)
                clear hK1 K1
                go_simp
                refine wpAnyH_ready (rs := [6]) (by kernel_rfl) (by simp) ?_
                refine AllReadyH.cons rfl (fun K1 hK1 => ?_) AllReadyH.nil
                go_simp
                refine hK1.out _ _ SW (fun SW => ?_)
                clear hK1 K1
                go_simp
                refine wpAnyH_ready (rs := [7]) (by kernel_rfl) (by simp) ?_
                refine AllReadyH.cons rfl (fun K1 hK1 => ?_) AllReadyH.nil
                go_simp
                refine hK1.out _ _ SW (fun SW => ?_)
                clear hK1 K1
                go_simp
                refine wpAnyH_done (by kernel_rfl) ?_ _
                have HG8 := hide (G7.keeps kk8 (by omega))
                have HT8 := hide T8
                have HX8 := hide (hBw.out.keeps SW (by rintro (e | e) <;> first | exact HN1.out e | exact HN2.out e))
                have HB8 : Hid (Below w.heap.size w w8) := hide (hB.out.trans (SW.below hB.out.size (fun k hk e => by omega)))
                clear GK TK GR TR T8 G7 T7 kk7 kk8 SW SW0
                go_wp2_with fail
                refine bodyPost_ret (results_play rfl _ _ (w.heap.size + 1) (w.heap.size + 2) rfl rfl HG8.out HT8.out rfl rfl) rfl ?_
                rw [← HRE.out]
                have q1 := hPR.out.t_
                have q2 := hPR.out.u_
                have q3 := hPR.out.m
                have q4 := hPR.out.Z_
                subst q1 q2 q3 q4
                exact ⟨gq, gc, rfl, HX8.out, HB8.out⟩
          refine AllReadyH.cons rfl (fun K1 hK1 => ?_) AllReadyH.nil
          go_simp
          have KZ0 : Gd (wr.alloc (.cells (gdA 0 0 none 0 0) 24)).drew wr.heap.size 0 0 none 0 0 := Gd.new wr 0 0 none 0 0
          refine hK1.out _ _ (SW.alloc SW.size _) (fun SW => ?_)
          clear hK1 K1
          go_simp
          refine wpAnyH_ready (rs := [8]) (by kernel_rfl) (by simp) ?_
          refine AllReadyH.cons rfl (fun K1 hK1 => ?_) AllReadyH.nil
          go_simp
          refine (HPU.out _ SW).mono ?_
          rintro e w6 ⟨hb6, h6⟩
          have B6 := SW.trans (hb6.mono (by have := SW.size; omega))
          have h06 : wr.heap.size ≤ w6.heap.size := B6.size
          rcases h6 with ⟨h61, h62, xg, xc, rfl, hBx, hxl⟩ | ⟨h61, rfl⟩
          · have HBX := hide hBx
            clear hBx
            have KZ := KZ0.below hb6 KZ0.lt
            refine hK1.out _ _ B6 (fun SW => ?_)
            clear hK1 K1
            go_simp
            refine wpAnyH_take (i := 9) (v := .tuple #[.agg (gdA W H (some ⟨xg, 0, none⟩) N xc), .int .i64 (pt W H Z mI x.toNat : Nat), .int .i64 0]) rfl (by kernel_rfl) (by kernel_rfl) (by kernel_rfl) (fun _ _ _ h => h) (Or.inl ⟨by rfl, ?_⟩) SW ?_
            · intro W4 hW4
              go_simp <;> first | done | rfl | (rw [IntKind.wrap_i64]; omega) | omega
            go_simp
            refine wpAnyH_take (i := 10) (v := .agg (gdA W H (some ⟨xg, 0, none⟩) N xc)) rfl (by kernel_rfl) (by kernel_rfl) (by kernel_rfl) (fun _ _ _ h => h) (Or.inl ⟨by rfl, ?_⟩) SW ?_
            · intro W4 hW4
              go_simp <;> first | done | rfl | (rw [IntKind.wrap_i64]; omega) | omega
            go_simp
            refine wpAnyH_take (i := 11) (v := .int .i64 (pt W H Z mI x.toNat : Nat)) rfl (by kernel_rfl) (by kernel_rfl) (by kernel_rfl) (fun _ _ _ h => h) (Or.inl ⟨by rfl, ?_⟩) SW ?_
            · intro W4 hW4
              go_simp <;> first | done | rfl | (rw [IntKind.wrap_i64]; omega) | omega
            go_simp
            refine wpAnyH_take (i := 12) (v := .int .i64 0) rfl (by kernel_rfl) (by kernel_rfl) (by kernel_rfl) (fun _ _ _ h => h) (Or.inl ⟨by rfl, ?_⟩) SW ?_
            · intro W4 hW4
              go_simp <;> first | done | rfl | (rw [IntKind.wrap_i64]; omega) | omega
            go_simp
            refine wpAnyH_ready (rs := [14]) (by kernel_rfl) (by simp) ?_
            refine AllReadyH.cons rfl (fun K1 hK1 => ?_) AllReadyH.nil
            refine wp_storeG (.tmp 12) (.tmp 63) rfl (wr.heap.size) rfl rfl KZ ?_
            intro w7 G7 kk7
            have B7 := SW.trans ((kk7.mono (Y := fun q => wr.heap.size ≤ q) (fun q _ e => by omega)).below (B := wr.heap.size) (by have := SW.size; first | omega | (rw [World.size_alloc]; omega)) (fun q hq e => by omega))
            have HX7 := hide (HBX.out.keeps kk7 (HBX.out.notCells KZ (by decide)))
            refine hK1.out _ _ B7 (fun SW => ?_)
            clear B7
            clear hK1 K1
            go_simp
            refine wpAnyH_ready (rs := [15]) (by kernel_rfl) (by simp) ?_
            refine AllReadyH.cons rfl (fun K1 hK1 => ?_) AllReadyH.nil
            go_simp
            refine hK1.out _ _ SW (fun SW => ?_)
            clear hK1 K1
            go_simp
            refine wpAnyH_ready (rs := [16]) (by kernel_rfl) (by simp) ?_
            refine AllReadyH.cons rfl (fun K1 hK1 => ?_) AllReadyH.nil
            go_simp
            refine hK1.out _ _ SW (fun SW => ?_)
            clear hK1 K1
            go_simp
            refine wpAnyH_done (by kernel_rfl) ?_ _
            clear B6 hb6
            have hpt : pt W H Z mI x.toNat ≤ 100 := by
              rw [pt, gone]
              exact Nat.le_trans (goneU_len (List.prefix_refl _)) (by rw [HNN.out]; exact hN100)
            replace HOL := hide (HOL.out h61 HZL2.out)
            replace HNE := hide (HNE.out h61 HZL2.out hpt)
            obtain ⟨Y, hY⟩ : ∃ Y, pz W H Z mI x.toNat = Y := ⟨_, rfl⟩
            obtain ⟨k, hk⟩ : ∃ k, pt W H Z mI x.toNat = k := ⟨_, rfl⟩
            rw [hY] at HOL HX7
            rw [hY, hk] at HNE
            rw [hk] at hpt ⊢
            have hne0 : (0 : Int) < (B.length : Int) := by have := hPR.out.ne; omega
            obtain ⟨ra, rc, hvf, hrl, hrm, hrg⟩ := hV.out.form
            obtain ⟨rg, hrg⟩ := hrg (by intro e; rw [e] at hne0; simp at hne0)
            subst hrg
            subst hvf
            have hrm' : rc ≤ 9223372036854775807 := by unfold maxLen at hrm; omega
            have hbl : B.length ≤ 300 := by have := hPR.out.bl; omega
            have HK4 : Hid (w4.heap.size < wr.heap.size) := hide hGk.out.lt
            have hrgl : Hid (rg < wr.heap.size) := hide (by
              obtain ⟨vs, h1, -⟩ := hV.out
              exact (h1.lt rg rfl).2)
            replace hV := hide (hV.out.below SW)
            replace hGk := hide (hGk.out.below SW hGk.out.lt)
            replace hBw := hide (hBw.out.mono SW)
            replace hTk := hide (hTk.out.below SW hTk.out.lt)
            replace hR1 := hide (hR1.out.below SW hR1.out.lt)
            replace hR2 := hide (hR2.out.below SW hR2.out.lt)
            replace hB : Hid (Below w.heap.size w w7) := hide (hB.out.trans (SW.mono hB.out.size))
            have HG7 := hide G7
            clear hY hk h61 h62 KZ kk7 HPU HNO cj GK G7 SW hxl HBX
            try clear KZ0
            go_wp2_with fail
            obtain ⟨wo, hwo⟩ : ∃ wo, wo = wr := ⟨_, rfl⟩
            subst hwo
            go_loopw [14, 15] (fun v14 v15 wq => ∃ i : Nat, v15 = .int .i64 i ∧ i ≤ B.length ∧ ((v14 = .int .i64 0 ∧ Hid (∀ q, q < i → B.getD q [] ≠ Y)) ∨ (v14 = .int .i64 8 ∧ Hid (Y ∈ B))) ∧ Hid (Below w7.heap.size w7 wq)) (fun _ v _ => B.length - (intOf v).toNat)
            case atStart => exact ⟨0, rfl, by omega, .inl ⟨rfl, hide (fun q hq => absurd hq (by omega))⟩, hide (Below.refl _ _)⟩
            case round =>
              obtain ⟨i, rfl, hi, hor, hBq⟩ := hrel
              rcases hor with ⟨rfl, hnone⟩ | ⟨rfl, hin⟩
              · by_cases hil : i < B.length
                · have hil' : (i : Int) < (B.length : Int) := by omega
                  obtain ⟨bg, bc, hbr, hbb⟩ := (hV.out.below hBq.out).at hil
                  rw [Nat.mul_comm 3 i] at hbr
                  have GQ := HG7.out.below hBq.out HG7.out.lt
                  have HSG : Hid (∀ W4, Below wr.heap.size wr W4 → _) := hide (fun W4 hb => SameGrid_any W H (some ⟨bg, 0, none⟩) (some ⟨xg, 0, none⟩) N bc xc (B.getD i []) Y W4 (hbb.mono hb).rd ((HX7.out.mono hBq.out).mono hb).rd)
                  obtain ⟨dd, hdd⟩ : ∃ dd, decide (B.getD i [] = Y) = dd := ⟨_, rfl⟩
                  rw [hdd] at HSG
                  have HDD := hide hdd
                  clear hdd hbb
                  go_upto_region 14 with fail
                  refine wp_region_held (S := fun W4 => Below wr.heap.size wr W4) (by kernel_rfl) ?_
                  change wpAnyH _ _ _ _ _ _ _ _ (World.drew _)
                  have SW : Below wr.heap.size wr wr.drew := (Below.refl _ wr).drew
                  refine wpAnyH_take (i := 0) (v := .slice (some ⟨rg, 0, none⟩) B.length rc) rfl (by kernel_rfl) (by kernel_rfl) (by kernel_rfl) (fun _ _ _ h => h) (Or.inl ⟨by rfl, ?_⟩) SW ?_
                  · intro W4 hW4
                    go_simp <;> first | done | rfl | (rw [IntKind.wrap_i64]; omega) | omega
                  go_simp
                  refine wpAnyH_take (i := 1) (v := .int .i64 i) rfl (by kernel_rfl) (by kernel_rfl) (by kernel_rfl) (fun _ _ _ h => h) (Or.inl ⟨by rfl, ?_⟩) SW ?_
                  · intro W4 hW4
                    go_simp <;> first | done | rfl | (rw [IntKind.wrap_i64]; omega) | omega
                  go_simp
                  refine wpAnyH_take (i := 2) (v := .pointer (some ⟨rg, i * 3, none⟩)) rfl (by kernel_rfl) (by kernel_rfl) (by kernel_rfl) (fun _ _ _ h => h) (Or.inl ⟨by rfl, ?_⟩) SW ?_
                  · intro W4 hW4
                    go_simp <;> first | done | rfl | (rw [IntKind.wrap_i64]; omega) | omega
                  go_simp
                  refine wpAnyH_take (i := 3) (v := .agg (gdA W H (some ⟨bg, 0, none⟩) N bc)) rfl (by kernel_rfl) (by kernel_rfl) (by kernel_rfl) (fun _ _ _ h => h) (yieldsIf_load_mid (by rfl) 24 _ rfl rg (i * 3) (by rfl) (gv W H N bg bc) _ (fun W4 hW4 => rangeAt_below hbr hW4) Try.underlying24 rfl (by exact size24)) SW ?_
                  go_simp
                  refine wpAnyH_take (i := 4) (v := .agg (gdA W H (some ⟨xg, 0, none⟩) N xc)) rfl (by kernel_rfl) (by kernel_rfl) (by kernel_rfl) (fun _ _ _ h => h) (yieldsIf_load_mid (by rfl) 24 _ rfl (wo.heap.size) 0 (by rfl) (gdA W H (some ⟨xg, 0, none⟩) N xc).toList _ (fun W4 hW4 => (GQ.below hW4 GQ.lt).range) Try.underlying24 rfl (by exact size24)) SW ?_
                  go_simp
                  refine wpAnyH_ready (rs := [5]) (by kernel_rfl) (by simp) ?_
                  refine AllReadyH.cons rfl (fun K1 hK1 => ?_) AllReadyH.nil
                  go_simp
                  refine (HSG.out _ SW).mono ?_
                  rintro e w9 ⟨rfl, hb9⟩
                  have B9 := SW.trans (hb9.mono (by have := SW.size; omega))
                  refine hK1.out _ _ B9 (fun SW => ?_)
                  clear B9 hb9
                  clear hK1 K1
                  go_simp
                  refine wpAnyH_done (by kernel_rfl) ?_ _
                  have HBq9 : Hid (Below w7.heap.size w7 w9) := hide (hBq.out.trans (SW.mono hBq.out.size))
                  clear SW GQ hbr
                  cases dd with
                  | true =>
                    go_wp2_with fail
                    have hin : B.getD i [] = Y := of_decide_eq_true HDD.out
                    exact ⟨⟨i + 1, rfl, by omega, .inr ⟨rfl, hide (by rw [← hin]; exact getD_memL hil)⟩, HBq9⟩, by simp only [intOf]; omega⟩
                  | false =>
                    go_wp2_with fail
                    have hnin : B.getD i [] ≠ Y := of_decide_eq_false HDD.out
                    exact ⟨⟨i + 1, rfl, by omega, .inl ⟨rfl, hide (fun q hq => by
                      by_cases e : q = i
                      · rw [e]; exact hnin
                      · exact hnone.out q (by omega))⟩, HBq9⟩, by simp only [intOf]; omega⟩
                · obtain rfl : i = B.length := by omega
                  have hil' : ¬ (B.length : Int) < (B.length : Int) := by omega
                  have hnin : ¬ Y ∈ B := by
                    intro hY
                    obtain ⟨q, hq, e⟩ := List.getElem_of_mem hY
                    exact hnone.out q hq (by rw [← e]; simp [List.getD, hq])
                  have hpp := HNE.out hnin
                  have HR2 : Hid (runP W H (mvd W H s x).1 (L.drop (j + 1)) = RR) := hide (by
                    have e := hRn.out
                    rw [HRJ.out, if_pos hpp.1] at e
                    exact e)
                  have HPP := hide hpp.2
                  clear hpp hnin hnone
                  have GQ := HG7.out.below hBq.out HG7.out.lt
                  have GQL : Hid (rg < wo.heap.size) := hide (by have := hrgl.out; omega)
                  obtain ⟨wa, hwa⟩ : ∃ wa, wr.alloc (.cells (gdA W H (some ⟨xg, 0, none⟩) N xc) 24) = wa := ⟨_, rfl⟩
                  have BA : Below wr.heap.size wr wa := by rw [← hwa]; exact (Below.refl _ _).alloc (Nat.le_refl _) _
                  have VA := (hV.out.below hBq.out).below BA
                  have XA := (HX7.out.mono hBq.out).mono BA
                  have GA : Gd wa wr.heap.size W H (some ⟨xg, 0, none⟩) N xc := by rw [← hwa]; exact Gd.new wr W H _ N xc
                  have hcellA : ∀ q v, (gv W H N xg xc)[q]? = some v → wa.cell? (Addr.add ⟨wr.heap.size, 0, none⟩ q) = some v := fun q v hv => by
                    rw [Addr.add_mid]
                    exact GA.range q v hv
                  have hGvA : Gv wa W H N (gv W H N xg xc) [Y] := ⟨xg, xc, [], rfl, XA, rfl⟩
                  have hbase : w2.heap.size ≤ wa.heap.size := by have h1 := BA.size; have h2 := hBq.out.size; have h3 := hV.out; have h4 := HG7.out.lt; have h5 := hGk.out.lt; omega
                  have BW : Below w7.heap.size w7 wa := hBq.out.trans (BA.mono hBq.out.size)
                  have GA2 := HG7.out.below BW HG7.out.lt
                  replace hGk := hide (hGk.out.below BW hGk.out.lt)
                  replace hTk := hide (hTk.out.below BW hTk.out.lt)
                  replace hR1 := hide (hR1.out.below BW hR1.out.lt)
                  replace hR2 := hide (hR2.out.below BW hR2.out.lt)
                  replace hB : Hid (Below w.heap.size w wa) := hide (hB.out.trans (BW.mono hB.out.size))
                  have HXA := hide XA
                  have HVA := hide VA
                  have HGA2 := hide GA2
                  clear BW GA
                  go_upto_region 19 with (first
                    | (refine wpList_load_gd rfl (.tmp 12) rfl (wo.heap.size) rfl GQ ?_)
                    | (at_builtin; refine wpList_append_bs _ rfl _ _ rfl w2.heap.size W H N _ B rfl VA ⟨wr.heap.size, 0, none⟩ 1 1 (gv W H N xg xc) [Y] rfl rfl hcellA hGvA (by omega) hbase ?_; intro v' w8 hV8 hg8 hq8))
                  have hrb : w2.heap.size ≤ rg := hq8 rg rfl
                  have kk8 : Keeps (fun q => q = rg) wa w8 := keeps_grownS hg8
                  have hnk : w4.heap.size ≠ rg := fun e => hVk.out (by rw [e]; rfl)
                  have hnt : w2.heap.size + 1 ≠ rg := fun e => HVA.out.notT hTk.out (by decide) (by rw [e]; rfl)
                  have hnx : xg ≠ rg := fun e => apart HVA.out HXA.out (by rw [e]; rfl)
                  have G8 := HGA2.out.keeps kk8 (by have := GQL.out; omega)
                  have GK8 := hGk.out.keeps kk8 hnk
                  have HT8 := hide (hTk.out.keeps kk8 hnt)
                  have HR8 := hide (hR1.out.keeps kk8 (by omega))
                  have HU8 := hide (hR2.out.keeps kk8 (by omega))
                  have HX8 := hide (HXA.out.keeps kk8 hnx)
                  have HB8 : Hid (Below w.heap.size w w8) := hide (hB.out.trans (kk8.below hB.out.size (fun q hq e => by omega)))
                  have hV8k : Hid (v'.ownBlock ≠ some w4.heap.size) := hide (hV8.notG (by rw [List.length_append]; have := hPR.out.ne; simp; omega) GK8)
                  have HV8 := hide hV8
                  have h12k : Hid ((wo.heap.size) ≠ w4.heap.size) := hide (by have := HK4.out; omega)
                  clear hg8 hq8 kk8 hV8 VA XA GA2 hwa BA GQ hcellA hGvA hbase hVk
                  go_upto_region 20 with (first
                    | (refine wpList_load_gd rfl (.tmp 12) rfl (wo.heap.size) rfl G8 ?_)
                    | (refine wpList_store_gd rfl (.tmp 10) (.tmp 92) rfl w4.heap.size rfl rfl GK8 ?_; intro w9 G9 kk9))
                  have HG9 := hide G9
                  have HT9 := hide (HT8.out.keeps kk9 (by omega))
                  have HR9 := hide (HR8.out.keeps kk9 (by omega))
                  have HU9 := hide (HU8.out.keeps kk9 (by omega))
                  have HX9 := hide (HX8.out.keeps kk9 (HX8.out.notCells GK8 (by decide)))
                  have HV9 := hide (HV8.out.keepsC kk9 GK8 (by decide) hV8k.out)
                  have HB9 : Hid (Below w.heap.size w w9) := hide (HB8.out.trans (kk9.below HB8.out.size (fun q hq e => by omega)))
                  have HVK := hV8k
                  have htb := hPR.out.tb
                  have hub := hPR.out.ub
                  clear G8 GK8 kk9 G9
                  have h01 : tn = 0 ∨ tn = 1 := by omega
                  rcases h01 with rfl | rfl
                  · rw [if_pos rfl, if_pos rfl] at HPP
                    obtain ⟨tk, htk⟩ : ∃ tk, t + k = tk := ⟨_, rfl⟩
                    rw [htk] at HPP
                    have hsum : (t : Int) + (k : Int) = (tk : Int) := by omega
                    have htk9 : tk ≤ 200000 := by omega
                    have cT := HT9.out.cells.1
                    have fT := HT9.out.frozen 0
                    have kk10 := Keeps.set1 w9 (w2.heap.size + 1) 0 (.int .i64 (tk : Int))
                    have HT10 := hide (HT9.out.set0 (tk : Int))
                    have HV10 := hide (HV9.out.keepsC kk10 HT9.out (by decide) (HV9.out.notT HT9.out (by decide)))
                    have HG10 := hide (HG9.out.keeps kk10 (by omega))
                    have HX10 := hide (HX9.out.keeps kk10 (HX9.out.notCells HT9.out (by decide)))
                    have HR10 := hide (HR9.out.keeps kk10 (by omega))
                    have HU10 := hide (HU9.out.keeps kk10 (by omega))
                    have HB10 : Hid (Below w.heap.size w (w9.setCell ⟨w2.heap.size + 1, 0, none⟩ (.int .i64 (tk : Int)))) := hide (HB9.out.trans (kk10.below HB9.out.size (fun q hq e => by omega)))
                    clear htk kk10
                    go_wp2_with fail
                    exact ⟨⟨j + 1, _, Y, tk, u, B ++ [Y], xg, xc, rfl, by omega, HPP, HR2, HV10, HVK, HG10, HX10, HT10, HR10, HU10, HB10⟩, by simp only [intOf]; omega⟩
                  · rw [if_neg (show ¬ (1 : Nat) = 0 by decide), if_neg (show ¬ (1 : Nat) = 0 by decide)] at HPP
                    obtain ⟨tk, htk⟩ : ∃ tk, u + k = tk := ⟨_, rfl⟩
                    rw [htk] at HPP
                    have hsum : (u : Int) + (k : Int) = (tk : Int) := by omega
                    have htk9 : tk ≤ 200000 := by omega
                    have cT := HT9.out.cells.2
                    have fT := HT9.out.frozen 1
                    have kk10 := Keeps.set1 w9 (w2.heap.size + 1) 1 (.int .i64 (tk : Int))
                    have HT10 := hide (HT9.out.set1 (tk : Int))
                    have HV10 := hide (HV9.out.keepsC kk10 HT9.out (by decide) (HV9.out.notT HT9.out (by decide)))
                    have HG10 := hide (HG9.out.keeps kk10 (by omega))
                    have HX10 := hide (HX9.out.keeps kk10 (HX9.out.notCells HT9.out (by decide)))
                    have HR10 := hide (HR9.out.keeps kk10 (by omega))
                    have HU10 := hide (HU9.out.keeps kk10 (by omega))
                    have HB10 : Hid (Below w.heap.size w (w9.setCell ⟨w2.heap.size + 1, 1, none⟩ (.int .i64 (tk : Int)))) := hide (HB9.out.trans (kk10.below HB9.out.size (fun q hq e => by omega)))
                    clear htk kk10
                    go_wp2_with fail
                    exact ⟨⟨j + 1, _, Y, t, tk, B ++ [Y], xg, xc, rfl, by omega, HPP, HR2, HV10, HVK, HG10, HX10, HT10, HR10, HU10, HB10⟩, by simp only [intOf]; omega⟩
              · have HRE : Hid ((s, 8) = RR) := hide (by
                  have e := hRn.out
                  rw [HRJ.out, HOL.out hin.out, if_neg (show ¬ (8 : Nat) = 0 by decide)] at e
                  exact e)
                replace hGk := hide (hGk.out.below hBq.out hGk.out.lt)
                replace hBw := hide (hBw.out.mono hBq.out)
                replace hTk := hide (hTk.out.below hBq.out hTk.out.lt)
                replace hR1 := hide (hR1.out.below hBq.out hR1.out.lt)
                replace hR2 := hide (hR2.out.below hBq.out hR2.out.lt)
                replace hB : Hid (Below w.heap.size w wr) := hide (hB.out.trans (hBq.out.mono hB.out.size))
                clear hRn HRJ
                by_cases hil : i < B.length
                · have hil' : (i : Int) < (B.length : Int) := by omega
                  go_upto_region 17 with fail
                  have HN1 := hide (hBw.out.notCells hR1.out (by decide))
                  have HN2 := hide (hBw.out.notCells hR2.out (by decide))
                  have GK := hGk.out
                  have TK := hTk.out
                  have GR := hR1.out
                  have TR := hR2.out
                  refine wp_region_held (S := fun W4 => Keeps (fun k => k = w.heap.size + 1 ∨ k = w.heap.size + 2) wr W4) (by kernel_rfl) ?_
                  change wpAnyH _ _ _ _ _ _ _ _ (World.drew _)
                  have SW : Keeps (fun k => k = w.heap.size + 1 ∨ k = w.heap.size + 2) wr wr.drew := (Keeps.refl _ wr).drew
                  have SW0 : Keeps (fun k => k = w.heap.size + 1) wr wr.drew := (Keeps.refl _ wr).drew
                  refine wpAnyH_take (i := 0) (v := .agg (gdA W H (some ⟨gq, 0, none⟩) N gc)) rfl (by kernel_rfl) (by kernel_rfl) (by kernel_rfl) (fun _ _ _ h => h) (yieldsIf_load_mid (by rfl) 24 _ rfl w4.heap.size 0 (by rfl) (gdA W H (some ⟨gq, 0, none⟩) N gc).toList _ (fun W4 hW4 => (GK.keeps hW4 (by omega)).range) Try.underlying24 rfl (by exact size24)) SW ?_
                  go_simp
                  refine wpAnyH_take (i := 1) (v := .agg #[.int .i64 t, .int .i64 u]) rfl (by kernel_rfl) (by kernel_rfl) (by kernel_rfl) (fun _ _ _ h => h) (yieldsIf_load_mid (by rfl) 37 _ rfl (w2.heap.size + 1) 0 (by rfl) [.int .i64 t, .int .i64 u] _ (fun W4 hW4 => (TK.keeps hW4 (by omega)).range) Try.underlying37 rfl (by exact size37)) SW ?_
                  go_simp
                  refine wpAnyH_take (i := 2) (v := .int .i64 j) rfl (by kernel_rfl) (by kernel_rfl) (by kernel_rfl) (fun _ _ _ h => h) (Or.inl ⟨by rfl, ?_⟩) SW ?_
                  · intro W4 hW4
                    go_simp <;> first | done | rfl | (rw [IntKind.wrap_i64]; omega) | omega
                  go_simp
                  refine wpAnyH_take (i := 3) (v := .int .i64 8) rfl (by kernel_rfl) (by kernel_rfl) (by kernel_rfl) (fun _ _ _ h => h) (Or.inl ⟨by rfl, ?_⟩) SW ?_
                  · intro W4 hW4
                    go_simp <;> first | done | rfl | (rw [IntKind.wrap_i64]; omega) | omega
                  go_simp
                  refine wpAnyH_ready (rs := [4]) (by kernel_rfl) (by simp) ?_
                  refine AllReadyH.cons rfl (fun K1 hK1 => ?_) AllReadyH.nil
                  refine wp_storeG (.tmp 4) (.tmp 84) rfl (w.heap.size + 1) rfl rfl GR ?_
                  intro w7 G7 kk7
                  refine hK1.out _ _ (SW.after kk7 (fun i _ e => .inl e)) (fun SW => ?_)
                  clear hK1 K1
                  go_simp
                  have T7 := TR.keeps (SW0.after kk7 (fun i _ e => e)) (by omega)
                  refine wpAnyH_ready (rs := [5]) (by kernel_rfl) (by simp) ?_
                  refine AllReadyH.cons rfl (fun K1 hK1 => ?_) AllReadyH.nil
                  refine wp_storeT (.tmp 5) (.tmp 85) rfl (w.heap.size + 2) rfl rfl T7 ?_
                  intro w8 T8 kk8
                  refine hK1.out _ _ (SW.after kk8 (fun i _ e => .inr e)) (fun SW => ?_)
                  clear hK1 K1
                  go_simp
                  refine wpAnyH_ready (rs := [6]) (by kernel_rfl) (by simp) ?_
                  refine AllReadyH.cons rfl (fun K1 hK1 => ?_) AllReadyH.nil
                  go_simp
                  refine hK1.out _ _ SW (fun SW => ?_)
                  clear hK1 K1
                  go_simp
                  refine wpAnyH_ready (rs := [7]) (by kernel_rfl) (by simp) ?_
                  refine AllReadyH.cons rfl (fun K1 hK1 => ?_) AllReadyH.nil
                  go_simp
                  refine hK1.out _ _ SW (fun SW => ?_)
                  clear hK1 K1
                  go_simp
                  refine wpAnyH_done (by kernel_rfl) ?_ _
                  have HG8 := hide (G7.keeps kk8 (by omega))
                  have HT8 := hide T8
                  have HX8 := hide (hBw.out.keeps SW (by rintro (e | e) <;> first | exact HN1.out e | exact HN2.out e))
                  have HB8 : Hid (Below w.heap.size w w8) := hide (hB.out.trans (SW.below hB.out.size (fun k hk e => by omega)))
                  clear GK TK GR TR T8 G7 T7 kk7 kk8 SW SW0
                  go_wp2_with fail
                  refine bodyPost_ret (results_play rfl _ _ (w.heap.size + 1) (w.heap.size + 2) rfl rfl HG8.out HT8.out rfl rfl) rfl ?_
                  rw [← HRE.out]
                  have q1 := hPR.out.t_
                  have q2 := hPR.out.u_
                  have q3 := hPR.out.m
                  have q4 := hPR.out.Z_
                  subst q1 q2 q3 q4
                  exact ⟨gq, gc, rfl, HX8.out, HB8.out⟩
                · have hil' : ¬ (i : Int) < (B.length : Int) := by omega
                  go_upto_region 17 with fail
                  have HN1 := hide (hBw.out.notCells hR1.out (by decide))
                  have HN2 := hide (hBw.out.notCells hR2.out (by decide))
                  have GK := hGk.out
                  have TK := hTk.out
                  have GR := hR1.out
                  have TR := hR2.out
                  refine wp_region_held (S := fun W4 => Keeps (fun k => k = w.heap.size + 1 ∨ k = w.heap.size + 2) wr W4) (by kernel_rfl) ?_
                  change wpAnyH _ _ _ _ _ _ _ _ (World.drew _)
                  have SW : Keeps (fun k => k = w.heap.size + 1 ∨ k = w.heap.size + 2) wr wr.drew := (Keeps.refl _ wr).drew
                  have SW0 : Keeps (fun k => k = w.heap.size + 1) wr wr.drew := (Keeps.refl _ wr).drew
                  refine wpAnyH_take (i := 0) (v := .agg (gdA W H (some ⟨gq, 0, none⟩) N gc)) rfl (by kernel_rfl) (by kernel_rfl) (by kernel_rfl) (fun _ _ _ h => h) (yieldsIf_load_mid (by rfl) 24 _ rfl w4.heap.size 0 (by rfl) (gdA W H (some ⟨gq, 0, none⟩) N gc).toList _ (fun W4 hW4 => (GK.keeps hW4 (by omega)).range) Try.underlying24 rfl (by exact size24)) SW ?_
                  go_simp
                  refine wpAnyH_take (i := 1) (v := .agg #[.int .i64 t, .int .i64 u]) rfl (by kernel_rfl) (by kernel_rfl) (by kernel_rfl) (fun _ _ _ h => h) (yieldsIf_load_mid (by rfl) 37 _ rfl (w2.heap.size + 1) 0 (by rfl) [.int .i64 t, .int .i64 u] _ (fun W4 hW4 => (TK.keeps hW4 (by omega)).range) Try.underlying37 rfl (by exact size37)) SW ?_
                  go_simp
                  refine wpAnyH_take (i := 2) (v := .int .i64 j) rfl (by kernel_rfl) (by kernel_rfl) (by kernel_rfl) (fun _ _ _ h => h) (Or.inl ⟨by rfl, ?_⟩) SW ?_
                  · intro W4 hW4
                    go_simp <;> first | done | rfl | (rw [IntKind.wrap_i64]; omega) | omega
                  go_simp
                  refine wpAnyH_take (i := 3) (v := .int .i64 8) rfl (by kernel_rfl) (by kernel_rfl) (by kernel_rfl) (fun _ _ _ h => h) (Or.inl ⟨by rfl, ?_⟩) SW ?_
                  · intro W4 hW4
                    go_simp <;> first | done | rfl | (rw [IntKind.wrap_i64]; omega) | omega
                  go_simp
                  refine wpAnyH_ready (rs := [4]) (by kernel_rfl) (by simp) ?_
                  refine AllReadyH.cons rfl (fun K1 hK1 => ?_) AllReadyH.nil
                  refine wp_storeG (.tmp 4) (.tmp 84) rfl (w.heap.size + 1) rfl rfl GR ?_
                  intro w7 G7 kk7
                  refine hK1.out _ _ (SW.after kk7 (fun i _ e => .inl e)) (fun SW => ?_)
                  clear hK1 K1
                  go_simp
                  have T7 := TR.keeps (SW0.after kk7 (fun i _ e => e)) (by omega)
                  refine wpAnyH_ready (rs := [5]) (by kernel_rfl) (by simp) ?_
                  refine AllReadyH.cons rfl (fun K1 hK1 => ?_) AllReadyH.nil
                  refine wp_storeT (.tmp 5) (.tmp 85) rfl (w.heap.size + 2) rfl rfl T7 ?_
                  intro w8 T8 kk8
                  refine hK1.out _ _ (SW.after kk8 (fun i _ e => .inr e)) (fun SW => ?_)
                  clear hK1 K1
                  go_simp
                  refine wpAnyH_ready (rs := [6]) (by kernel_rfl) (by simp) ?_
                  refine AllReadyH.cons rfl (fun K1 hK1 => ?_) AllReadyH.nil
                  go_simp
                  refine hK1.out _ _ SW (fun SW => ?_)
                  clear hK1 K1
                  go_simp
                  refine wpAnyH_ready (rs := [7]) (by kernel_rfl) (by simp) ?_
                  refine AllReadyH.cons rfl (fun K1 hK1 => ?_) AllReadyH.nil
                  go_simp
                  refine hK1.out _ _ SW (fun SW => ?_)
                  clear hK1 K1
                  go_simp
                  refine wpAnyH_done (by kernel_rfl) ?_ _
                  have HG8 := hide (G7.keeps kk8 (by omega))
                  have HT8 := hide T8
                  have HX8 := hide (hBw.out.keeps SW (by rintro (e | e) <;> first | exact HN1.out e | exact HN2.out e))
                  have HB8 : Hid (Below w.heap.size w w8) := hide (hB.out.trans (SW.below hB.out.size (fun k hk e => by omega)))
                  clear GK TK GR TR T8 G7 T7 kk7 kk8 SW SW0
                  go_wp2_with fail
                  refine bodyPost_ret (results_play rfl _ _ (w.heap.size + 1) (w.heap.size + 2) rfl rfl HG8.out HT8.out rfl rfl) rfl ?_
                  rw [← HRE.out]
                  have q1 := hPR.out.t_
                  have q2 := hPR.out.u_
                  have q3 := hPR.out.m
                  have q4 := hPR.out.Z_
                  subst q1 q2 q3 q4
                  exact ⟨gq, gc, rfl, HX8.out, HB8.out⟩
          · have KZ := KZ0.below hb6 KZ0.lt
            refine hK1.out _ _ B6 (fun SW => ?_)
            clear hK1 K1
            go_simp
            refine wpAnyH_take (i := 9) (v := .tuple #[.agg (gdA 0 0 none 0 0), .int .i64 0, .int .i64 (pE W H Z mI x : Nat)]) rfl (by kernel_rfl) (by kernel_rfl) (by kernel_rfl) (fun _ _ _ h => h) (Or.inl ⟨by rfl, ?_⟩) SW ?_
            · intro W4 hW4
              go_simp <;> first | done | rfl | (rw [IntKind.wrap_i64]; omega) | omega
            go_simp
            refine wpAnyH_take (i := 10) (v := .agg (gdA 0 0 none 0 0)) rfl (by kernel_rfl) (by kernel_rfl) (by kernel_rfl) (fun _ _ _ h => h) (Or.inl ⟨by rfl, ?_⟩) SW ?_
            · intro W4 hW4
              go_simp <;> first | done | rfl | (rw [IntKind.wrap_i64]; omega) | omega
            go_simp
            refine wpAnyH_take (i := 11) (v := .int .i64 0) rfl (by kernel_rfl) (by kernel_rfl) (by kernel_rfl) (fun _ _ _ h => h) (Or.inl ⟨by rfl, ?_⟩) SW ?_
            · intro W4 hW4
              go_simp <;> first | done | rfl | (rw [IntKind.wrap_i64]; omega) | omega
            go_simp
            refine wpAnyH_take (i := 12) (v := .int .i64 (pE W H Z mI x : Nat)) rfl (by kernel_rfl) (by kernel_rfl) (by kernel_rfl) (fun _ _ _ h => h) (Or.inl ⟨by rfl, ?_⟩) SW ?_
            · intro W4 hW4
              go_simp <;> first | done | rfl | (rw [IntKind.wrap_i64]; omega) | omega
            go_simp
            refine wpAnyH_ready (rs := [14]) (by kernel_rfl) (by simp) ?_
            refine AllReadyH.cons rfl (fun K1 hK1 => ?_) AllReadyH.nil
            refine wp_storeG (.tmp 12) (.tmp 63) rfl (wr.heap.size) rfl rfl KZ ?_
            intro w7 G7 kk7
            have B7 := SW.trans ((kk7.mono (Y := fun q => wr.heap.size ≤ q) (fun q _ e => by omega)).below (B := wr.heap.size) (by have := SW.size; first | omega | (rw [World.size_alloc]; omega)) (fun q hq e => by omega))
            refine hK1.out _ _ B7 (fun SW => ?_)
            clear B7
            clear hK1 K1
            go_simp
            refine wpAnyH_ready (rs := [15]) (by kernel_rfl) (by simp) ?_
            refine AllReadyH.cons rfl (fun K1 hK1 => ?_) AllReadyH.nil
            go_simp
            refine hK1.out _ _ SW (fun SW => ?_)
            clear hK1 K1
            go_simp
            refine wpAnyH_ready (rs := [16]) (by kernel_rfl) (by simp) ?_
            refine AllReadyH.cons rfl (fun K1 hK1 => ?_) AllReadyH.nil
            go_simp
            refine hK1.out _ _ SW (fun SW => ?_)
            clear hK1 K1
            go_simp
            refine wpAnyH_done (by kernel_rfl) ?_ _
            clear B6 hb6
            have hee : pE W H Z mI x ≠ 0 := h61
            have HRE : Hid ((s, pE W H Z mI x) = RR) := hide (by
              have e := hRn.out
              rw [HRJ.out, HNO.out hee, if_neg hee] at e
              exact e)
            obtain ⟨ee, hE⟩ : ∃ ee, pE W H Z mI x = ee := ⟨_, rfl⟩
            rw [hE] at HRE hee ⊢
            have hne : ((ee : Int) == 0) = false := by simpa using hee
            have hne2 : ((ee : Int) != 0) = true := by simpa using hee
            have hne0 : (0 : Int) < (B.length : Int) := by have := hPR.out.ne; omega
            obtain ⟨ra, rc, hvf, hrl, hrm, hrg⟩ := hV.out.form
            subst hvf
            have hrm' : rc ≤ 9223372036854775807 := by unfold maxLen at hrm; omega
            replace hGk := hide (hGk.out.below SW hGk.out.lt)
            replace hBw := hide (hBw.out.mono SW)
            replace hTk := hide (hTk.out.below SW hTk.out.lt)
            replace hR1 := hide (hR1.out.below SW hR1.out.lt)
            replace hR2 := hide (hR2.out.below SW hR2.out.lt)
            replace hB : Hid (Below w.heap.size w w7) := hide (hB.out.trans (SW.mono hB.out.size))
            clear hE h61 KZ kk7 HPU HNO HOL HNE HRJ hRn cj GK G7 SW hV hVk
            try clear KZ0
            go_wp2_with fail
            obtain ⟨wo, hwo⟩ : ∃ wo, wo = wr := ⟨_, rfl⟩
            subst hwo
            go_loopw [14, 15] (fun v14 v15 wq => v14 = .int .i64 ee ∧ v15 = .int .i64 0 ∧ Hid (wq = w7)) (fun _ _ _ => 0)
            case atStart => exact ⟨rfl, rfl, hide rfl⟩
            case round =>
              obtain ⟨rfl, rfl, hwq⟩ := hrel
              have hwq := hwq.out
              subst hwq
              go_upto_region 17 with fail
              have HN1 := hide (hBw.out.notCells hR1.out (by decide))
              have HN2 := hide (hBw.out.notCells hR2.out (by decide))
              have GK := hGk.out
              have TK := hTk.out
              have GR := hR1.out
              have TR := hR2.out
              refine wp_region_held (S := fun W4 => Keeps (fun k => k = w.heap.size + 1 ∨ k = w.heap.size + 2) wr W4) (by kernel_rfl) ?_
              change wpAnyH _ _ _ _ _ _ _ _ (World.drew _)
              have SW : Keeps (fun k => k = w.heap.size + 1 ∨ k = w.heap.size + 2) wr wr.drew := (Keeps.refl _ wr).drew
              have SW0 : Keeps (fun k => k = w.heap.size + 1) wr wr.drew := (Keeps.refl _ wr).drew
              refine wpAnyH_take (i := 0) (v := .agg (gdA W H (some ⟨gq, 0, none⟩) N gc)) rfl (by kernel_rfl) (by kernel_rfl) (by kernel_rfl) (fun _ _ _ h => h) (yieldsIf_load_mid (by rfl) 24 _ rfl w4.heap.size 0 (by rfl) (gdA W H (some ⟨gq, 0, none⟩) N gc).toList _ (fun W4 hW4 => (GK.keeps hW4 (by omega)).range) Try.underlying24 rfl (by exact size24)) SW ?_
              go_simp
              refine wpAnyH_take (i := 1) (v := .agg #[.int .i64 t, .int .i64 u]) rfl (by kernel_rfl) (by kernel_rfl) (by kernel_rfl) (fun _ _ _ h => h) (yieldsIf_load_mid (by rfl) 37 _ rfl (w2.heap.size + 1) 0 (by rfl) [.int .i64 t, .int .i64 u] _ (fun W4 hW4 => (TK.keeps hW4 (by omega)).range) Try.underlying37 rfl (by exact size37)) SW ?_
              go_simp
              refine wpAnyH_take (i := 2) (v := .int .i64 j) rfl (by kernel_rfl) (by kernel_rfl) (by kernel_rfl) (fun _ _ _ h => h) (Or.inl ⟨by rfl, ?_⟩) SW ?_
              · intro W4 hW4
                go_simp <;> first | done | rfl | (rw [IntKind.wrap_i64]; omega) | omega
              go_simp
              refine wpAnyH_take (i := 3) (v := .int .i64 ee) rfl (by kernel_rfl) (by kernel_rfl) (by kernel_rfl) (fun _ _ _ h => h) (Or.inl ⟨by rfl, ?_⟩) SW ?_
              · intro W4 hW4
                go_simp <;> first | done | rfl | (rw [IntKind.wrap_i64]; omega) | omega
              go_simp
              refine wpAnyH_ready (rs := [4]) (by kernel_rfl) (by simp) ?_
              refine AllReadyH.cons rfl (fun K1 hK1 => ?_) AllReadyH.nil
              refine wp_storeG (.tmp 4) (.tmp 84) rfl (w.heap.size + 1) rfl rfl GR ?_
              intro w7 G7 kk7
              refine hK1.out _ _ (SW.after kk7 (fun i _ e => .inl e)) (fun SW => ?_)
              clear hK1 K1
              go_simp
              have T7 := TR.keeps (SW0.after kk7 (fun i _ e => e)) (by omega)
              refine wpAnyH_ready (rs := [5]) (by kernel_rfl) (by simp) ?_
              refine AllReadyH.cons rfl (fun K1 hK1 => ?_) AllReadyH.nil
              refine wp_storeT (.tmp 5) (.tmp 85) rfl (w.heap.size + 2) rfl rfl T7 ?_
              intro w8 T8 kk8
              refine hK1.out _ _ (SW.after kk8 (fun i _ e => .inr e)) (fun SW => ?_)
              clear hK1 K1
              go_simp
              refine wpAnyH_ready (rs := [6]) (by kernel_rfl) (by simp) ?_
              refine AllReadyH.cons rfl (fun K1 hK1 => ?_) AllReadyH.nil
              go_simp
              refine hK1.out _ _ SW (fun SW => ?_)
              clear hK1 K1
              go_simp
              refine wpAnyH_ready (rs := [7]) (by kernel_rfl) (by simp) ?_
              refine AllReadyH.cons rfl (fun K1 hK1 => ?_) AllReadyH.nil
              go_simp
              refine hK1.out _ _ SW (fun SW => ?_)
              clear hK1 K1
              go_simp
              refine wpAnyH_done (by kernel_rfl) ?_ _
              have HG8 := hide (G7.keeps kk8 (by omega))
              have HT8 := hide T8
              have HX8 := hide (hBw.out.keeps SW (by rintro (e | e) <;> first | exact HN1.out e | exact HN2.out e))
              have HB8 : Hid (Below w.heap.size w w8) := hide (hB.out.trans (SW.below hB.out.size (fun k hk e => by omega)))
              clear GK TK GR TR T8 G7 T7 kk7 kk8 SW SW0
              go_wp2_with fail
              refine bodyPost_ret (results_play rfl _ _ (w.heap.size + 1) (w.heap.size + 2) rfl rfl HG8.out HT8.out rfl rfl) rfl ?_
              rw [← HRE.out]
              have q1 := hPR.out.t_
              have q2 := hPR.out.u_
              have q3 := hPR.out.m
              have q4 := hPR.out.Z_
              subst q1 q2 q3 q4
              exact ⟨gq, gc, rfl, HX8.out, HB8.out⟩
    · obtain rfl : j = ln := by omega
      have hjl' : ¬ (j : Int) < (j : Int) := by omega
      have hRJ := hRn.out
      rw [List.drop_of_length_le (by omega)] at hRJ
      have HRE : Hid ((s, 0) = RR) := hide (by rw [← hRJ]; unfold runP; rfl)
      clear hRJ hRn
      go_upto_region 21 with fail
      have HN1 := hide (hBw.out.notCells hR1.out (by decide))
      have HN2 := hide (hBw.out.notCells hR2.out (by decide))
      have GK := hGk.out
      have TK := hTk.out
      have GR := hR1.out
      have TR := hR2.out
      refine wp_region_held (S := fun W4 => Keeps (fun k => k = w.heap.size + 1 ∨ k = w.heap.size + 2) wr W4) (by kernel_rfl) ?_
      change wpAnyH _ _ _ _ _ _ _ _ (World.drew _)
      have SW : Keeps (fun k => k = w.heap.size + 1 ∨ k = w.heap.size + 2) wr wr.drew := (Keeps.refl _ wr).drew
      have SW0 : Keeps (fun k => k = w.heap.size + 1) wr wr.drew := (Keeps.refl _ wr).drew
      refine wpAnyH_take (i := 0) (v := .agg (gdA W H (some ⟨gq, 0, none⟩) N gc)) rfl (by kernel_rfl) (by kernel_rfl) (by kernel_rfl) (fun _ _ _ h => h) (yieldsIf_load_mid (by rfl) 24 _ rfl w4.heap.size 0 (by rfl) (gdA W H (some ⟨gq, 0, none⟩) N gc).toList _ (fun W4 hW4 => (GK.keeps hW4 (by omega)).range) Try.underlying24 rfl (by exact size24)) SW ?_
      go_simp
      refine wpAnyH_take (i := 1) (v := .agg #[.int .i64 t, .int .i64 u]) rfl (by kernel_rfl) (by kernel_rfl) (by kernel_rfl) (fun _ _ _ h => h) (yieldsIf_load_mid (by rfl) 37 _ rfl (w2.heap.size + 1) 0 (by rfl) [.int .i64 t, .int .i64 u] _ (fun W4 hW4 => (TK.keeps hW4 (by omega)).range) Try.underlying37 rfl (by exact size37)) SW ?_
      go_simp
      refine wpAnyH_take (i := 2) (v := .slice la j lc) rfl (by kernel_rfl) (by kernel_rfl) (by kernel_rfl) (fun _ _ _ h => h) (Or.inl ⟨by rfl, ?_⟩) SW ?_
      · intro W4 hW4
        go_simp <;> first | done | rfl | (rw [IntKind.wrap_i64]; omega) | omega
      go_simp
      refine wpAnyH_take (i := 3) (v := .int .i64 j) rfl (by kernel_rfl) (by kernel_rfl) (by kernel_rfl) (fun _ _ _ h => h) (Or.inl ⟨by rfl, ?_⟩) SW ?_
      · intro W4 hW4
        go_simp <;> first | done | rfl | (rw [IntKind.wrap_i64]; omega) | omega
      go_simp
      refine wpAnyH_ready (rs := [4]) (by kernel_rfl) (by simp) ?_
      refine AllReadyH.cons rfl (fun K1 hK1 => ?_) AllReadyH.nil
      refine wp_storeG (.tmp 4) (.tmp 100) rfl (w.heap.size + 1) rfl rfl GR ?_
      intro w7 G7 kk7
      refine hK1.out _ _ (SW.after kk7 (fun i _ e => .inl e)) (fun SW => ?_)
      clear hK1 K1
      go_simp
      have T7 := TR.keeps (SW0.after kk7 (fun i _ e => e)) (by omega)
      refine wpAnyH_ready (rs := [5]) (by kernel_rfl) (by simp) ?_
      refine AllReadyH.cons rfl (fun K1 hK1 => ?_) AllReadyH.nil
      refine wp_storeT (.tmp 5) (.tmp 101) rfl (w.heap.size + 2) rfl rfl T7 ?_
      intro w8 T8 kk8
      refine hK1.out _ _ (SW.after kk8 (fun i _ e => .inr e)) (fun SW => ?_)
      clear hK1 K1
      go_simp
      refine wpAnyH_ready (rs := [6]) (by kernel_rfl) (by simp) ?_
      refine AllReadyH.cons rfl (fun K1 hK1 => ?_) AllReadyH.nil
      go_simp
      refine hK1.out _ _ SW (fun SW => ?_)
      clear hK1 K1
      go_simp
      refine wpAnyH_ready (rs := [7]) (by kernel_rfl) (by simp) ?_
      refine AllReadyH.cons rfl (fun K1 hK1 => ?_) AllReadyH.nil
      go_simp
      refine hK1.out _ _ SW (fun SW => ?_)
      clear hK1 K1
      go_simp
      refine wpAnyH_done (by kernel_rfl) ?_ _
      have HG8 := hide (G7.keeps kk8 (by omega))
      have HT8 := hide T8
      have HX8 := hide (hBw.out.keeps SW (by rintro (e | e) <;> first | exact HN1.out e | exact HN2.out e))
      have HB8 : Hid (Below w.heap.size w w8) := hide (hB.out.trans (SW.below hB.out.size (fun k hk e => by omega)))
      clear GK TK GR TR T8 G7 T7 kk7 kk8 SW SW0
      go_wp2_with fail
      refine bodyPost_ret (results_play rfl _ _ (w.heap.size + 1) (w.heap.size + 2) rfl rfl HG8.out HT8.out rfl rfl) rfl ?_
      rw [← HRE.out]
      have q1 := hPR.out.t_
      have q2 := hPR.out.u_
      have q3 := hPR.out.m
      have q4 := hPR.out.Z_
      subst q1 q2 q3 q4
      exact ⟨gq, gc, rfl, HX8.out, HB8.out⟩
end Go.Proofs.Ytafiaimlmdflnaa
