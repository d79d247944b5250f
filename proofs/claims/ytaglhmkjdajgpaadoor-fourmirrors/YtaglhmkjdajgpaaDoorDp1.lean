/-
  Whether a sign would make a row; boards compared; where a number lies in a list. No conditions beyond those that each theorem bears.
-/
import Derived.Test.YtaglhmkjdajgpaaDoorWo
import Derived.Test.YtaglhmkjdajgpaaDoorWinsLaw
namespace Go.Proofs.YtaglhmkjdajgpaaDoor
open Go.RowKit

theorem results_gdt {fn : Func} {t u : Tmp} (h : fn.results = #[.cell t 24, .tmp u]) (tmps : Array Value) (w : World) (b : Nat) (hb : tmps.getD t undef = .pointer (some ⟨b, 0, none⟩)) {W H : Int} {ad : Option Addr} {n c : Nat} (hr : Gd w b W H ad n c) {v : Value} (hv : tmps.getD u undef = v) :
    (results fn tmps).run Tryd.prog w = .ok (.tuple #[.agg (gdA W H ad n c), v]) w := by
  have hb' : tmps[t]?.getD undef = .pointer (some ⟨b, 0, none⟩) := by simpa using hb
  have hv' : tmps[u]?.getD undef = v := by simpa using hv
  have hl := run_loadVar_row (P := Tryd.prog) w b 24 24 (gdA W H ad n c) (0, 0) _ hr Tryd.underlying24 rfl size24
  simp [results, h, hb', hv', asAddr, hl]

set_option maxHeartbeats 400000 in
theorem sameInts2_any (a b : Option Addr) (n c m d : Nat) (xs ys : List Int) (w : World) (hx : Rd w a n c xs) (hy : Rd w b m d ys) :
    Calls Tryd.prog 36 #[.slice a n c, .slice b m d] w fun e w' => e = .returned (.bool (decide (xs = ys))) ∧ ∃ k, w' = w.drewN k := by
  have hmx := hx.max
  have hcx := hx.cap
  have hmy := hy.max
  have hcy := hy.cap
  unfold maxLen at hmx hmy
  by_cases hnm : n = m
  · subst hnm
    have hne : ((n : Int) != (n : Int)) = false := by simp
    by_cases h0 : n = 0
    · subst h0
      have ex : xs = [] := List.eq_nil_of_length_eq_zero hx.len
      have ey : ys = [] := List.eq_nil_of_length_eq_zero hy.len
      subst ex ey
      go_enter Tryd.func36, Tryd.ntmps36
      go_wp2
      refine wp_loop_rounds 1 ?_
      rw [rounds_succ]
      go_wp2
      go_ret
      exact ⟨rfl, 0, rfl⟩
    · obtain ⟨b1, o1, rfl, hc1⟩ := hx.cells (by omega)
      obtain ⟨b2, o2, rfl, hc2⟩ := hy.cells (by omega)
      have lx : Hid (xs.length = n) := hx.len
      have ly : Hid (ys.length = n) := hy.len
      clear hx hy
      go_enter Tryd.func36, Tryd.ntmps36
      go_wp2
      go_loopw [5] (fun i wr => ∃ k q : Nat, k ≤ n ∧ i = .int .i64 k ∧ wr = w.drewN q ∧ Hid (xs.take k = ys.take k)) (fun i _ => n - (intOf i).toNat)
      case atStart => exact ⟨0, 0, by omega, rfl, rfl, by simp [Hid]⟩
      case round =>
        obtain ⟨k, q, hk, rfl, rfl, hq⟩ := hrel
        by_cases hlt : k < n
        · have e1 := hc1 k hlt
          have e2 := hc2 k hlt
          clear hc1 hc2
          have hlt' : (k : Int) < (n : Int) := by omega
          have hs := take_succ_eq xs ys k (by rw [lx.out]; exact hlt) (by rw [ly.out]; exact hlt)
          have HS := hide hs
          clear hs
          by_cases hv : xs.getD k 0 = ys.getD k 0
          · have hb : (xs[k]?.getD 0 != ys[k]?.getD 0) = false := by simpa using hv
            have HV := hide hv
            clear hv
            go_wp2
            go_quiet (fail)
            go_wp2
            go_roundw
            case rel => exact ⟨k + 1, _, by omega, by go_num, rfl, HS.out.2 ⟨hq.out, HV.out⟩⟩
            case measure => simp [intOf]; omega
          · have hb : (xs[k]?.getD 0 != ys[k]?.getD 0) = true := by simpa using hv
            go_wp2
            go_quiet (fail)
            go_wp2
            go_ret
            exact ⟨ret_bool (by symm; rw [decide_eq_false_iff_not]; rintro rfl; exact hv rfl), _, World.drewN_drewN _ _ _⟩
        · have hlt' : ¬ (k : Int) < (n : Int) := by omega
          obtain rfl : k = n := by omega
          go_wp2
          go_ret
          refine ⟨ret_bool ?_, _, rfl⟩
          symm
          rw [decide_eq_true_iff]
          have h1 := hq.out
          rw [List.take_of_length_le (by rw [lx.out]; exact Nat.le_refl _), List.take_of_length_le (by rw [ly.out]; exact Nat.le_refl _)] at h1
          exact h1
  · have hne : ((n : Int) != (m : Int)) = true := by rw [bne_iff_ne]; omega
    go_enter Tryd.func36, Tryd.ntmps36
    go_wp2
    go_ret
    exact ⟨ret_bool (by symm; rw [decide_eq_false_iff_not]; rintro rfl; exact hnm (hx.len.symm.trans hy.len)), 0, rfl⟩



set_option maxHeartbeats 1000000 in
theorem SameGrid_yes (W H : Int) (a b : Option Addr) (n c d : Nat) (xs : List Int) (w : World) (hx : Rd w a n c xs) (hy : Rd w b n d xs) :
    Calls Tryd.prog 14 #[.agg (gdA W H a n c), .agg (gdA W H b n d)] w fun e w' => e = .returned (.bool true) ∧ Below w.heap.size w w' := by
  obtain ⟨w1, hw1⟩ : ∃ w1, (w.alloc (.cells (gdA W H a n c) 24)).alloc (.cells (gdA W H b n d) 24) = w1 := ⟨_, rfl⟩
  have HB : Hid (Below w.heap.size w w1) := hide (by rw [← hw1]; exact ((Below.refl _ _).alloc (Nat.le_refl _) _).alloc (by simp) _)
  have HS := hide (sameInts2_any a b n c n d xs xs w1 (hx.mono HB.out) (hy.mono HB.out))
  rw [decide_eq_true rfl] at HS
  obtain ⟨g0, g1, g2⟩ := (show Gd w1 w.heap.size W H a n c by rw [← hw1]; exact (Gd.new w _ _ _ _ _).old _).cells
  obtain ⟨k0, k1, k2⟩ := (show Gd w1 (w.heap.size + 1) W H b n d by rw [← hw1]; have := Gd.new (w.alloc (.cells (gdA W H a n c) 24)) W H b n d; rw [World.size_alloc] at this; exact this).cells
  clear hx hy
  go_enter Tryd.func14, Tryd.ntmps14
  go_upto_region 1 with fail
  clear hw1
  go_wp2_with fail
  refine HS.out.mono ?_
  rintro e w2 ⟨rfl, q, rfl⟩
  have HB2 := hide (HB.out.trans (drewN_below w.heap.size w1 q))
  clear g0 g1 g2 k0 k1 k2 HS
  go_wp2_with fail
  go_ret
  exact ⟨rfl, HB2.out⟩

set_option maxHeartbeats 1000000 in
theorem noGrid_zero (w : World) : Calls Tryd.prog 12 #[.agg (gdA 0 0 none 0 0)] w fun e w' => e = .returned (.bool true) ∧ Below w.heap.size w w' := by
  go_enter Tryd.func12, Tryd.ntmps12
  go_wp2
  go_ret
  exact ⟨rfl, (Below.refl _ _).alloc (Nat.le_refl _) _⟩

set_option maxRecDepth 100000 in
set_option maxHeartbeats 2000000 in
theorem at_any (a : Option Addr) (n c : Nat) (zs : List Int) (x : Int) (hn : n ≤ 100) (w : World) (h : Rd w a n c zs) :
    Calls Tryd.prog 37 #[.slice a n c, .int .i64 x] w fun e w' => (∃ r : Int, e = .returned (.int .i64 r) ∧ -1 ≤ r ∧ r ≤ 100 ∧ (0 ≤ r ↔ x ∈ zs)) ∧ w' = w := by
  have hcm := h.max
  unfold maxLen at hcm
  have hcc := h.cap
  have HL := hide h.len
  have HC : Hid (∀ i, i < n → ∃ b off, a = some ⟨b, off, none⟩ ∧ w.cell? ⟨b, off + i, none⟩ = some (.int .i64 (zs.getD i 0))) := hide (fun i hi => by
    obtain ⟨b, off, e, hc⟩ := h.cells (by omega)
    exact ⟨b, off, e, hc i hi⟩)
  clear h
  go_enter Tryd.func37, Tryd.ntmps37
  go_wp2_with fail
  go_loopw [5] (fun v wr => ∃ i : Nat, v = .int .i64 i ∧ i ≤ n ∧ Hid (∀ j, j < i → zs.getD j 0 ≠ x) ∧ w = wr) (fun v _ => n - (intOf v).toNat)
  case atStart => exact ⟨0, rfl, by omega, hide (fun j hj => absurd hj (by omega)), rfl⟩
  case round =>
    obtain ⟨i, rfl, hi, hall, rfl⟩ := hrel
    by_cases hlt : i < n
    · have hlt' : (i : Int) < (n : Int) := by omega
      obtain ⟨b, off, rfl, cx⟩ := HC.out i hlt
      have HMEM : Hid (zs.getD i 0 = x → x ∈ zs) := hide (fun e => by rw [← e]; exact getD_mem (by rw [HL.out]; exact hlt))
      have HN : Hid (zs.getD i 0 ≠ x → ∀ j, j < i + 1 → zs.getD j 0 ≠ x) := hide (fun e j hj => by
        by_cases e2 : j = i
        · subst e2; exact e
        · exact hall.out j (by omega))
      obtain ⟨z, hz⟩ : ∃ z, zs.getD i 0 = z := ⟨_, rfl⟩
      rw [hz] at cx HMEM HN
      clear hz
      by_cases e : z = x
      · have hb : (z == x) = true := by simpa using e
        have HM := hide (HMEM.out e)
        clear e HMEM HN
        go_wp2_with fail
        go_ret
        exact ⟨⟨_, rfl, by omega, by omega, fun _ => HM.out, fun _ => by omega⟩, rfl⟩
      · have hb : (z == x) = false := by simpa using e
        have HM := hide (HN.out e)
        clear e HMEM HN
        go_wp2_with fail
        exact ⟨⟨i + 1, by go_num, by omega, HM, trivial⟩, by simp [intOf]; omega⟩
    · have hlt' : ¬ (i : Int) < (n : Int) := by omega
      have HM : Hid (¬ x ∈ zs) := hide (fun hx => by
        obtain ⟨j, hj, e⟩ := List.getElem_of_mem hx
        refine hall.out j (by have := HL.out; omega) ?_
        simp [List.getD, hj, e])
      go_wp2_with fail
      go_ret
      exact ⟨⟨_, rfl, by omega, by omega, fun h => by omega, fun h => absurd h HM.out⟩, rfl⟩

attribute [local irreducible] inR

set_option maxRecDepth 100000 in
set_option maxHeartbeats 4000000 in
theorem makesRow_any (g : Wp) (hg : g.Ok) (Z : List Int) (p m : Nat) (hp : p < g.n) (h0 : Z.getD p 0 = 0) (w : World) (h : WS g w Z) :
    Calls Tryd.prog 31 #[.pointer (some ⟨g.wb, 0, none⟩), .int .i64 p, .int .i64 (m : Nat)] w fun e w' => e = .returned (.bool (inR g.W g.H (Z.set p (m : Int)) p g.k)) ∧ Below w.heap.size w w' := by
  have hcap := h.cap
  have hcm := hcap.2.1
  unfold maxLen at hcm
  have hcn := hcap.1
  have hn := hg.n100
  obtain ⟨f0, f1, f2, f3⟩ := h.fields
  obtain ⟨cp, fp⟩ := h.cell hp
  obtain ⟨W1, hW1⟩ : ∃ W1, w.setCell ⟨g.cb, p, none⟩ (.int .i64 (m : Int)) = W1 := ⟨_, rfl⟩
  have HG1 : Hid (WS g W1 (Z.set p (m : Int))) := hide (by rw [← hW1]; exact h.set hg p m)
  have HK1 : Hid (Keeps (fun k => k = g.cb) w W1) := hide (by rw [← hW1]; exact Keeps.set1 w g.cb p _)
  have HBK : Hid (∀ w2 : World, w2.heap[g.cb]? = W1.heap[g.cb]? → (w2.setCell ⟨g.cb, p, none⟩ (.int .i64 0)).heap[g.cb]? = w.heap[g.cb]?) := hide (fun w2 hb => h.back hp h0 (m : Int) (by rw [hb, hW1]))
  have HIN := hide (fun W4 (h4 : WS g W4 (Z.set p (m : Int))) => inRow_any g.W g.H (some ⟨g.cb, 0, none⟩) g.n g.cc p g.k (Z.set p (m : Int)) hg.w hg.h hg.n hp (by have := hg.k; omega) W4 h4.t h4.rd)
  obtain ⟨I, hI⟩ : ∃ I, inR g.W g.H (Z.set p (m : Int)) p g.k = I := ⟨_, rfl⟩
  rw [hI] at HIN ⊢
  clear hI h hcap h0 hg
  go_enter Tryd.func31, Tryd.ntmps31
  go_upto_region 2 with fail
  clear hW1 f0 f1 f2 f3 cp fp
  refine wp_region_held (S := fun W4 => WS g W4 (Z.set p (m : Int))) (by kernel_rfl) ?_
  change wpAnyH _ _ _ _ _ _ _ _ (World.drew _)
  have SW : WS g W1.drew (Z.set p (m : Int)) := HG1.out.grow (Below.refl _ W1).drew
  refine wpAnyH_take (i := 0) (v := .pointer (some ⟨g.wb, 0, none⟩)) rfl (by kernel_rfl) (by kernel_rfl) (by kernel_rfl) (fun _ _ _ h => h) (Or.inl ⟨by rfl, ?_⟩) SW ?_
  · intro W4 hW4
    go_simp <;> first | done | rfl | (rw [IntKind.wrap_i64]; omega) | omega
  go_simp
  refine wpAnyH_take (i := 1) (v := .pointer (some ⟨g.wb, 0, none⟩)) rfl (by kernel_rfl) (by kernel_rfl) (by kernel_rfl) (fun _ _ _ h => h) (Or.inl ⟨by rfl, ?_⟩) SW ?_
  · intro W4 hW4
    go_simp <;> first | done | rfl | (rw [IntKind.wrap_i64]; omega) | omega
  go_simp
  refine wpAnyH_take (i := 2) (v := .pointer (some ⟨g.wb, 0, none⟩)) rfl (by kernel_rfl) (by kernel_rfl) (by kernel_rfl) (fun _ _ _ h => h) (Or.inl ⟨by rfl, ?_⟩) SW ?_
  · intro W4 hW4
    go_simp <;> first | done | rfl | (rw [IntKind.wrap_i64]; omega) | omega
  go_simp
  refine wpAnyH_take (i := 3) (v := .agg (gdA g.W g.H (some ⟨g.cb, 0, none⟩) g.n g.cc)) rfl (by kernel_rfl) (by kernel_rfl) (by kernel_rfl) (fun _ _ _ h => h) (yieldsIf_load_mid (by rfl) 24 _ rfl g.wb 0 (by rfl) [.int .i64 g.W, .int .i64 g.H, .slice (some ⟨g.cb, 0, none⟩) g.n g.cc] _ (fun W hW => hW.range) Tryd.underlying24 rfl size24) SW ?_
  go_simp
  refine wpAnyH_take (i := 4) (v := .int .i64 p) rfl (by kernel_rfl) (by kernel_rfl) (by kernel_rfl) (fun _ _ _ h => h) (Or.inl ⟨by rfl, ?_⟩) SW ?_
  · intro W4 hW4
    go_simp <;> first | done | rfl | (rw [IntKind.wrap_i64]; omega) | omega
  go_simp
  refine wpAnyH_take (i := 5) (v := .pointer (some ⟨g.wb, 0, none⟩)) rfl (by kernel_rfl) (by kernel_rfl) (by kernel_rfl) (fun _ _ _ h => h) (Or.inl ⟨by rfl, ?_⟩) SW ?_
  · intro W4 hW4
    go_simp <;> first | done | rfl | (rw [IntKind.wrap_i64]; omega) | omega
  go_simp
  refine wpAnyH_take (i := 6) (v := .pointer (some ⟨g.wb, 0, none⟩)) rfl (by kernel_rfl) (by kernel_rfl) (by kernel_rfl) (fun _ _ _ h => h) (Or.inl ⟨by rfl, ?_⟩) SW ?_
  · intro W4 hW4
    go_simp <;> first | done | rfl | (rw [IntKind.wrap_i64]; omega) | omega
  go_simp
  refine wpAnyH_take (i := 7) (v := .pointer (some ⟨g.wb, 3, none⟩)) rfl (by kernel_rfl) (by kernel_rfl) (by kernel_rfl) (fun _ _ _ h => h) (Or.inl ⟨by rfl, ?_⟩) SW ?_
  · intro W4 hW4
    go_simp <;> first | done | rfl | (rw [IntKind.wrap_i64]; omega) | omega
  go_simp
  refine wpAnyH_take (i := 8) (v := .int .i64 (g.k : Nat)) rfl (by kernel_rfl) (by kernel_rfl) (by kernel_rfl) (fun _ _ _ h => h) (Or.inl ⟨by rfl, ?_⟩) SW ?_
  · intro W4 hW4
    obtain ⟨f0, f1, f2, f3⟩ := hW4.fields
    go_simp <;> first | done | rfl | (rw [IntKind.wrap_i64]; omega) | omega
  go_simp
  refine wpAnyH_ready (rs := [9]) (by kernel_rfl) (by simp) ?_
  refine AllReadyH.cons rfl (fun K1 hK1 => ?_) AllReadyH.nil
  go_simp
  refine (HIN.out _ SW).mono ?_
  rintro e w5 ⟨rfl, hb5⟩
  have B5 : Below W1.heap.size W1 w5 := (Below.refl _ W1).drew.trans hb5
  refine hK1.out _ _ (SW.grow hb5) (fun SW => ?_)
  clear hK1 K1 hb5
  go_simp
  refine wpAnyH_take (i := 10) (v := .bool I) rfl (by kernel_rfl) (by kernel_rfl) (by kernel_rfl) (fun _ _ _ h => h) (Or.inl ⟨by rfl, ?_⟩) SW ?_
  · intro W4 hW4
    go_simp <;> first | done | rfl | (rw [IntKind.wrap_i64]; omega) | omega
  go_simp
  refine wpAnyH_done (by kernel_rfl) ?_ _
  have HG5 := hide SW
  have HB5 := hide B5
  clear SW B5
  obtain ⟨f0, f1, f2, f3⟩ := HG5.out.fields
  obtain ⟨cp, fp⟩ := HG5.out.cell hp
  go_wp2_with fail
  go_ret
  refine ⟨rfl, below_of_keeps (b := g.cb) ((HK1.out.trans (Keeps.of_all HB5.out)).setCell (p := ⟨g.cb, p, none⟩) (X := fun k => k = g.cb) rfl _) (HBK.out _ (HB5.out.block _ HG1.out.lt.2))⟩

end Go.Proofs.YtaglhmkjdajgpaaDoor
