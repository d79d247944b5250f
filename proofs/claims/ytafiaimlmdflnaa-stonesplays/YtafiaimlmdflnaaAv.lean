/-
  The face Areas. No conditions beyond those that each theorem bears.
-/
import Derived.Test.YtafiaimlmdflnaaAr
namespace Go.Proofs.Ytafiaimlmdflnaa
open Go.RowKit Go.Shelf

theorem results_t4 {fn : Func} {t u x y : Tmp} (h : fn.results = #[.tmp t, .tmp u, .tmp x, .tmp y]) (tmps : Array Value) (w : World) {v1 v2 v3 v4 : Value} (h1 : tmps.getD t undef = v1) (h2 : tmps.getD u undef = v2) (h3 : tmps.getD x undef = v3) (h4 : tmps.getD y undef = v4) :
    (results fn tmps).run Try.prog w = .ok (.tuple #[v1, v2, v3, v4]) w := by
  have e1 : tmps[t]?.getD undef = v1 := by simpa using h1
  have e2 : tmps[u]?.getD undef = v2 := by simpa using h2
  have e3 : tmps[x]?.getD undef = v3 := by simpa using h3
  have e4 : tmps[y]?.getD undef = v4 := by simpa using h4
  simp [results, h, e1, e2, e3, e4]

theorem getD_bound {Z : List Int} (h : ∀ z ∈ Z, 0 ≤ z ∧ z ≤ 2) (q : Nat) : 0 ≤ Z.getD q 0 ∧ Z.getD q 0 ≤ 2 := by
  by_cases hq : q < Z.length
  · exact h _ (getD_mem hq)
  · rw [List.getD, List.getElem?_eq_none (by omega)]; simp

attribute [local irreducible] D4 spr rgs rgsU ow stc bump art full

set_option maxRecDepth 100000 in
set_option maxHeartbeats 8000000 in
theorem Areas_yes (W H cb co N c : Nat) (zs : List Int) (w : World) (h : Rd w (some ⟨cb, co, none⟩) N c zs) (hm : mayP W H zs) :
    Calls Try.prog 21 #[.agg (gdA W H (some ⟨cb, co, none⟩) N c)] w fun e w' => (∃ x0 x1 x2 : Nat, art W H N zs (rgs N (nb4 W H) fun q => zs.getD q 0 = 0) = [x0, x1, x2] ∧ e = .returned (.tuple #[.int .i64 x1, .int .i64 x2, .int .i64 x0, .int .i64 0])) ∧ Below w.heap.size w w' := by
  obtain ⟨A, B', e1, e2, hW, hH, hN, hz⟩ := may_nat hm h.len
  obtain rfl : W = A := by omega
  obtain rfl : H = B' := by omega
  have B1 := (Below.refl w.heap.size w).alloc (Nat.le_refl _) (.cells (gdA W H (some ⟨cb, co, none⟩) N c) 24)
  have HM := hide (May_any W H (some ⟨cb, co, none⟩) N c zs _ (h.mono B1))
  rw [mayG_yes hm] at HM
  have hG := Gd.new w W H (some ⟨cb, co, none⟩) N c
  have HG := hide hG
  have HB := hide B1
  have HS : Hid (w.heap.size ≤ (w.alloc (.cells (gdA W H (some ⟨cb, co, none⟩) N c) 24)).heap.size) := hide B1.size
  have HAR := hide (fun W4 (hb : Below w.heap.size w W4) => areas_any W H N c cb co zs W4 hW hH hN (getD_bound hz) (h.mono hb))
  obtain ⟨x0, x1, x2, hA⟩ : ∃ x0 x1 x2 : Nat, art W H N zs (rgs N (nb4 W H) fun q => zs.getD q 0 = 0) = [x0, x1, x2] := by
    have := art_len W H N zs (rgs N (nb4 W H) fun q => zs.getD q 0 = 0)
    match hh : art W H N zs (rgs N (nb4 W H) fun q => zs.getD q 0 = 0), this with
    | [a, b, c], _ => exact ⟨a, b, c, rfl⟩
  have hsum : x0 + x1 + x2 ≤ 100 := by
    have h1 := art_sum W H N zs (rgs N (nb4 W H) fun q => zs.getD q 0 = 0) (getD_bound hz)
    have h2 := empties_len (W := W) (H := H) (N := N) (Z := zs) hN
    have h3 : N ≤ 100 := by rw [← hN]; exact Nat.mul_le_mul hW.2 hH.2
    rw [hA] at h1
    simp only [List.sum_cons, List.sum_nil] at h1
    omega
  rw [hA] at HAR
  have HAE := hide hA
  clear B1 hm h e1 e2 hA
  go_enter Try.func21, Try.ntmps21
  go_wp2_with (first | (refine wpList_load_gd rfl (.tmp 1) rfl w.heap.size rfl hG ?_) | fail)
  refine HM.out.mono ?_
  rintro e w2 ⟨rfl, hb2⟩
  have HB2 : Hid (Below w.heap.size w w2) := hide (HB.out.trans (hb2.mono HS.out))
  have hG2 := HG.out.below hb2 HG.out.lt
  clear hb2 HM hG
  go_wp2_with (first | (refine wpList_load_gd rfl (.tmp 1) rfl w.heap.size rfl hG2 ?_) | fail)
  refine (HAR.out _ HB2.out).mono ?_
  rintro e w3 ⟨rfl, hb3⟩
  have HB3 : Hid (Below w.heap.size w w3) := hide (HB2.out.trans (hb3.mono HB2.out.size))
  clear hb3 hG2
  rw [show (ivs (toI [x0, x1, x2])).toArray = #[.int .i64 x0, .int .i64 x1, .int .i64 x2] from rfl]
  obtain ⟨w4, hw4⟩ : ∃ w4, w3.alloc (.cells #[.int .i64 x0, .int .i64 x1, .int .i64 x2] 72) = w4 := ⟨_, rfl⟩
  have D4' : Blk w4 w3.heap.size 72 [(x0 : Int), x1, x2] := by rw [← hw4]; exact Blk.new w3 72 [(x0 : Int), x1, x2] _ rfl
  have d0 := D4'.cell (i := 0) (by simp)
  have d1 := D4'.cell (i := 1) (by simp)
  have d2 := D4'.cell (i := 2) (by simp)
  have HB4 : Hid (∀ k, Below w.heap.size w (w4.drewN k)) := hide (fun k => (show Below w.heap.size w w4 by rw [← hw4]; exact HB3.out.alloc HB3.out.size _).trans (drewN_below _ _ _))
  have HW4 := hide hw4
  clear hw4 D4'
  go_upto_region 4 with fail
  rw [HW4.out]
  clear HW4
  go_quiet (fail)
  go_wp2_with fail
  exact bodyPost_ret (results_t4 rfl _ _ rfl rfl rfl rfl) rfl ⟨⟨x0, x1, x2, HAE.out, rfl⟩, HB4.out _⟩

end Go.Proofs.Ytafiaimlmdflnaa
