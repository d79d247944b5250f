/-
  The law of plays. No conditions beyond those that each theorem bears.
-/
import Derived.Test.YtafiaimlmdflnaaBase
import Derived.Test.YtafiaimlmdflnaaPg
import Derived.Laws.StructEq
import Derived.Test.YtafiaimlmdflnaaGm
namespace Go.Proofs.Ytafiaimlmdflnaa
open Go.RowKit

section

set_option maxHeartbeats 400000 in
theorem lints_own (a : Option Addr) (n c : Nat) (zs : List Int) (w : World) (h : Rd w a n c zs) (hr : n * 8 ≤ 140737488351232) :
    Calls Try.prog 19 #[.slice a n c] w fun e w' => ∃ a' c', e = .returned (.slice a' n c') ∧ w'.ownsRow w.heap.size 3 1 (.slice a' n c') n (zs.map (Value.int .i64)) ∧ Below w.heap.size w w' := by
  obtain ⟨i0, hi, hz0, hz1, hz2⟩ := info_parts Try.info3
  cases a with
  | none =>
    obtain rfl := h.nil rfl
    obtain rfl : n = 0 := by have := h.cap; omega
    go_enter Try.func19, Try.ntmps19
    go_wp2_with (at_builtin; refine wpList_append_own_none rfl _ _ 22 rfl w.heap.size 3 i0 1 Try.underlying22 hi _ 0 [] rfl (World.ownsRow_nil _ _ _ _) rfl ?_)
    go_ret
    have hz : zs = [] := List.eq_nil_of_length_eq_zero h.len
    subst hz
    exact ⟨_, _, rfl, World.ownsRow_nil _ _ _ _, Below.refl _ _⟩
  | some ad =>
    have hcell : ∀ j u, (zs.map (Value.int .i64))[j]? = some u → w.cell? (ad.add j) = some u := by
      intro j u hu
      have hj : j < n := by have := (List.getElem?_eq_some_iff.1 hu).1; simpa [h.len] using this
      obtain ⟨b, off, he, hc⟩ := h.cells (by omega)
      obtain rfl := Option.some.inj he
      rw [Addr.add_lit, hc j hj]
      have hz : j < zs.length := by rw [h.len]; exact hj
      simpa [List.getD, hz] using hu
    have hl : (zs.map (Value.int .i64)).length = n * 1 := by simp [h.len]
    have hone := ints_oneCell .i64 zs
    have hmax : 0 + n ≤ maxLen := by have := h.cap; have := h.max; omega
    have hle : Hid (zs.length = n) := h.len
    go_enter Try.func19, Try.ntmps19
    go_wp2_with (at_builtin; refine wpList_append_own _ rfl _ _ 22 rfl w.heap.size 3 i0 (.int .i64 0) 1 8 Try.underlying22 hi hz0 hz1 hz2 rfl (by decide) _ 0 [] rfl (World.ownsRow_nil _ _ _ _) ad n c (zs.map (Value.int .i64)) rfl hl hcell hone hmax (by omega) (Nat.le_refl _) ?_)
    intro v' w1 hown hgrow _
    have hex : ∃ a' c', v' = .slice a' n c' := by
      rcases hown.2 with ⟨hv, h0⟩ | ⟨g, cap, cur, hv, _⟩
      · exact ⟨none, 0, by rw [hv]; simp; omega⟩
      · exact ⟨_, _, hv⟩
    obtain ⟨a', c', rfl⟩ := hex
    have B : Below w.heap.size w w1 := (Below.refl _ _).grown hgrow (Nat.le_refl _) (fun k hk => by simp [Value.ownBlock] at hk)
    clear hgrow
    have HO := hide hown
    clear hown
    go_wp2
    go_ret
    exact ⟨_, _, rfl, HO.out, B⟩

theorem lints_any (a : Option Addr) (n c : Nat) (zs : List Int) (w : World) (h : Rd w a n c zs) (hr : n * 8 ≤ 140737488351232) :
    Calls Try.prog 19 #[.slice a n c] w fun e w' => ∃ a' c', e = .returned (.slice a' n c') ∧ Rd w' a' n c' zs ∧ Below w.heap.size w w' :=
  (lints_own a n c zs w h hr).mono fun _ _ ⟨a', c', he, ho, hb⟩ => ⟨a', c', he, Rd.of_own ho, hb⟩



theorem eqT_items (d : Nat) (w : World) (A B : List Int) (is : List Nat) (hi : ∀ i ∈ is, i < A.length ∧ i < B.length) :
    (Op.eqItems (d + 1) 3 1 (ivs A).toArray (ivs B).toArray is).run Try.prog w = .ok (decide (∀ i ∈ is, A.getD i 0 = B.getD i 0)) w := by
  induction is with
  | nil => simp [Op.eqItems]
  | cons i is ih =>
    have h1 := hi i (by simp)
    have e1 : (part 3 (ivs A).toArray (i * 1)).run Try.prog w = .ok (.int .i64 (A.getD i 0)) w := by
      simp [part, go_sem, ivs, h1.1, List.getD]
    have e2 : (part 3 (ivs B).toArray (i * 1)).run Try.prog w = .ok (.int .i64 (B.getD i 0)) w := by
      simp [part, go_sem, ivs, h1.2, List.getD]
    have e3 := run_equalIn_int (P := Try.prog) w d 3 .i64 .i64 (A.getD i 0) (B.getD i 0) Try.underlying3
    have hd : decide (∀ j ∈ i :: is, A.getD j 0 = B.getD j 0) = (decide (A.getD i 0 = B.getD i 0) && decide (∀ j ∈ is, A.getD j 0 = B.getD j 0)) := by
      rw [Bool.eq_iff_iff]
      simp only [List.forall_mem_cons, Bool.and_eq_true, decide_eq_true_eq]
    rw [hd]
    simp only [Op.eqItems, Sem.run_bind, e1, e2, e3, Result.andThen_ok]
    have ih' := ih (fun j hj => hi j (by simp [hj]))
    generalize A.getD i 0 = x at *
    generalize B.getD i 0 = y at *
    by_cases hq : x = y
    · subst hq
      simp [ih']
    · have hb : (x == y) = false := by simpa using hq
      simp [hb, hq]

theorem eqT (w : World) (t u : Int) : (binOp .eql 37 (.agg #[.int .i64 t, .int .i64 u]) (.agg #[.int .i64 t, .int .i64 u])).run Try.prog w = .ok (.bool true) w := by
  obtain ⟨i0, hi, hz0, hz1, hz2⟩ := info_parts Try.info3
  rw [run_eql_struct, run_equalIn_array (P := Try.prog) w 9999 _ _ Try.underlying37 hi]
  have hc : Try.prog.cellsOf 3 = 1 := by kernel_rfl
  rw [hc, show (#[.int .i64 t, .int .i64 u] : Array Value) = (ivs [t, u]).toArray from rfl, eqT_items 9998 w [t, u] [t, u] (List.range 2) (fun i hi => by have := List.mem_range.1 hi; simp; omega)]
  simp

theorem guard37 : Try.prog.eqGuardType Try.prog.depth 37 = false := by kernel_rfl

theorem wpList_eqT {ops : Array Oper} {rest : List Oper} {o : Oper} {a : Act} {w : World} {Q : Exit → Act → World → Prop} (hw : Region.wanted o (yielded ops a.tmps) = true) (x y : Operand) (ho : o.op = .binOp .eql 37 x y 37)
    (t u : Int) (hx : a.eval x = .agg #[.int .i64 t, .int .i64 u]) (hy : a.eval y = .agg #[.int .i64 t, .int .i64 u])
    (h : wpList Try.prog ops Q rest (a.put o.dst (.bool true)) w) : wpList Try.prog ops Q (o :: rest) a w := by
  refine wpList_wanted hw fun _ hK => ?_
  unfold Oper.wp execOp
  have h1 := run_eqGuard_agg (P := Try.prog) w .eql 37 x y #[.int .i64 t, .int .i64 u] #[.int .i64 t, .int .i64 u] guard37
  have h2 := eqT w t u
  simp only [ho, hx, hy, Sem.run_bind, h1, h2, Result.andThen_ok]
  exact hK _ _ h

theorem wpList_loadT {ops : Array Oper} {rest : List Oper} {op : Oper} {a : Act} {w : World} {Q : Exit → Act → World → Prop} (hw : Region.wanted op (yielded ops a.tmps) = true) (x : Operand) (ho : op.op = .load 37 x)
    (b : Nat) (hx : a.eval x = .pointer (some ⟨b, 0, none⟩)) {t u : Int} (hc : Tw w b t u)
    (h : wpList Try.prog ops Q rest (a.put op.dst (.agg #[.int .i64 t, .int .i64 u])) w) : wpList Try.prog ops Q (op :: rest) a w :=
  wpList_wanted hw fun _ hK => wp_load_row 37 x ho b hx 37 _ (0, 0) _ hc Try.underlying37 rfl size37 (hK _ _ h)


end

open Go.Shelf

theorem pre2L (w : World) : Below w.heap.size w ((w.alloc (.cells (gdA 0 0 none 0 0) 24)).alloc (.cells #[.int .i64 0, .int .i64 0] 37)) ∧ Gd ((w.alloc (.cells (gdA 0 0 none 0 0) 24)).alloc (.cells #[.int .i64 0, .int .i64 0] 37)) w.heap.size 0 0 none 0 0 ∧ Tw ((w.alloc (.cells (gdA 0 0 none 0 0) 24)).alloc (.cells #[.int .i64 0, .int .i64 0] 37)) (w.heap.size + 1) 0 0 := by
  refine ⟨((Below.refl _ w).alloc (Nat.le_refl _) _).alloc (by simp) _, (Gd.new w 0 0 none 0 0).old _, ?_⟩
  have := Tw.new (w.alloc (.cells (gdA 0 0 none 0 0) 24)) 0 0
  rwa [World.size_alloc] at this

theorem Tw.cellsL {w : World} {b : Nat} {t u : Int} (h : Tw w b t u) : w.cell? ⟨b, 0, none⟩ = some (.int .i64 t) ∧ w.cell? ⟨b, 1, none⟩ = some (.int .i64 u) := by
  have h' : w.heap[b]? = _ := h
  simp [World.cell?, h']

attribute [local irreducible] D4 spr rgs rgsU lib goneU gone clr grp pz pt pE pad kof stn mvd runP ps0

/-- What is asked of the document's play. -/
def PlaysAs : Prop := ∀ (W H cb co N c : Nat) (zs : List Int) (la : Option Addr) (ln lc : Nat) (L : List Int) (w : World), Rd w (some ⟨cb, co, none⟩) N c zs → mayP W H zs → Rd w la ln lc L → ln ≤ 200 →
    Calls Try.prog 20 #[.agg (gdA W H (some ⟨cb, co, none⟩) N c), .slice la ln lc] w fun e w' => ∃ cq bq, e = .returned (.tuple #[.agg (gdA W H (some ⟨cq, 0, none⟩) N bq), .agg #[.int .i64 (runP W H (ps0 zs) L).1.t, .int .i64 (runP W H (ps0 zs) L).1.u], .int .i64 (runP W H (ps0 zs) L).1.m, .int .i64 ((runP W H (ps0 zs) L).2 : Nat)]) ∧ Bw w' cq N bq (runP W H (ps0 zs) L).1.Z ∧ Below w.heap.size w w'

set_option maxRecDepth 100000 in
set_option maxHeartbeats 32000000 in
theorem plays_law (HPY : PlaysAs) (W H : Int) (a : Option Addr) (n c : Nat) (zs : List Int) (la : Option Addr) (ln lc : Nat) (L : List Int) (w : World) (h : Rd w a n c zs) (hr : n * 8 ≤ 140737488351232) (hL : Rd w la ln lc L) (hrl : ln * 8 ≤ 140737488351232) :
    Calls Try.prog 4 #[.agg (gdA W H a n c), .slice la ln lc] w fun e w' => e = .returned (.bool true) ∧ Below w.heap.size w w' := by
  obtain ⟨w1, hw1⟩ : ∃ w1, w.alloc (.cells (gdA W H a n c) 24) = w1 := ⟨_, rfl⟩
  have B1 : Below w.heap.size w w1 := by rw [← hw1]; exact (Below.refl _ w).alloc (Nat.le_refl _) _
  have G1 : Gd w1 w.heap.size W H a n c := by rw [← hw1]; exact Gd.new w W H a n c
  have HG1 := hide G1
  have HB1 := hide B1
  have HGO := hide (GridOf_own W H a n c zs w1 (h.mono B1) hr)
  have HIN : Hid (∀ W4, Below w.heap.size w W4 → _) := hide (fun W4 hb => lints_any la ln lc L W4 (hL.mono hb) hrl)
  have HH := hide h
  have HLL := hide hL
  have hlc := hL.cap
  have hlm : lc ≤ 9223372036854775807 := by have := hL.max; unfold maxLen at this; omega
  clear B1 h hL
  go_enter Try.func4, Try.ntmps4
  go_upto_region 1 with fail
  clear hw1
  go_wp2_with (first | (refine wpList_load_gd rfl (.tmp 2) rfl w.heap.size rfl G1 ?_) | fail)
  refine HGO.out.mono ?_
  rintro e w2 ⟨a2, c2, rfl, hO2, hb2⟩
  have HR2 := hide (Rd.of_own hO2)
  have HB2 : Hid (Below w.heap.size w w2) := hide (HB1.out.trans (hb2.mono HB1.out.size))
  have HG2 := hide (HG1.out.below hb2 HG1.out.lt)
  clear hO2 hb2 HGO HG1 HB1 G1
  go_wp2_with fail
  refine (HIN.out _ HB2.out).mono ?_
  rintro e w3 ⟨a3, c3, rfl, hR3, hb3⟩
  have HR3 := hide hR3
  have HR23 := hide (HR2.out.mono hb3)
  have HB3 : Hid (Below w.heap.size w w3) := hide (HB2.out.trans (hb3.mono HB2.out.size))
  have HG3 := hide (HG2.out.below hb3 HG2.out.lt)
  clear hR3 hb3 HIN HR2 HB2 HG2
  by_cases hm : mayP W H zs
  · have HM : Hid (∀ W4, Below w.heap.size w W4 → Calls Try.prog 12 #[.agg (gdA W H a n c)] W4 fun e w' => e = .returned (.bool true) ∧ Below W4.heap.size W4 w') := hide (fun W4 hb => by have := GridMay_any W H a n c zs W4 (HH.out.mono hb); rwa [mayG_yes hm] at this)
    by_cases hl : ln ≤ 200
    · obtain ⟨A, B, rfl, rfl, hW, hH, hN, -⟩ := may_nat hm HH.out.len
      have hn0 : 0 < n := by rw [← hN]; exact Nat.mul_pos hW.1 hH.1
      obtain ⟨cb, co, rfl, -⟩ := HH.out.cells hn0
      obtain ⟨db, dO, rfl, -⟩ := HR23.out.cells hn0
      have HC := hide (Play_yes A B db dO n c2 zs a3 ln c3 L w3 HR23.out hm HR3.out hl)
      have HP2 : Hid (∀ W4, Below w.heap.size w W4 → _) := hide (fun W4 hb => HPY A B cb co n c zs la ln lc L W4 (HH.out.mono hb) hm (HLL.out.mono hb) hl)
      obtain ⟨SS, ee, hRR⟩ : ∃ SS ee, runP A B (ps0 zs) L = (SS, ee) := ⟨_, _, rfl⟩
      rw [hRR] at HC HP2
      have hl' : ¬ (200 : Int) < (ln : Int) := by omega
      clear hm hRR
      go_wp2_with fail
      refine HC.out.mono ?_
      rintro e w4 ⟨xq, xb, rfl, hX4, hb4⟩
      obtain ⟨P1, P2, P3⟩ := pre2L w4
      have HB5 : Hid (Below w.heap.size w ((w4.alloc (.cells (gdA 0 0 none 0 0) 24)).alloc (.cells #[.int .i64 0, .int .i64 0] 37))) := hide (HB3.out.trans ((hb4.trans (P1.mono hb4.size)).mono HB3.out.size))
      have HG4 := HG3.out.below hb4 HG3.out.lt
      have hs4 : w.heap.size < w4.heap.size := HG4.lt
      have hxq : xq < w4.heap.size := hX4.lt
      have HG5 := hide (HG4.below P1 HG4.lt)
      have HX5 := hide (hX4.mono P1)
      clear hb4 P1 HB3 HG3 HG4 HC HR3 HR23 hX4
      generalize hw5 : (w4.alloc (.cells (gdA 0 0 none 0 0) 24)).alloc (.cells #[.int .i64 0, .int .i64 0] 37) = w5 at *
      go_upto_region 2 with (first
        | (refine wpList_store_gd rfl (.tmp 5) (.tmp 20) rfl w4.heap.size rfl rfl P2 ?_; intro w6 G6 kk6; have T6 := P3.keeps kk6 (by omega))
        | (refine wpList_storeT rfl (.tmp 6) (.tmp 21) rfl (w4.heap.size + 1) rfl rfl T6 ?_; intro w7 T7 kk7))
      have b6 := HB5.out.trans (kk6.below HB5.out.size (fun k hk e => by omega))
      have HB7 := hide (b6.trans (kk7.below b6.size (fun k hk e => by omega)))
      have G7 := (HG5.out.keeps kk6 (by omega)).keeps kk7 (by omega)
      have HF7 := hide G7
      have HZ7 := hide (G6.keeps kk7 (by omega))
      have HT7 := hide T7
      have HX7 := hide ((HX5.out.keeps kk6 (by omega)).keeps kk7 (by omega))
      clear b6 kk6 kk7 hw5 G6 T6 T7 P2 P3 HB5 HG5 HX5
      go_wp2_with (first | (refine wpList_load_gd rfl (.tmp 2) rfl w.heap.size rfl G7 ?_) | fail)
      refine (HM.out _ HB7.out).mono ?_
      rintro e w8 ⟨rfl, hb8⟩
      have HZ8 := hide (HZ7.out.below hb8 HZ7.out.lt)
      have HT8 := hide (HT7.out.below hb8 HT7.out.lt)
      have G8 := HF7.out.below hb8 HF7.out.lt
      have HX8 := hide (HX7.out.mono hb8)
      have HB8 : Hid (Below w.heap.size w w8) := hide (HB7.out.trans (hb8.mono HB7.out.size))
      clear hb8 HB7 G7 HZ7 HT7 HM HX7 HF7
      go_wp2_with (first | (refine wpList_load_gd rfl (.tmp 2) rfl w.heap.size rfl G8 ?_) | fail)
      refine (HP2.out _ HB8.out).mono ?_
      rintro e w9 ⟨yq, yb, rfl, hY9, hb9⟩
      obtain ⟨P1, P2, P3⟩ := pre2L w9
      have h89 : w4.heap.size + 1 < w9.heap.size := by have h1 := HT8.out.lt; have h2 := hb9.size; omega
      have B10 := hb9.trans (P1.mono hb9.size)
      have HZ10 := hide (HZ8.out.below B10 HZ8.out.lt)
      have HT10 := hide (HT8.out.below B10 HT8.out.lt)
      have HX10 := hide (HX8.out.mono B10)
      have HY10 := hide (hY9.mono P1)
      have hyq : yq < w9.heap.size := hY9.lt
      have hxq9 : xq < w9.heap.size := Nat.lt_of_lt_of_le HX8.out.lt hb9.size
      have HB10 : Hid (Below w.heap.size w ((w9.alloc (.cells (gdA 0 0 none 0 0) 24)).alloc (.cells #[.int .i64 0, .int .i64 0] 37))) := hide (HB8.out.trans (B10.mono HB8.out.size))
      have hs9 : w.heap.size ≤ w9.heap.size := by omega
      clear B10 P1 hb9 hY9 HZ8 HT8 HX8 HB8 G8 HP2
      generalize hw10 : (w9.alloc (.cells (gdA 0 0 none 0 0) 24)).alloc (.cells #[.int .i64 0, .int .i64 0] 37) = w10 at *
      go_upto_region 10 with (first
        | (refine wpList_store_gd rfl (.tmp 10) (.tmp 57) rfl w9.heap.size rfl rfl P2 ?_; intro w11 G11 kk11; have T11 := P3.keeps kk11 (by omega))
        | (refine wpList_storeT rfl (.tmp 11) (.tmp 58) rfl (w9.heap.size + 1) rfl rfl T11 ?_; intro w12 T12 kk12))
      have b11 := HB10.out.trans (kk11.below HB10.out.size (fun k hk e => by omega))
      have HB12 := hide (b11.trans (kk12.below b11.size (fun k hk e => by omega)))
      have G12 := G11.keeps kk12 (by omega)
      have Z12 := (HZ10.out.keeps kk11 (by omega)).keeps kk12 (by omega)
      have U12 := (HT10.out.keeps kk11 (by omega)).keeps kk12 (by omega)
      have HSG := hide (SameGrid_yes A B (some ⟨xq, 0, none⟩) (some ⟨yq, 0, none⟩) n xb yb SS.Z w12 ((HX10.out.keeps kk11 (by omega)).keeps kk12 (by omega)).rd ((HY10.out.keeps kk11 (by omega)).keeps kk12 (by omega)).rd)
      clear b11 kk11 kk12 hw10 G11 T11 P2 P3 HB10 HZ10 HT10 HX10 HY10
      go_wp2_with (first
        | (refine wpList_loadT rfl (.tmp 6) rfl (w4.heap.size + 1) rfl U12 ?_)
        | (refine wpList_loadT rfl (.tmp 11) rfl (w9.heap.size + 1) rfl T12 ?_)
        | (refine wpList_eqT rfl (.tmp 70) (.tmp 71) rfl SS.t SS.u rfl rfl ?_)
        | (refine wpList_load_gd rfl (.tmp 5) rfl w4.heap.size rfl Z12 ?_)
        | (refine wpList_load_gd rfl (.tmp 10) rfl w9.heap.size rfl G12 ?_)
        | fail)
      refine HSG.out.mono ?_
      rintro e w13 ⟨rfl, hb13⟩
      have HB13 : Hid (Below w.heap.size w w13) := hide (HB12.out.trans (hb13.mono HB12.out.size))
      clear hb13 G12 Z12 U12 T12
      go_wp2_with fail
      go_ret
      exact ⟨rfl, HB13.out⟩
    · have hl' : (200 : Int) < (ln : Int) := by omega
      have HC := hide (Play_count W H a2 n c2 zs a3 ln c3 w3 HR23.out hm (by omega))
      clear hm
      go_wp2_with fail
      refine HC.out.mono ?_
      rintro e w4 ⟨rfl, hb4⟩
      obtain ⟨P1, P2, P3⟩ := pre2L w4
      have HB5 : Hid (Below w.heap.size w ((w4.alloc (.cells (gdA 0 0 none 0 0) 24)).alloc (.cells #[.int .i64 0, .int .i64 0] 37))) := hide (HB3.out.trans ((hb4.trans (P1.mono hb4.size)).mono HB3.out.size))
      have HG4 := HG3.out.below hb4 HG3.out.lt
      have hs4 : w.heap.size < w4.heap.size := HG4.lt
      have HG5 := hide (HG4.below P1 HG4.lt)
      clear hb4 P1 HB3 HG3 HG4 HC HR3 HR23
      generalize hw5 : (w4.alloc (.cells (gdA 0 0 none 0 0) 24)).alloc (.cells #[.int .i64 0, .int .i64 0] 37) = w5 at *
      go_upto_region 2 with (first
        | (refine wpList_store_gd rfl (.tmp 5) (.tmp 20) rfl w4.heap.size rfl rfl P2 ?_; intro w6 G6 kk6; have T6 := P3.keeps kk6 (by omega))
        | (refine wpList_storeT rfl (.tmp 6) (.tmp 21) rfl (w4.heap.size + 1) rfl rfl T6 ?_; intro w7 T7 kk7))
      have b6 := HB5.out.trans (kk6.below HB5.out.size (fun k hk e => by omega))
      have HB7 := hide (b6.trans (kk7.below b6.size (fun k hk e => by omega)))
      have G7 := (HG5.out.keeps kk6 (by omega)).keeps kk7 (by omega)
      have HZ7 := hide (G6.keeps kk7 (by omega))
      have HT7 := hide T7
      clear b6 kk6 kk7 hw5 G6 T6 T7 P2 P3 HB5 HG5
      go_wp2_with (first | (refine wpList_load_gd rfl (.tmp 2) rfl w.heap.size rfl G7 ?_) | fail)
      refine (HM.out _ HB7.out).mono ?_
      rintro e w8 ⟨rfl, hb8⟩
      have Z8 := HZ7.out.below hb8 HZ7.out.lt
      have HT8 := hide (HT7.out.below hb8 HT7.out.lt)
      have HB8 : Hid (Below w.heap.size w w8) := hide (HB7.out.trans (hb8.mono HB7.out.size))
      clear hb8 HB7 G7 HZ7 HT7 HM
      go_wp2_with (first | (refine wpList_load_gd rfl (.tmp 5) rfl w4.heap.size rfl Z8 ?_) | fail)
      refine (noGrid_zero w8).mono ?_
      rintro e w9 ⟨rfl, hb9⟩
      obtain ⟨c0, c1⟩ := (HT8.out.below hb9 HT8.out.lt).cellsL
      have HB9 : Hid (Below w.heap.size w w9) := hide (HB8.out.trans (hb9.mono HB8.out.size))
      clear hb9 Z8
      go_wp2_with fail
      go_ret
      exact ⟨rfl, HB9.out⟩
  · have HM : Hid (∀ W4, Below w.heap.size w W4 → Calls Try.prog 12 #[.agg (gdA W H a n c)] W4 fun e w' => e = .returned (.bool false) ∧ Below W4.heap.size W4 w') := hide (fun W4 hb => by have := GridMay_any W H a n c zs W4 (HH.out.mono hb); rwa [mayG_no hm] at this)
    have HC := hide (Play_state W H a2 n c2 zs a3 ln c3 w3 HR23.out hm)
    clear hm
    go_wp2_with fail
    refine HC.out.mono ?_
    rintro e w4 ⟨rfl, hb4⟩
    obtain ⟨P1, P2, P3⟩ := pre2L w4
    have HB5 : Hid (Below w.heap.size w ((w4.alloc (.cells (gdA 0 0 none 0 0) 24)).alloc (.cells #[.int .i64 0, .int .i64 0] 37))) := hide (HB3.out.trans ((hb4.trans (P1.mono hb4.size)).mono HB3.out.size))
    have HG4 := HG3.out.below hb4 HG3.out.lt
    have hs4 : w.heap.size < w4.heap.size := HG4.lt
    have HG5 := hide (HG4.below P1 HG4.lt)
    clear hb4 P1 HB3 HG3 HG4 HC HR3 HR23
    generalize hw5 : (w4.alloc (.cells (gdA 0 0 none 0 0) 24)).alloc (.cells #[.int .i64 0, .int .i64 0] 37) = w5 at *
    go_upto_region 2 with (first
      | (refine wpList_store_gd rfl (.tmp 5) (.tmp 20) rfl w4.heap.size rfl rfl P2 ?_; intro w6 G6 kk6; have T6 := P3.keeps kk6 (by omega))
      | (refine wpList_storeT rfl (.tmp 6) (.tmp 21) rfl (w4.heap.size + 1) rfl rfl T6 ?_; intro w7 T7 kk7))
    have b6 := HB5.out.trans (kk6.below HB5.out.size (fun k hk e => by omega))
    have HB7 := hide (b6.trans (kk7.below b6.size (fun k hk e => by omega)))
    have G7 := (HG5.out.keeps kk6 (by omega)).keeps kk7 (by omega)
    have HZ7 := hide (G6.keeps kk7 (by omega))
    have HT7 := hide T7
    clear b6 kk6 kk7 hw5 G6 T6 T7 P2 P3 HB5 HG5
    go_wp2_with (first | (refine wpList_load_gd rfl (.tmp 2) rfl w.heap.size rfl G7 ?_) | fail)
    refine (HM.out _ HB7.out).mono ?_
    rintro e w8 ⟨rfl, hb8⟩
    have Z8 := HZ7.out.below hb8 HZ7.out.lt
    have HT8 := hide (HT7.out.below hb8 HT7.out.lt)
    have HB8 : Hid (Below w.heap.size w w8) := hide (HB7.out.trans (hb8.mono HB7.out.size))
    clear hb8 HB7 G7 HZ7 HT7 HM
    go_wp2_with (first | (refine wpList_load_gd rfl (.tmp 5) rfl w4.heap.size rfl Z8 ?_) | fail)
    refine (noGrid_zero w8).mono ?_
    rintro e w9 ⟨rfl, hb9⟩
    obtain ⟨c0, c1⟩ := (HT8.out.below hb9 HT8.out.lt).cellsL
    have HB9 : Hid (Below w.heap.size w w9) := hide (HB8.out.trans (hb9.mono HB8.out.size))
    clear hb9 Z8
    go_wp2_with fail
    go_ret
    exact ⟨rfl, HB9.out⟩


end Go.Proofs.Ytafiaimlmdflnaa
