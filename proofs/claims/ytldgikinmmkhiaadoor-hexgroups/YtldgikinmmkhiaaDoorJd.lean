/-
  joined, walked: who has joined its sides, and the places of all groups that do. No conditions beyond those that each theorem bears.
-/
import Derived.Test.YtldgikinmmkhiaaDoorJd0
import Derived.Deep.LoopGhost
namespace Go.Proofs.YtldgikinmmkhiaaDoor
open Go.RowKit Go.Shelf

/-- What joined holds between the rounds. -/
structure Js (b wb n cb co N bc m : Nat) (Z : List Int) (w W : World) (ds : List Deferred) : Prop where
  bd : Hb W b n n (some ⟨cb, co, none⟩) N bc
  wh : Vb W wb 3 [.int .i64 m]
  lo : b < wb
  bel : Below b w W
  mks : Marks b W ds

theorem Js.mono {b wb n cb co N bc m : Nat} {Z : List Int} {w W W' : World} {ds : List Deferred} (h : Js b wb n cb co N bc m Z w W ds) (hb : Below W.heap.size W W') : Js b wb n cb co N bc m Z w W' ds :=
  ⟨h.bd.below hb h.bd.lt, h.wh.mono hb, h.lo, h.bel.trans (hb.mono (by have := h.bd.lt; omega)), h.mks.below hb⟩

theorem wpListIn_load_hb {l d : Nat} {ops : Array Oper} {rest : List Oper} {op : Oper} {a : Act} {w : World} {Q : Exit → Act → World → Prop} (hgd : op.guard = none) (x : Operand) (ho : op.op = .load 55 x)
    (b : Nat) (hx : a.eval x = .pointer (some ⟨b, 0, none⟩)) {W H : Int} {ad : Option Addr} {n c : Nat} (hc : Hb w b W H ad n c)
    (h : wpListIn (Fence.wide.inRound l) d Tryd.prog ops Q rest (a.put op.dst (.agg (gdA W H ad n c))) w) : wpListIn (Fence.wide.inRound l) d Tryd.prog ops Q (op :: rest) a w :=
  wpListIn_plain hgd fun _ hK => oper_round (fun c e => by rw [ho] at e; cases e) (wp_load_row 55 x ho b hx 55 _ (0, 0) _ hc Tryd.underlying55 rfl size55 (hK _ _ h))

attribute [local irreducible] mtL grp nbs grpsU fl jw jl pls
attribute [local go_sem] Oper.semAt_some wide_fn wide_fn0 wide_depth

set_option maxRecDepth 100000 in
set_option maxHeartbeats 16000000 in
theorem joined_any (n cb co N bc : Nat) (Z : List Int) (w : World) (hn : 1 ≤ n ∧ n ≤ 10) (hN : n * n = N) (hT : Tab w) (hR : Rd w (some ⟨cb, co, none⟩) N bc Z) :
    Calls Tryd.prog 29 #[.agg (gdA n n (some ⟨cb, co, none⟩) N bc)] w fun e w' => ∃ a c, e = .returned (.tuple #[.int .i64 (jw n Z : Nat), .slice a (jl n Z).length c]) ∧ w'.ownsRow w.heap.size 3 1 (.slice a (jl n Z).length c) (jl n Z).length ((toI (jl n Z)).map (Value.int .i64)) ∧ Below w.heap.size w w' := by
  have hN100 : N ≤ 100 := by rw [← hN]; exact Nat.mul_le_mul hn.2 hn.2
  have hN1 : 1 ≤ N := by rw [← hN]; exact Nat.mul_le_mul hn.1 hn.1
  have hcb : cb < w.heap.size := hR.blt hN1
  have HRW : Hid (∀ W, Below w.heap.size w W → Rd W (some ⟨cb, co, none⟩) N bc Z ∧ Tab W) := hide (fun W hb => ⟨hR.mono hb, hT.mono hb⟩)
  have HTL := hide hT.lt
  have HNN := hide hN
  have hbc : N ≤ bc := hR.cap
  clear hR hT
  refine (callsIn_wide (n := 3)).1 ?_
  refine callsIn_of_wp_marks Tryd.func29 rfl trivial ?_ rfl
  simp only [Tryd.ntmps29, List.size_toArray, List.length_cons, List.length_nil, Nat.reduceAdd, Nat.reduceSub, Array.replicate_succ, Array.replicate_zero, List.push_toArray, List.append_toArray, List.nil_append, List.cons_append]
  refine wpIn_wide.2 ?_
  go_wp2_with fail
  obtain ⟨u1, hu1⟩ : ∃ u1, w.alloc (.cells (gdA n n (some ⟨cb, co, none⟩) N bc) 55) = u1 := ⟨_, rfl⟩
  obtain ⟨u2, hu2⟩ : ∃ u2, u1.alloc (.cells #[.int .i64 1] 3) = u2 := ⟨_, rfl⟩
  rw [hu1, hu2]
  obtain ⟨s1, h1, B1⟩ := alloc_facts hu1
  obtain ⟨s2, h2, B2⟩ := alloc_facts hu2
  rw [s1] at h2 s2 B2
  have J2 : Js w.heap.size (w.heap.size + 1) n cb co N bc 1 Z w u2 [] :=
    ⟨(show Hb u1 w.heap.size n n (some ⟨cb, co, none⟩) N bc from h1).below B2 (by omega), h2, by omega, B1.trans (B2.mono (by omega)), Marks.nil _ _⟩
  have HJ2 := hide J2
  obtain ⟨wb0, hwb0⟩ : ∃ wb0, w.heap.size + 1 = wb0 := ⟨_, rfl⟩
  rw [hwb0] at HJ2 ⊢
  clear hu1 hu2 h1 h2 B1 B2 s1 s2 J2 hwb0
  refine wp_loop_ghost (fun q a' wr => ∃ (v0 v2 v3 v5 v6 v7 v8 v9 v10 v11 v12 v13 v14 v15 v16 v17 v18 v19 v20 v21 v22 v23 v24 v25 v26 v27 v28 v29 : Value) (wb : Nat) (ds : List Deferred) (m : Nat), q = 3 - m ∧ 1 ≤ m ∧ m ≤ 3 ∧ (∀ m', 1 ≤ m' → m' < m → pls n (jnP n Z m') = []) ∧ Js w.heap.size wb n cb co N bc m Z w wr ds ∧ a' = { tmps := #[v0, .pointer (some ⟨w.heap.size, 0, none⟩), v2, v3, .pointer (some ⟨wb, 0, none⟩), v5, v6, v7, v8, v9, v10, v11, v12, v13, v14, v15, v16, v17, v18, v19, v20, v21, v22, v23, v24, v25, v26, v27, v28, v29], defers := ds }) 2 ?start ?round
  case start => exact ⟨_, _, _, _, _, _, _, _, _, _, _, _, _, _, _, _, _, _, _, _, _, _, _, _, _, _, _, _, wb0, [], 1, rfl, by omega, by omega, (fun m' h1 h2 => absurd h1 (by omega)), HJ2.out, rfl⟩
  case round =>
    rintro gq a0 wr ⟨v0, v2, v3, v5, v6, v7, v8, v9, v10, v11, v12, v13, v14, v15, v16, v17, v18, v19, v20, v21, v22, v23, v24, v25, v26, v27, v28, v29, wb, ds, m, hq, hm1, hm3, hno, hJs, rfl⟩
    have HNO := hide hno
    have HJS := hide hJs
    have HQ := hide hq
    have cw := hJs.wh.cell (i := 0) rfl
    have fw := hJs.wh.frozen 0
    clear HJ2 hno hq
    by_cases hm : m ≤ 2
    · have hm' : (m : Int) ≤ 2 := by omega
      have hmm : m = 1 ∨ m = 2 := by omega
      have HMM := hide hmm
      obtain ⟨W1, hW1⟩ : ∃ W1, wr.alloc (.cells #[.slice none 0 0] 22) = W1 := ⟨_, rfl⟩
      obtain ⟨s1, h1, B1⟩ := alloc_facts hW1
      have J1 := hJs.mono B1
      obtain ⟨pb, hpb⟩ : ∃ pb, wr.heap.size = pb := ⟨_, rfl⟩
      have P1 : Vb W1 pb 22 [.slice none 0 0] := by rw [← hpb]; exact h1
      have hb1 := J1.bd
      have cw1 := J1.wh.cell (i := 0) rfl
      have HC := hide (groups_any n (some ⟨cb, co, none⟩) N bc m W1)
      have HP1 := hide P1
      have HJ1 := hide J1
      have HPB : Hid (w.heap.size < wb ∧ wb < pb) := hide ⟨hJs.lo, by rw [← hpb]; exact hJs.wh.lt⟩
      clear h1 hJs J1 P1 hmm
      go_upto_region 5 with fail
      clear hW1 s1 hpb B1 cw fw
      go_wp2_with (first | (refine wpList_load_hb rfl (.tmp 1) rfl w.heap.size rfl hb1 ?_) | fail)
      refine HC.out.mono ?_
      rintro e w0 ⟨rfl, hw0⟩
      have B0 : Below W1.heap.size W1 w0 := by rw [hw0]; exact ((Below.refl _ W1).alloc (Nat.le_refl _) _).alloc (by simp) _
      have hs0 : W1.heap.size + 2 ≤ w0.heap.size ∧ w0.heap.size ≤ W1.heap.size + 2 := by rw [hw0]; simp
      have J0 := HJ1.out.mono B0
      have R0 : GgR W1.heap.size (W1.heap.size + 1) n cb co N bc m Z (w0.heap.size + 1) w0 := by
        refine ⟨?_, ?_, (HRW.out w0 J0.bel).2, (HRW.out w0 J0.bel).1, Nat.le_refl _⟩
        · rw [hw0]; exact (Hb.new W1 n n _ N bc).old _
        · rw [hw0]
          have := new_cell (W1.alloc (.cells (gdA n n (some ⟨cb, co, none⟩) N bc) 55)) (.int .i64 m) 3
          rwa [World.size_alloc] at this
      have P0 := HP1.out.mono B0
      have HPL : Hid (pb < W1.heap.size) := hide HP1.out.lt
      have HS0 := hide hs0
      have HJ0 := hide J0
      have HR0 := hide R0
      have HP0 := hide P0
      have HFN : Hid (fl n m [] = []) := hide (by unfold fl; rfl)
      have HFL : Hid (∀ L x, fl n m (L ++ [x]) = fl n m L ++ (if jnB n m x then x else [])) := hide (fl_snoc n m)
      have HFB : Hid (∀ L, L <+: grps n Z m → (fl n m L).length ≤ 100) := hide (fun L hL => by have := fl_len hL; rw [HNN.out] at this; omega)
      have HGX : Hid (∀ x, x ∈ grps n Z m → (∀ q ∈ x, q < n * n) ∧ x.length ≤ n * n ∧ x ≠ []) := hide (fun x hx => grps_lt hx)
      clear hw0 J0 R0 P0 hb1 cw1 HC hs0
      go_wp2_with fail
      refine (wpIn_wide (n := 1)).1 (wp_range_q (gf := 41) (lb := #[.pointer (some ⟨W1.heap.size, 0, none⟩), .pointer (some ⟨W1.heap.size + 1, 0, none⟩)]) (G := GgG (w0.heap.size + 1)) (xs := grps n Z m) (R := GgR W1.heap.size (W1.heap.size + 1) n cb co N bc m Z (w0.heap.size + 1)) (T := GgT W1.heap.size (W1.heap.size + 1) cb) (c := 1) (by simp [Act.eval]) (enters_of Tryd.func41 (by kernel_rfl) rfl)
        (groups1_seq _ _ n cb co N bc m Z _ hn HNN.out hN1 hbc) (HR0.out.lt hN1) (fun A B hA hk => hA.keeps hk (fun k hk h => h hk)) HR0.out (fun k => k = pb ∨ w0.heap.size + 3 ≤ k) ?hX (fun x args W' hG => by obtain ⟨a, c, h, _⟩ := hG; rw [h]; rfl)
        (fun pre W' => ∃ a c, Vb W' pb 22 [.slice a (fl n m pre).length c] ∧ W'.ownsRow (w0.heap.size + 3) 3 1 (.slice a (fl n m pre).length c) (fl n m pre).length ((toI (fl n m pre)).map (Value.int .i64)) ∧ Keeps (fun k => k = pb) w0 W') (fun _ _ => False) ?hI (fun _ _ _ h _ => h) ⟨none, 0, ?h0, ?h01, Keeps.refl _ _⟩ ?round ?done (fun _ _ _ _ h => h.elim))
      case hX =>
        intro q hq
        have e1 := HPB.out
        have e2 := HS0.out
        have e3 := HPL.out
        have e4 := HTL.out
        unfold GgT
        refine ⟨fun ht => by omega, fun e => by omega⟩
      case h0 => rw [HFN.out]; exact HP0.out
      case h01 => rw [HFN.out]; exact World.ownsRow_nil _ _ _ _
      case hI =>
        rintro s A B ⟨a, c, k1, k2, k3⟩ hk
        have e2 := HS0.out
        have e3 := HPL.out
        exact ⟨a, c, k1.keeps hk (fun e => by omega), own_blk k2 (fun g hg => hk.block g (k2.lt g hg).2 (fun e => by have := (k2.lt g hg).1; omega)), k3.after hk (fun i hi e => by omega)⟩
      case round =>
        rintro l2 pre x args W2 hl2 ⟨rec, hrec⟩ ⟨a, c, k1, k2, k3⟩ hpre ⟨ga, gc, rfl, hI⟩ hsz
        have hxm : x ∈ grps n Z m := hpre.subset (by simp)
        obtain ⟨hxl, hxn, hxe⟩ := HGX.out x hxm
        have hxn : x.length ≤ 100 := by rw [HNN.out] at hxn; omega
        have hflb := HFB.out _ hpre
        have HSN := hide (HFL.out pre x)
        have HXL := hide hxl
        have HK1 := hide k1
        have HK2 := hide k2
        have HK3 := hide k3
        have HIR := hide hI
        have HRC := hide hrec
        obtain ⟨gl, hgl⟩ : ∃ gl, x.length = gl := ⟨_, rfl⟩
        have HGL := hide hgl
        have hx0 : 0 < gl := by rw [← hgl]; exact List.length_pos_iff.2 hxe
        rw [hgl] at HIR hxn ⊢
        clear hpre hxm hxl hxe k1 k2 k3 hI hrec hgl
        gi_wp2
        refine ⟨Keeps.refl _ _, ?_⟩
        intro W3 hk3
        have e2 := HS0.out
        have e3 := HPL.out
        have hl2' : w0.heap.size + 1 ≤ l2 ∧ l2 ≤ w0.heap.size + 1 := by omega
        have V3 : Vb W3 pb 22 [.slice a (fl n m pre).length c] := HK1.out.keeps hk3 (fun e => by omega)
        have O3 : W3.ownsRow (w0.heap.size + 3) 3 1 (.slice a (fl n m pre).length c) (fl n m pre).length ((toI (fl n m pre)).map (Value.int .i64)) := own_blk HK2.out (fun g hg => hk3.block g (HK2.out.lt g hg).2 (fun e => by have := (HK2.out.lt g hg).1; omega))
        have K3 : Keeps (fun k => k = pb) w0 W3 := HK3.out.after hk3 (fun i hi e => by omega)
        have R3 : Rd W3 ga gl gc (toI x) := HIR.out.rd.keeps hk3 (fun b off e he => by
          obtain ⟨_, cur, hc⟩ := HIR.out.ty b off e
          rw [he] at hc
          have := HRC.out
          rw [hc] at this
          simp at this)
        have e5 := HPB.out
        have b3 := HJ0.out.bd.keeps K3 (fun e => by omega)
        have w3 := (HJ0.out.wh.keeps K3 (fun e => by omega)).cell (i := 0) rfl
        have c3 := V3.cell (i := 0) rfl
        have HCJ := hide (joins_any n (some ⟨cb, co, none⟩) N bc m hn HMM.out ga gc gl x HGL.out (by omega) HXL.out W3 R3)
        have HV3 := hide V3
        have HO3 := hide O3
        have HK3' := hide K3
        have HR3 := hide R3
        have HW3 : Hid (w0.heap.size + 3 ≤ W3.heap.size) := hide (Nat.le_trans hsz hk3.size)
        clear V3 O3 K3 R3 hk3 e2 e3 hl2 hl2' HK1 HK2 HK3 HIR HRC e5
        gi_wp2_with (first | (refine wpListIn_load_hb rfl (.tmp 1) rfl w.heap.size rfl b3 ?_) | fail)
        refine CallsIn.mono (CallsIn.inRound l2 (callsIn_wide.2 HCJ.out)) ?_
        rintro e W4 ⟨rfl, hb4⟩
        have V4 := HV3.out.mono hb4
        have O4 := own_below HO3.out hb4
        have K4 : Keeps (fun k => k = pb) w0 W4 := HK3'.out.after (Keeps.of_all (X := fun _ => False) hb4) (fun i _ e => e.elim)
        have R4 := HR3.out.mono hb4
        have k34 : Keeps (fun k => k = pb ∨ w0.heap.size + 3 ≤ k) W3 W4 := Keeps.of_all hb4
        have HW4 : Hid (w0.heap.size + 3 ≤ W4.heap.size) := hide (Nat.le_trans HW3.out hb4.size)
        have HPF : Hid (pb < w0.heap.size + 3) := hide (by have := HPL.out; have := HS0.out; omega)
        clear b3 w3 c3 hb4 HCJ HV3 HO3 HK3' HR3 HW3
        cases hjb : jnB n m x with
        | true =>
          rw [hjb, if_pos rfl] at HSN
          have HLE : Hid ((fl n m (pre ++ [x])).length = (fl n m pre).length + gl) := hide (by rw [HSN.out, List.length_append, HGL.out])
          rw [HLE.out] at hflb
          obtain ⟨gb, go, rfl, -⟩ := R4.cells hx0
          have c4 := V4.cell (i := 0) rfl
          have HO4 := hide O4
          have HV4 := hide V4
          have HK4 := hide K4
          have HK34 := hide k34
          obtain ⟨fp, hfp⟩ : ∃ fp, (fl n m pre).length = fp := ⟨_, rfl⟩
          rw [hfp] at c4 O4 hflb HLE HO4 HV4
          clear hjb V4 K4 k34 hfp
          gi_wp2_with (gi_at_builtin; refine wpListIn_append_i _ rfl _ _ rfl (w0.heap.size + 3) _ fp _ rfl O4 ⟨gb, go, none⟩ gl gc (toI x) rfl R4 hx0 (by omega) HW4.out ?_)
          intro v' W6 hO6 hg6 _
          obtain ⟨a6, c6, rfl⟩ := slice_form hO6
          have k46 : Keeps (fun k => w0.heap.size + 3 ≤ k) W4 W6 := (keeps_grown hg6).mono (fun q _ e => (HO4.out.lt q e).1)
          have V6 := HV4.out.keeps k46 (fun e => by have := HPF.out; omega)
          have c6' := V6.cell (i := 0) rfl
          have f6 := V6.frozen 0
          have kk7 : Keeps (fun k => k = pb) W6 (W6.setCell ⟨pb, 0, none⟩ (.slice a6 (fp + gl) c6)) := Keeps.set1 _ _ _ _
          have HV7 : Hid (Vb (W6.setCell ⟨pb, 0, none⟩ (.slice a6 (fp + gl) c6)) pb 22 [.slice a6 (fp + gl) c6]) := hide (V6.set 0 _)
          have HO7 : Hid ((W6.setCell ⟨pb, 0, none⟩ (.slice a6 (fp + gl) c6)).ownsRow (w0.heap.size + 3) 3 1 (.slice a6 (fp + gl) c6) (fp + gl) ((toI (fl n m pre ++ x)).map (Value.int .i64))) := hide (by
            rw [toI_append, List.map_append]
            refine own_blk (by first | exact hO6 | (rw [← List.map_append]; exact hO6)) (fun g hg => kk7.block g (hO6.lt g hg).2 (fun e => by have := (hO6.lt g hg).1; have := HPF.out; omega)))
          have HK7 : Hid (Keeps (fun k => k = pb) w0 (W6.setCell ⟨pb, 0, none⟩ (.slice a6 (fp + gl) c6))) := hide ((HK4.out.after k46 (fun i hi e => by omega)).after kk7 (fun i _ e => e))
          have HKD : Hid (Keeps (fun k => k = pb ∨ w0.heap.size + 3 ≤ k) W3 (W6.setCell ⟨pb, 0, none⟩ (.slice a6 (fp + gl) c6))) := hide ((HK34.out.after k46 (fun i hi e => Or.inr e)).after kk7 (fun i _ e => Or.inl e))
          clear hO6 hg6 V6 kk7 k46 c4 O4 R4
          gi_wp2_with fail
          refine ⟨HKD.out, a6, c6, ?_, ?_, HK7.out⟩
          · rw [HLE.out]; exact HV7.out
          · rw [HLE.out, HSN.out]; exact HO7.out
        | false =>
          rw [hjb] at HSN
          have HE : Hid (fl n m (pre ++ [x]) = fl n m pre) := hide (by rw [HSN.out]; simp)
          clear hjb HSN
          gi_wp2_with fail
          refine ⟨k34, a, c, ?_, ?_, K4⟩
          · rw [HE.out]; exact V4
          · rw [HE.out]; exact O4
      case done =>
        rintro D W7 hD ⟨a, c, k1, k2, k3⟩ _ hKD
        subst hD
        have e1 := HPB.out
        have e2 := HS0.out
        have e3 := HPL.out
        have J7 : Js w.heap.size wb n cb co N bc m Z w W7 ({ target := .collected w0.heap.size, args := #[] } :: ds) := by
          have j0 := HJ0.out
          refine ⟨j0.bd.keeps k3 (fun e => by omega), j0.wh.keeps k3 (fun e => by omega), j0.lo, j0.bel.trans (k3.below (by have := j0.bd.lt; omega) (fun q hq e => by omega)), j0.mks.push k3 (not_deferred (fun q hq _ => by rw [hq]; exact ⟨_, _, HP0.out⟩)) (by omega) (by have := j0.bd.lt; omega) hKD⟩
        have HLN := hide (fl_length n m Z)
        have HSO := hide (fl_sorted n m Z)
        have HFB' : Hid ((fl n m (grps n Z m)).length ≤ 100) := hide (HFB.out _ (List.prefix_refl _))
        have c7 := k1.cell (i := 0) rfl
        have HK1 := hide k1
        have HK2 := hide k2
        have HJ7 := hide J7
        obtain ⟨FL, hFL⟩ : ∃ FL, fl n m (grps n Z m) = FL := ⟨_, rfl⟩
        rw [hFL] at HLN HSO HFB' c7 HK1 HK2
        obtain ⟨fp, hfp⟩ : ∃ fp, FL.length = fp := ⟨_, rfl⟩
        rw [hfp] at HLN HFB' c7 HK1 HK2
        have hfb : fp ≤ 100 := HFB'.out
        clear k1 k2 k3 J7 e1 e2 e3 hKD hFL hfp HFB HFL HGX HFN HP0 HR0
        by_cases hz : 0 < fp
        · have hz' : (0 : Int) < (fp : Int) := by omega
          obtain ⟨g, c2, hv, -⟩ := own_some HK2.out hz
          simp only [Value.slice.injEq] at hv
          obtain ⟨rfl, -, -⟩ := hv
          have HC := hide (sort_own HK2.out (by omega))
          have HNE : Hid (pls n (jnP n Z m) ≠ []) := hide (fun e => by have := HLN.out; rw [e] at this; simp at this; omega)
          have HW : Hid (jw n Z = m ∧ jl n Z = pls n (jnP n Z m)) := hide (by
            rcases HMM.out with e | e
            · subst e; exact jw_first HNE.out
            · subst e; exact jw_second (HNO.out 1 (by omega) (by omega)) HNE.out)
          go_wp2_with fail
          refine HC.out.mono ?_
          rintro e W8 ⟨rfl, hO8, hg8⟩
          have k8 : Keeps (fun q => w0.heap.size + 3 ≤ q) W7 W8 := (keeps_grown hg8).mono (fun q _ e => (HK2.out.lt q e).1)
          have hlt := HPL.out
          have hs0 := HS0.out
          have hpb := HPB.out
          have V8 := HK1.out.keeps k8 (fun e => by omega)
          have w8 := HJ7.out.wh.keeps k8 (fun e => by omega)
          have c8 := V8.cell (i := 0) rfl
          have cw8 := w8.cell (i := 0) rfl
          have HM8 : Hid (Marks w.heap.size W8 ({ target := .collected w0.heap.size, args := #[] } :: ds)) := hide (HJ7.out.mks.keeps (keeps_grown hg8) (fun E hE e => by
            obtain ⟨cur, hc⟩ := own_block HK2.out e
            rw [hE] at hc
            simp at hc))
          have HB8 : Hid (Below w.heap.size w W8) := hide (HJ7.out.bel.trans (k8.below HJ7.out.bel.size (fun q hq e => by omega)))
          have HO8 := hide hO8
          clear hO8 hg8 k8 hlt hs0 hpb V8 w8 c7 HC
          go_upto_region 11 with fail
          refine wp_calm ?_
          go_quiet (fail)
          go_wp2_with fail
          refine leaves_marks (HM8.out.below (drewN_below _ _ nq)) (fun w9 hk9 => ?_)
          refine ⟨_, results_tmp2 rfl _ _ _, some ⟨g, 0, none⟩, c, ?_, ?_, ?_⟩
          · rw [HW.out.1, HW.out.2, HLN.out]; rfl
          · rw [HW.out.2, HLN.out, ← HSO.out]
            refine own_base (own_blk (own_below HO8.out (drewN_below _ _ nq)) (fun q hq => hk9.block q (by rw [drewN_heap]; exact (HO8.out.lt q hq).2) (fun e => ?_))) (by have := HJ0.out.bd.lt; omega)
            obtain ⟨cur, hc⟩ := own_block HO8.out hq
            have e2 := e.2
            rw [drewN_heap, hc] at e2
            simp at e2
          · exact (HB8.out.trans (drewN_below _ _ nq)).trans (hk9.below (by rw [drewN_heap]; exact HB8.out.size) (fun q hq e => by omega))
        · obtain rfl : fp = 0 := by omega
          have HNE : Hid (pls n (jnP n Z m) = []) := hide (List.eq_nil_of_length_eq_zero HLN.out)
          have cw7 := HJ7.out.wh.cell (i := 0) rfl
          go_wp2_with fail
          refine ⟨3 - (m + 1), by have := HQ.out; omega, _, _, _, _, _, _, _, _, _, _, _, _, _, _, _, _, _, _, _, _, _, _, _, _, _, _, _, _, W7.heap.size, _, m + 1, rfl, by omega, by omega, ?_, ?_, rfl⟩
          · intro m' h1 h2
            by_cases e : m' = m
            · rw [e]; exact HNE.out
            · exact HNO.out m' h1 (by omega)
          · have j7 := HJ7.out
            have b1 := (Below.refl W7.heap.size W7).alloc (Nat.le_refl _) (.cells #[.int .i64 ((m : Int) + 1)] 3)
            have j8 := j7.mono b1
            exact ⟨j8.bd, Vb.new W7 3 [.int .i64 ((m : Int) + 1)], j7.bd.lt, j8.bel, j8.mks⟩
    · obtain rfl : m = 3 := by omega
      have HW := hide (jw_none (HNO.out 1 (by omega) (by omega)) (HNO.out 2 (by omega) (by omega)))
      go_wp2_with fail
      refine leaves_marks HJS.out.mks (fun w9 hk9 => ?_)
      refine ⟨_, results_tmp2 rfl _ _ _, none, 0, ?_, ?_, ?_⟩
      · rw [HW.out.1, HW.out.2]; rfl
      · rw [HW.out.2]; exact World.ownsRow_nil _ _ _ _
      · exact HJS.out.bel.trans (hk9.below HJS.out.bel.size (fun q hq e => by omega))

end Go.Proofs.YtldgikinmmkhiaaDoor
