/-
  What Spread reaches: the places that are joined to one along such as may be gone over. No conditions beyond those that each theorem bears.
-/
import Derived.Test.YtafiaimlmdflnaaGs
namespace Go.Proofs.Ytafiaimlmdflnaa
open Go.RowKit Go.Shelf

theorem alloc_facts {w u : World} {o : Obj} (h : w.alloc o = u) : u.heap.size = w.heap.size + 1 ∧ u.heap[w.heap.size]? = some o ∧ Below w.heap.size w u := by
  subst h
  exact ⟨by simp, heap_alloc_new w o, (Below.refl _ w).alloc (Nat.le_refl _) o⟩

theorem wp_calm {P : Program} {c : Code} {K : Act → World → Prop} {Q : Exit → Act → World → Prop} {a : Act} {w : World} (h : c.wp P (Exit.then K (fun _ _ _ => False)) a w) : c.wp P (Exit.then K Q) a w := wp_mono h (fun e _ _ h => by cases e <;> first | exact h | exact h.elim)

theorem one_rd (W : World) (r : Nat) : Rd (W.alloc (.cells #[.int .i64 r] 3)) (some ⟨W.heap.size, 0, none⟩) 1 1 [(r : Int)] := by
  refine ⟨rfl, Nat.le_refl _, by unfold maxLen; omega, (fun e => by cases e), fun _ => ⟨_, 0, rfl, fun i hi => ?_⟩⟩
  obtain rfl : i = 0 := by omega
  exact new_cell W _ 3

/-- A function value tells of each place of dm whether it may be gone over, in worlds that have kept what there was in w. -/
structure MayQ (f : Nat) (lb : Array Value) (N : Nat) (m : Nat → Prop) [DecidablePred m] (dm : Nat → Prop) (w : World) : Prop where
  en : ∀ args w, (callFunc f args).run Try.prog w = .ok (.enter f args) w
  ca : ∀ q V, q < N → dm q → Below w.heap.size w V → Calls Try.prog f (#[.int .i64 (q : Nat)] ++ lb) V fun e w' => e = .returned (.bool (decide (m q))) ∧ Below V.heap.size V w'

attribute [local irreducible] mtL spr nb4 D4
attribute [local go_sem] Oper.semAt_some wide_fn wide_fn0 wide_depth

set_option maxRecDepth 100000 in
set_option maxHeartbeats 16000000 in
theorem Spread_any (W H N bc p db f : Nat) (lb : Array Value) (ba : Option Addr) (m : Nat → Prop) [DecidablePred m] (w : World) (hW : 1 ≤ W ∧ W ≤ 10) (hH : 1 ≤ H ∧ H ≤ 10) (hN : W * H = N) (hp : p < N) (hm : m p) (hD : Blk w db 37 D4) (dm : Nat → Prop) (hdm : ∀ x q, Wk N (nb4 W H) m p x → q ∈ nb4 W H x → dm q) (hQ : MayQ f lb N m dm w) :
    Calls Try.prog 48 #[.agg (gdA W H ba N bc), .int .i64 p, .func (.func f) #[] lb, .slice (some ⟨db, 0, none⟩) 4 4] w fun e w' => ∃ a c, e = .returned (.slice a (spr N (nb4 W H) m p).length c) ∧ w'.ownsRow w.heap.size 3 1 (.slice a (spr N (nb4 W H) m p).length c) (spr N (nb4 W H) m p).length ((toI (spr N (nb4 W H) m p)).map (Value.int .i64)) ∧ Below w.heap.size w w' := by
  have hN100 : N ≤ 100 := by rw [← hN]; exact Nat.mul_le_mul hW.2 hH.2
  have HD := hide hD
  have HDL := hide hD.lt
  have HNN := hide hN
  have HCA := hide hQ.ca
  have hen := hQ.en
  clear hD hQ
  refine (callsIn_wide (n := 3)).1 ?_
  refine callsIn_of_wp_marks Try.func48 rfl trivial ?_ rfl
  simp only [Try.ntmps48, List.size_toArray, List.length_cons, List.length_nil, Nat.reduceAdd, Nat.reduceSub, Array.replicate_succ, Array.replicate_zero, List.push_toArray, List.append_toArray, List.nil_append, List.cons_append]
  refine wpIn_wide.2 ?_
  go_upto_region 3 with fail
  obtain ⟨u1, hu1⟩ : ∃ u1, w.alloc (.cells (gdA W H ba N bc) 24) = u1 := ⟨_, rfl⟩
  obtain ⟨u2, hu2⟩ : ∃ u2, u1.alloc (.cells #[.func (.func f) #[] lb] 74) = u2 := ⟨_, rfl⟩
  obtain ⟨u3, hu3⟩ : ∃ u3, u2.alloc (.cells #[.int .i64 p] 3) = u3 := ⟨_, rfl⟩
  obtain ⟨u4, hu4⟩ : ∃ u4, u3.alloc (.cells #[.slice (some ⟨w.heap.size + 1 + 1, 0, none⟩) 1 1] 22) = u4 := ⟨_, rfl⟩
  obtain ⟨u5, hu5⟩ : ∃ u5, u4.alloc (.cells Try.zeroCells102 102) = u5 := ⟨_, rfl⟩
  rw [hu1, hu2, hu3, hu4, hu5]
  obtain ⟨s1, h1, B1⟩ := alloc_facts hu1
  obtain ⟨s2, h2, B2⟩ := alloc_facts hu2
  obtain ⟨s3, h3, B3⟩ := alloc_facts hu3
  obtain ⟨s4, h4, B4⟩ := alloc_facts hu4
  obtain ⟨s5, h5, B5⟩ := alloc_facts hu5
  rw [s1] at h2 s2 B2
  rw [s2] at h3 s3 B3
  rw [s3] at h4 s4 B4
  rw [s4] at h5 s5 B5
  have B15 : Below (w.heap.size + 1) u1 u5 := ((B2.trans (B3.mono (by omega))).trans (B4.mono (by omega))).trans (B5.mono (by omega))
  have B25 : Below (w.heap.size + 1 + 1) u2 u5 := (B3.trans (B4.mono (by omega))).trans (B5.mono (by omega))
  have B35 : Below (w.heap.size + 1 + 1 + 1) u3 u5 := B4.trans (B5.mono (by omega))
  have B05 : Below w.heap.size w u5 := B1.trans (B15.mono (by omega))
  have K0 : Gd u5 w.heap.size W H ba N bc := (show Gd u1 w.heap.size W H ba N bc from h1).below B15 (by omega)
  have K1 : Vb u5 (w.heap.size + 1) 74 [.func (.func f) #[] lb] := (show Vb u2 (w.heap.size + 1) 74 [.func (.func f) #[] lb] from h2).below B25 (by omega)
  have K2 : Vb u5 (w.heap.size + 1 + 1) 3 [.int .i64 p] := (show Vb u3 (w.heap.size + 1 + 1) 3 [.int .i64 p] from h3).below B35 (by omega)
  have K3 : Vb u5 (w.heap.size + 1 + 1 + 1) 22 [.slice (some ⟨w.heap.size + 1 + 1, 0, none⟩) 1 1] := (show Vb u4 (w.heap.size + 1 + 1 + 1) 22 [.slice (some ⟨w.heap.size + 1 + 1, 0, none⟩) 1 1] from h4).below B5 (by omega)
  have K4 : Vb u5 (w.heap.size + 1 + 1 + 1 + 1) 102 (mtL []) := by
    have : u5.heap[w.heap.size + 1 + 1 + 1 + 1]? = _ := h5
    rw [mtL_zero] at this
    exact this
  have KD : Blk u5 db 37 D4 := HD.out.below B05 HDL.out
  have O2 : u5.ownsRow (w.heap.size + 1 + 1) 3 1 (.slice (some ⟨w.heap.size + 1 + 1, 0, none⟩) 1 1) 1 ((toI [p]).map (Value.int .i64)) :=
    ⟨rfl, .inr ⟨w.heap.size + 1 + 1, 1, #[.int .i64 p], rfl, Nat.le_refl _, K2, Nat.le_refl _, by unfold maxLen; omega, rfl, rfl⟩⟩
  obtain ⟨b1, hb1⟩ : ∃ b1, w.heap.size + 1 = b1 := ⟨_, rfl⟩
  obtain ⟨b3, hb3⟩ : ∃ b3, b1 + 1 + 1 = b3 := ⟨_, rfl⟩
  obtain ⟨b4, hb4⟩ : ∃ b4, b3 + 1 = b4 := ⟨_, rfl⟩
  rw [hb1] at K1 K2 K3 K4 O2 s5 ⊢
  rw [hb3] at K3 K4 s5 ⊢
  rw [hb4] at K4 s5 ⊢
  have HBS : Hid (b1 = w.heap.size + 1 ∧ b3 = w.heap.size + 3 ∧ b4 = w.heap.size + 4 ∧ u5.heap.size = w.heap.size + 5 ∧ db < w.heap.size) := hide ⟨by omega, by omega, by omega, by omega, HDL.out⟩
  have cv := K1.cell (i := 0) rfl
  have cm := K4.cell (mtL_at (G := []) (show p < 100 by omega))
  have fm := K4.frozen p
  clear hu1 hu2 hu3 hu4 hu5 s1 s2 s3 s4 s5 h1 h2 h3 h4 h5 B1 B2 B3 B4 B5 B15 B25 B35 hb1 hb3 hb4
  have hp100 : (p : Int) < 100 := by omega
  go_upto_region 4 with fail
  have G5 : Gs w.heap.size b1 b3 b4 db W H ba N bc (.func (.func f) #[] lb) (fun _ => True) (u5.setCell ⟨b4, p, none⟩ (.bool true)) [p] := by
    obtain ⟨e1, e2, e3, e4, e5⟩ := HBS.out
    have kk : Keeps (fun k => k = b4) u5 (u5.setCell ⟨b4, p, none⟩ (.bool true)) := Keeps.set1 _ _ _ _
    refine ⟨K0.keeps kk (by omega), kk.cell cv (by show ¬ b1 = b4; omega), ⟨b1 + 1, 1, K3.keeps kk (by omega), own_blk O2 (fun g hg => ?_), trivial⟩, ?_, KD.keeps kk (by omega)⟩
    · simp only [Value.ownBlock, Option.some.injEq] at hg
      subst hg
      exact kk.block _ (by omega) (by omega)
    · have := K4.set p (.bool true)
      rw [mtL_set] at this
      exact this
  have B5 : Below w.heap.size w (u5.setCell ⟨b4, p, none⟩ (.bool true)) := B05.setCell (p := ⟨b4, p, none⟩) (by have := HBS.out; show w.heap.size ≤ b4; omega) _
  have S5 : u5.heap.size ≤ (u5.setCell ⟨b4, p, none⟩ (.bool true)).heap.size := by simp [World.setCell]
  generalize u5.setCell ⟨b4, p, none⟩ (.bool true) = W5 at *
  have HG5 := hide G5
  have HB5 := hide B5
  have HBS2 : Hid (b1 = w.heap.size + 1 ∧ b3 = w.heap.size + 3 ∧ b4 = w.heap.size + 4 ∧ db < w.heap.size) := hide ⟨HBS.out.1, HBS.out.2.1, HBS.out.2.2.1, HBS.out.2.2.2.2⟩
  clear K0 K1 K2 K3 K4 KD O2 B05 cv cm fm G5 B5 S5 HBS
  go_wp2_with fail
  refine wp_loop (fun a' wr => ∃ (v0 v1 v2 v5 v7 v8 v11 v12 v13 v14 v15 v16 v17 v18 v19 v20 v21 v22 v23 v24 v25 v26 v27 v28 v29 v30 v31 v32 v33 v34 v35 v36 v37 v38 v39 v40 v41 v42 v43 v44 v45 v46 v47 v48 : Value) (ds : List Deferred), (∃ (k : Nat) (G : List Nat), v11 = .int .i64 k ∧ k ≤ G.length ∧ Hid (Bf N (nb4 W H) m p G k) ∧ Hid (Gs w.heap.size b1 b3 b4 db W H ba N bc (.func (.func f) #[] lb) (fun _ => True) wr G) ∧ Hid (Below w.heap.size w wr) ∧ Hid (Marks w.heap.size wr ds)) ∧ a' = { tmps := #[v0, v1, v2, .slice (some ⟨db, 0, none⟩) 4 4, .pointer (some ⟨w.heap.size, 0, none⟩), v5, .pointer (some ⟨b1, 0, none⟩), v7, v8, .pointer (some ⟨b3, 0, none⟩), .pointer (some ⟨b4, 0, none⟩), v11, v12, v13, v14, v15, v16, v17, v18, v19, v20, v21, v22, v23, v24, v25, v26, v27, v28, v29, v30, v31, v32, v33, v34, v35, v36, v37, v38, v39, v40, v41, v42, v43, v44, v45, v46, v47, v48], defers := ds }) (fun a' _ => N - (intOf (a'.tmps.getD 11 undef)).toNat) ?start ?round
  case start =>
    refine ⟨_, _, _, _, _, _, _, _, _, _, _, _, _, _, _, _, _, _, _, _, _, _, _, _, _, _, _, _, _, _, _, _, _, _, _, _, _, _, _, _, _, _, _, _, [], ⟨0, [p], rfl, by simp, hide (Bf.begin hp hm), HG5, HB5, hide (Marks.nil _ _)⟩, rfl⟩
  case round =>
    rintro a0 wr ⟨v0, v1, v2, v5, v7, v8, v11, v12, v13, v14, v15, v16, v17, v18, v19, v20, v21, v22, v23, v24, v25, v26, v27, v28, v29, v30, v31, v32, v33, v34, v35, v36, v37, v38, v39, v40, v41, v42, v43, v44, v45, v46, v47, v48, ds, ⟨k, G, rfl, hkG, hBf, hGs, hBl, hMk⟩, rfl⟩
    clear HG5 HB5
    have hGN : G.length ≤ N := hBf.out.len
    obtain ⟨g, hGg, hgl, hg1, hg3, hg4, -, cur, hgc⟩ := hGs.out.own
    obtain ⟨g', c', r1, r2, rfl⟩ := hGg.row
    have cG := r1.cell (i := 0) rfl
    have HGG := hide hGg
    have HGL := hide hgl
    have HGC := hide hgc
    have HGB : Hid (b1 + 1 ≤ g' ∧ g' ≠ b3 ∧ g' ≠ b4) := hide ⟨hg1, hg3, hg4⟩
    have HR2 := hide r2
    have HR1 := hide r1
    clear hGg hgl hg1 hg3 hg4 hgc r1 r2 hGs
    by_cases hk : k < G.length
    · have hk' : (k : Int) < (G.length : Int) := by omega
      obtain ⟨x, hx⟩ : ∃ x, G.getD k 0 = x := ⟨_, rfl⟩
      have HX := hide hx
      have HXN : Hid (x < W * H) := hide (by rw [← hx, HNN.out]; exact hBf.out.lt (getD_memN hk))
      have HK : Hid (k < G.length) := hide hk
      have HCX : Hid (∀ W4, Below wr.heap.size wr W4 → W4.cell? ⟨g', k, none⟩ = some (.int .i64 x)) := hide (fun W4 hb => by
        refine (hb.cell (p := ⟨g', k, none⟩) HGL.out).trans ?_
        rw [HR2.out.cellAt k (by omega), ← hx, ← toI_getD hk]
        simp [List.getD, toI, hk])
      have HCG : Hid (∀ W4, Below wr.heap.size wr W4 → W4.cell? ⟨b3, 0, none⟩ = some (.slice (some ⟨g', 0, none⟩) G.length c')) := hide (fun W4 hb => (HR1.out.mono hb).cell (i := 0) rfl)
      have HGR : Hid (∀ W4, Below wr.heap.size wr W4 → W4.rangeAt w.heap.size 0 [.int .i64 W, .int .i64 H, .slice ba N bc]) := hide (fun W4 hb => (HGG.out.bd.below hb HGG.out.bd.lt).range)
      have HTW := hide HGG.out.dr
      obtain ⟨gl, hgl⟩ : ∃ gl, G.length = gl := ⟨_, rfl⟩
      rw [hgl] at hk hk' hGN cG HCG
      have HLG := hide hgl
      clear hx hkG hgl
      go_upto_region 7 with fail
      clear cG
      refine wp_calm ?_
      refine wp_region_held (S := fun W4 => Below wr.heap.size wr W4) (by kernel_rfl) ?_
      change wpAnyH _ _ _ _ _ _ _ _ (World.drew _)
      have SW : Below wr.heap.size wr wr.drew := (Below.refl _ wr).drew
      refine wpAnyH_take (i := 0) (v := .agg (gdA W H ba N bc)) rfl (by kernel_rfl) (by kernel_rfl) (by kernel_rfl) (fun _ _ _ h => h) (yieldsIf_load_mid (by rfl) 24 _ rfl w.heap.size 0 (by rfl) [.int .i64 W, .int .i64 H, .slice ba N bc] _ (fun W hW => HGR.out W hW) Try.underlying24 rfl size24) SW ?_
      go_simp
      refine wpAnyH_take (i := 1) (v := .slice (some ⟨g', 0, none⟩) gl c') rfl (by kernel_rfl) (by kernel_rfl) (by kernel_rfl) (fun _ _ _ h => h) (Or.inl ⟨by rfl, ?_⟩) SW ?_
      · intro W4 hW4
        have x0 := HCG.out W4 hW4
        go_simp <;> first | done | rfl | (rw [IntKind.wrap_i64]; omega) | omega
      go_simp
      refine wpAnyH_take (i := 2) (v := .int .i64 k) rfl (by kernel_rfl) (by kernel_rfl) (by kernel_rfl) (fun _ _ _ h => h) (Or.inl ⟨by rfl, ?_⟩) SW ?_
      · intro W4 hW4
        go_simp <;> first | done | rfl | (rw [IntKind.wrap_i64]; omega) | omega
      go_simp
      refine wpAnyH_take (i := 3) (v := .pointer (some ⟨g', k, none⟩)) rfl (by kernel_rfl) (by kernel_rfl) (by kernel_rfl) (fun _ _ _ h => h) (Or.inl ⟨by rfl, ?_⟩) SW ?_
      · intro W4 hW4
        go_simp <;> first | done | rfl | (rw [IntKind.wrap_i64]; omega) | omega
      go_simp
      refine wpAnyH_take (i := 4) (v := .int .i64 x) rfl (by kernel_rfl) (by kernel_rfl) (by kernel_rfl) (fun _ _ _ h => h) (Or.inl ⟨by rfl, ?_⟩) SW ?_
      · intro W4 hW4
        have x0 := HCX.out W4 hW4
        go_simp <;> first | done | rfl | (rw [IntKind.wrap_i64]; omega) | omega
      go_simp
      refine wpAnyH_take (i := 5) (v := .slice (some ⟨db, 0, none⟩) 4 4) rfl (by kernel_rfl) (by kernel_rfl) (by kernel_rfl) (fun _ _ _ h => h) (Or.inl ⟨by rfl, ?_⟩) SW ?_
      · intro W4 hW4
        go_simp <;> first | done | rfl | (rw [IntKind.wrap_i64]; omega) | omega
      go_simp
      refine wpAnyH_ready (rs := [6]) (by kernel_rfl) (by simp) ?_
      refine AllReadyH.cons rfl (fun K1 hK1 => ?_) AllReadyH.nil
      go_simp
      refine (Beside_any x W H ba N bc (db := db) _ rfl _).mono ?_
      rintro e w0 ⟨rfl, hw0⟩
      have RN : NbR wr.heap.size (wr.heap.size + 1) (wr.heap.size + 2) db x W H ba N bc w0 := by rw [hw0]; exact NbR.new x W H _ N bc db wr.drew HTW.out
      have BW : Below wr.heap.size wr w0 := by rw [hw0]; exact ((SW.alloc (by simp) _).alloc (by simp) _).alloc (by simp; omega) _
      have hs0 : wr.heap.size + 3 ≤ w0.heap.size ∧ w0.heap.size ≤ wr.heap.size + 3 := by rw [hw0]; simp
      have HRN := hide RN
      have HBW := hide BW
      have HS0 := hide hs0
      refine hK1.out _ _ BW (fun SW => ?_)
      clear RN hw0 hs0 hK1 K1
      refine wpAnyH_done (by kernel_rfl) ?_ _
      go_wp2_with fail
      have GsW : Gs w.heap.size b1 b3 b4 db W H ba N bc (.func (.func f) #[] lb) (fun q => q = g') w0 G := HGG.out.keeps (X := fun _ => False) (Keeps.of_all BW) (fun h => h) (fun h => h) (fun h => h) (fun h => h) (fun h => h) (fun _ _ h => h)
      have HMW := hide (hMk.out.below BW)
      have HBLW : Hid (Below w.heap.size w w0) := hide (hBl.out.trans (BW.mono hBl.out.size))
      refine (wpIn_wide (n := 1)).1 (wp_range_q (gf := 87) (lb := #[.pointer (some ⟨wr.heap.size + 2, 0, none⟩), .pointer (some ⟨wr.heap.size + 1, 0, none⟩), .pointer (some ⟨wr.heap.size, 0, none⟩)]) (G := NbG) (xs := nb4 W H x) (R := NbR wr.heap.size (wr.heap.size + 1) (wr.heap.size + 2) db x W H ba N bc) (T := NbT wr.heap.size (wr.heap.size + 1) (wr.heap.size + 2) db) (c := 0) (by simp [Act.eval]) (enters_of Try.func87 (by kernel_rfl) rfl)
        (nb1_seq _ _ _ db x W H _ N bc hW hH HXN.out) (fun k hk => HRN.out.lt k hk) (fun A B hA hk => hA.keeps hk (fun k hk h => h hk)) HRN.out (fun k => k = b3 ∨ k = b4 ∨ k = g' ∨ w0.heap.size + 2 ≤ k) ?hX (fun x args W' hG => by rw [hG]; rfl)
        (fun pre W' => ∃ G', Gs w.heap.size b1 b3 b4 db W H ba N bc (.func (.func f) #[] lb) (fun q => q = g' ∨ w0.heap.size + 2 ≤ q) W' G' ∧ Bf N (nb4 W H) m p G' k ∧ k < G'.length ∧ G'.getD k 0 = x ∧ (∀ r ∈ pre, m r → r ∈ G') ∧ Keeps (fun k => k = b3 ∨ k = b4 ∨ k = g') w0 W') (fun _ _ => False) ?hI (fun _ _ _ h _ => h) ⟨G, GsW.wide (fun q e => Or.inl e), hBf.out, HK.out, HX.out, (fun r hr => by cases hr), Keeps.refl _ _⟩ ?round ?done (fun _ _ _ _ h => h.elim))
      case hX =>
        intro q hq
        have e1 := HBS2.out
        have e2 := HS0.out
        have e3 := HGL.out
        have e4 := HGG.out.met.lt
        have e5 := HGB.out
        have e6 := hBl.out.size
        unfold NbT
        refine ⟨fun ht => by omega, fun e => by omega⟩
      case hI =>
        rintro s A B ⟨G', j1, j2, j3, j4, j5, j6⟩ hk
        have e1 := HBS2.out
        have e2 := HS0.out
        have e3 := HGL.out
        have e4 := HGG.out.met.lt
        refine ⟨G', j1.keeps hk (fun e => by omega) (fun e => by omega) (fun e => by omega) (fun e => by omega) (fun e => by omega) (fun q hq e => by omega), j2, j3, j4, j5, j6.after hk (fun i hi e => by omega)⟩
      case round =>
        rintro l2 pre r args W1 hl2 ⟨rec, hrec⟩ ⟨G', j1, j2, j3, j4, j5, j6⟩ hpre hG hsz
        obtain rfl : args = #[.int .i64 r] := hG
        have hrm : r ∈ nb4 W H x := by
          have := hpre.subset (show r ∈ pre ++ [r] by simp)
          exact this
        have hrN : r < N := by rw [← HNN.out]; exact nb4_lt hrm
        have hr100 : (r : Int) < 100 := by omega
        have HJ1 := hide j1
        have HJ2 := hide j2
        have HJ3 := hide j3
        have HJ4 := hide j4
        have HJ5 := hide j5
        have HJ6 := hide j6
        have HRM := hide hrm
        clear j1 j2 j3 j4 j5 j6 hpre hrm hrec
        gi_wp2
        refine ⟨Keeps.refl _ _, ?_⟩
        intro W3 hk3
        have e1 := HBS2.out
        have e2 := HS0.out
        have e4 := HGG.out.met.lt
        have e3 := HGL.out
        have hl2' : w0.heap.size + 1 ≤ l2 ∧ l2 ≤ w0.heap.size + 1 := by omega
        have G3 : Gs w.heap.size b1 b3 b4 db W H ba N bc (.func (.func f) #[] lb) (fun q => q = g' ∨ w0.heap.size + 2 ≤ q) W3 G' := HJ1.out.keeps hk3 (fun e => by omega) (fun e => by omega) (fun e => by omega) (fun e => by omega) (fun e => by omega) (fun q hq e => by omega)
        have K3 : Keeps (fun k => k = b3 ∨ k = b4 ∨ k = g') w0 W3 := HJ6.out.after hk3 (fun i hi e => by omega)
        have B3 : Below w.heap.size w W3 := by
          have hw0 : Below w.heap.size w w0 := HBLW.out
          refine hw0.trans (K3.below (by have := HBLW.out.size; omega) (fun q hq e => ?_))
          have := HGB.out
          omega
        have cm := G3.met.cell (mtL_at (G := G') (show r < 100 by omega))
        have cv := G3.mv
        have HG3 := hide G3
        have HK3 := hide K3
        have HC := hide (HCA.out r W3 hrN (hdm x r (HJ2.out.wk x (by rw [← HJ4.out]; exact getD_memN HJ3.out)) HRM.out) B3)
        have HB3 := hide B3
        have HL2 := hide hl2'
        have HSZ3 : Hid (w0.heap.size + 2 ≤ W3.heap.size) := hide (Nat.le_trans hsz hk3.size)
        clear hl2 hl2' e1 e2 e3 e4 G3 K3 B3 hk3 HJ1 HJ6
        by_cases hmem : r ∈ G'
        · rw [decide_eq_true hmem] at cm
          gi_wp2
          refine ⟨Keeps.refl _ _, G', HG3.out, HJ2.out, HJ3.out, HJ4.out, fun r' hr' hs => ?_, HK3.out⟩
          rcases List.mem_append.1 hr' with h | h
          · exact HJ5.out r' h hs
          · rw [List.mem_singleton.1 h]; exact hmem
        · rw [decide_eq_false hmem] at cm
          gi_wp2
          refine (CallsIn.inRound l2 (callsIn_wide.2 HC.out)).mono ?_
          rintro e W4 ⟨rfl, hb4⟩
          have G4 : Gs w.heap.size b1 b3 b4 db W H ba N bc (.func (.func f) #[] lb) (fun q => q = g' ∨ w0.heap.size + 2 ≤ q) W4 G' := HG3.out.keeps (X := fun _ => False) (Keeps.of_all hb4) (fun h => h) (fun h => h) (fun h => h) (fun h => h) (fun h => h) (fun _ _ h => h)
          have HK4 : Hid (Keeps (fun k => k = b3 ∨ k = b4 ∨ k = g') w0 W4) := hide (HK3.out.trans (Keeps.of_all hb4))
          have HS4 : Hid (W3.heap.size ≤ W4.heap.size) := hide hb4.size
          have HKD : Hid (Keeps (fun k => k = b3 ∨ k = b4 ∨ k = g' ∨ w0.heap.size + 2 ≤ k) W3 W4) := hide (Keeps.of_all hb4)
          clear hb4 HG3 HC cm cv
          by_cases heq : m r
          · have HGR := hide (HJ2.out.grow HJ3.out HJ4.out HRM.out hrN heq hmem)
            rw [decide_eq_true heq]
            clear heq hmem
            obtain ⟨g2, c2, q1, q2, q3⟩ := G4.row
            have e1 := HBS2.out
            have hne3 : g2 ≠ b3 ∧ g2 ≠ b4 := by
              obtain ⟨g, hh, -, -, h3, h4, -, -⟩ := G4.own
              obtain ⟨g5, c5, z1, -, z3⟩ := hh.row
              have zz := (show W4.heap[b3]? = _ from z1).symm.trans (show W4.heap[b3]? = _ from q1)
              simp at zz
              rw [← zz.1, z3]
              exact ⟨h3, h4⟩
            have hgl2 : G'.length + 1 ≤ 101 := by
              have h1 := HGR.out.len
              rw [List.length_append, List.length_singleton] at h1
              omega
            have cm := G4.met.cell (mtL_at (G := G') (show r < 100 by omega))
            have fm := G4.met.frozen r
            have kk : Keeps (fun k => k = b4) W4 (W4.setCell ⟨b4, r, none⟩ (.bool true)) := Keeps.set1 _ _ _ _
            have M5 : Vb (W4.setCell ⟨b4, r, none⟩ (.bool true)) b4 102 (mtL (G' ++ [r])) := by
              have := G4.met.set r (.bool true)
              rw [mtL_set] at this
              exact this
            have D5 : Gd (W4.setCell ⟨b4, r, none⟩ (.bool true)) w.heap.size W H ba N bc := G4.bd.keeps kk (by omega)
            have P5 := kk.cell G4.mv (by show ¬ b1 = b4; omega)
            have E5 := G4.dr.keeps kk (by omega)
            have R5 := q1.keeps kk (by omega)
            have O5 : (W4.setCell ⟨b4, r, none⟩ (.bool true)).ownsRow (b1 + 1) 3 1 (.slice (some ⟨g2, 0, none⟩) G'.length c2) G'.length ((toI G').map (Value.int .i64)) := own_blk q2 (fun g hg => by
              simp only [Value.ownBlock, Option.some.injEq] at hg
              subst hg
              exact kk.block _ (q2.lt _ rfl).2 hne3.2)
            have hs5 : W3.heap.size ≤ (W4.setCell ⟨b4, r, none⟩ (.bool true)).heap.size := Nat.le_trans HS4.out kk.size
            have HK5 : Hid (Keeps (fun k => k = b3 ∨ k = b4 ∨ k = g') w0 (W4.setCell ⟨b4, r, none⟩ (.bool true))) := hide (HK4.out.after kk (fun i _ e => by omega))
            have HKD5 : Hid (Keeps (fun k => k = b3 ∨ k = b4 ∨ k = g' ∨ w0.heap.size + 2 ≤ k) W3 (W4.setCell ⟨b4, r, none⟩ (.bool true))) := hide (HKD.out.after kk (fun i _ e => by omega))
            have hb15 : b1 + 1 ≤ (W4.setCell ⟨b4, r, none⟩ (.bool true)).heap.size := by have := M5.lt; omega
            obtain ⟨W5, hW5⟩ : ∃ W5, W4.setCell ⟨b4, r, none⟩ (.bool true) = W5 := ⟨_, rfl⟩
            rw [hW5] at M5 D5 P5 R5 O5 E5 hs5 HK5 HKD5 hb15
            have c5 := R5.cell (i := 0) rfl
            have f5 := R5.frozen 0
            have c5a := old_cell (.cells #[.int .i64 r] 3) c5
            have O5a := O5.alloc (.cells #[.int .i64 r] 3)
            have N5a := one_rd W5 r
            have HM5 := hide M5
            have HD5 := hide D5
            have HP5 := hide P5
            have HE5 := hide E5
            have HR5 := hide R5
            have HO5 := hide O5
            have HQ3' := hide q3
            have HNE := hide hne3
            have HSW5 : Hid (w0.heap.size + 2 ≤ W5.heap.size) := hide (Nat.le_trans HSZ3.out hs5)
            obtain ⟨gl2, hgle⟩ : ∃ gl2, G'.length = gl2 := ⟨_, rfl⟩
            rw [hgle] at c5 c5a O5a hgl2 HO5 HR5
            have HGLE := hide hgle
            clear q1 q2 q3 M5 D5 P5 R5 O5 E5 e1 hne3 hgle G4 kk
            gi_wp2_with (gi_at_builtin; refine wpListIn_append_i _ rfl _ _ rfl (b1 + 1) _ gl2 _ rfl O5a ⟨W5.heap.size, 0, none⟩ 1 1 [(r : Int)] rfl N5a (by omega) (by omega) (by simp; omega) ?_)
            intro v' W6 hO6 hg6 hpl6
            obtain ⟨g6, c6, rfl, hgb6⟩ := own_some hO6 (by omega)
            have hO6b : W6.ownsRow (b1 + 1) 3 1 (.slice (some ⟨g6, 0, none⟩) (gl2 + 1) c6) (gl2 + 1) ((toI (G' ++ [r])).map (Value.int .i64)) := by rw [toI_snoc, List.map_append]; exact hO6
            have k56 : Keeps (fun k => k = g2) W5 W6 := by
              refine ((Keeps.refl _ W5).alloc (.cells #[.int .i64 r] 3)).trans ?_
              exact (keeps_grown hg6).mono (fun q _ e => by simp only [Value.ownBlock, Option.some.injEq] at e; exact e.symm)
            have hS6 : g6 = g' ∨ w0.heap.size + 2 ≤ g6 := by
              rcases hpl6 g6 rfl with e | e
              · simp only [Value.ownBlock, Option.some.injEq] at e; rw [← e]; exact HQ3'.out
              · right; have := HSW5.out; first | omega | (simp at e; omega)
            have e7 := HNE.out
            have e8 := HBS2.out
            have M6 := HM5.out.keeps k56 (fun e => e7.2 e.symm)
            have R6 := HR5.out.keeps k56 (fun e => e7.1 e.symm)
            have D6 := HD5.out.keeps k56 (fun e => by have := (HO5.out.lt g2 rfl).1; omega)
            have P6 := k56.cell HP5.out (by show ¬ b1 = g2; have := (HO5.out.lt g2 rfl).1; omega)
            have E6 := HE5.out.keeps k56 (fun e => by have := (HO5.out.lt g2 rfl).1; omega)
            have hne6 : g6 ≠ b3 ∧ g6 ≠ b4 := by
              obtain ⟨cur, hc⟩ := own_block hO6b rfl
              constructor
              · rintro rfl
                have := (show W6.heap[g6]? = _ from R6)
                rw [hc] at this
                simp at this
              · rintro rfl
                have := (show W6.heap[g6]? = _ from M6)
                rw [hc] at this
                simp at this
            have c6' := R6.cell (i := 0) rfl
            have f6 := R6.frozen 0
            have kk7 : Keeps (fun k => k = b3) W6 (W6.setCell ⟨b3, 0, none⟩ (.slice (some ⟨g6, 0, none⟩) (gl2 + 1) c6)) := Keeps.set1 _ _ _ _
            have HG7 : Hid (Gs w.heap.size b1 b3 b4 db W H ba N bc (.func (.func f) #[] lb) (fun q => q = g' ∨ w0.heap.size + 2 ≤ q) (W6.setCell ⟨b3, 0, none⟩ (.slice (some ⟨g6, 0, none⟩) (gl2 + 1) c6)) (G' ++ [r])) := hide (by
              have hl : (G' ++ [r]).length = gl2 + 1 := by simp [HGLE.out]
              refine ⟨D6.keeps kk7 (by omega), kk7.cell P6 (by show ¬ b1 = b3; omega), ⟨g6, c6, ?_, ?_, hS6⟩, M6.keeps kk7 (by omega), E6.keeps kk7 (by omega)⟩
              · rw [hl]; exact R6.set 0 _
              · rw [hl]
                exact own_blk hO6b (fun g hg => by
                  simp only [Value.ownBlock, Option.some.injEq] at hg
                  subst hg
                  exact kk7.block _ (hO6b.lt _ rfl).2 hne6.1))
            have HK7 : Hid (Keeps (fun k => k = b3 ∨ k = b4 ∨ k = g') w0 (W6.setCell ⟨b3, 0, none⟩ (.slice (some ⟨g6, 0, none⟩) (gl2 + 1) c6))) := hide (by
              refine (HK5.out.after k56 (fun i hi e => ?_)).after kk7 (fun i _ e => by omega)
              rcases HQ3'.out with h | h <;> omega)
            have HKD7 : Hid (Keeps (fun k => k = b3 ∨ k = b4 ∨ k = g' ∨ w0.heap.size + 2 ≤ k) W3 (W6.setCell ⟨b3, 0, none⟩ (.slice (some ⟨g6, 0, none⟩) (gl2 + 1) c6))) := hide (by
              refine (HKD5.out.after k56 (fun i hi e => ?_)).after kk7 (fun i _ e => by omega)
              rcases HQ3'.out with h | h <;> omega)
            clear hO6 hg6 hpl6 hO6b k56 M6 R6 D6 P6 E6 kk7 O5a N5a c5 c5a f5 hgb6 e7 e8 hne6 hS6
            gi_wp2_with fail
            refine ⟨HKD7.out, G' ++ [r], HG7.out, HGR.out, by rw [List.length_append, List.length_singleton]; have := HJ3.out; omega, by rw [getD_appN HJ3.out]; exact HJ4.out, fun r' hr' hs => ?_, HK7.out⟩
            rcases List.mem_append.1 hr' with h | h
            · exact List.mem_append_left _ (HJ5.out r' h hs)
            · exact List.mem_append_right _ h
          · rw [decide_eq_false heq]
            gi_wp2
            refine ⟨HKD.out, G', G4, HJ2.out, HJ3.out, HJ4.out, fun r' hr' hs => ?_, HK4.out⟩
            rcases List.mem_append.1 hr' with h | h
            · exact HJ5.out r' h hs
            · rw [List.mem_singleton.1 h] at hs
              exact absurd hs heq
      case done =>
        rintro D W7 hD ⟨G', j1, j2, j3, j4, j5, j6⟩ _ hKD
        have e1 := HBS2.out
        have e2 := HS0.out
        have HBf := hide (j2.next j4 (fun r hr hs => j5 r hr hs))
        have HGs := hide (j1.wide (S' := fun _ => True) (fun _ _ => trivial))
        have HBl : Hid (Below w.heap.size w W7) := hide (HBLW.out.trans (j6.below (by have := HBLW.out.size; omega) (fun q hq e => by have := HGB.out; omega)))
        have HMk : Hid (Marks w.heap.size W7 ({ target := .collected D, args := #[] } :: ds)) := hide (HMW.out.push j6 (not_deferred (fun q hq _ => by
          rcases hq with e | e | e
          · rw [e]; exact ⟨_, _, (HR1.out.mono HBW.out)⟩
          · rw [e]; exact ⟨_, _, GsW.met⟩
          · rw [e]; exact ⟨_, _, (HBW.out.block _ HGL.out).trans HGC.out⟩)) (by omega) (by have := HBLW.out.size; omega) hKD)
        have hk1 : k + 1 ≤ G'.length := j3
        clear j1 j2 j3 j4 j5 j6 hKD GsW e1 e2
        go_wp2
        refine ⟨⟨_, _, _, _, _, _, _, _, _, _, _, _, _, _, _, _, _, _, _, _, _, _, _, _, _, _, _, _, _, _, _, _, _, _, _, _, _, _, _, _, _, _, _, _, _, ⟨k + 1, G', rfl, hk1, HBf, HGs, HBl, HMk⟩, rfl⟩, ?_⟩
        show N - ((k : Int) + 1).toNat < N - ((k : Int)).toNat
        have := HBf.out.len
        omega
    · obtain rfl : k = G.length := by omega
      have HSO := hide hBf.out.sorted
      have HLE := hide hBf.out.length
      obtain ⟨gl, hgl⟩ : ∃ gl, G.length = gl := ⟨_, rfl⟩
      have HC := hide (sort_own HR2.out (by omega))
      rw [hgl] at cG HC HLE HR1 hk ⊢
      obtain ⟨MG, hMG⟩ : ∃ MG, toI (spr N (nb4 W H) m p) = MG := ⟨_, rfl⟩
      have HMG := hide hMG
      clear hkG hgl hMG
      go_wp2_with fail
      refine HC.out.mono ?_
      rintro e W8 ⟨rfl, hO8, hg8⟩
      have k8 : Keeps (fun q => q = g') wr W8 := (keeps_grown hg8).mono (fun q _ e => by simp only [Value.ownBlock, Option.some.injEq] at e; exact e.symm)
      have c8 := (HR1.out.keeps k8 (fun e => HGB.out.2.1 e.symm)).cell (i := 0) rfl
      have HM8 := hide (hMk.out.keeps k8 (fun D hD e => by subst e; have h1 := HGC.out; rw [hD] at h1; simp at h1))
      have HB8 : Hid (Below w.heap.size w W8) := hide (hBl.out.trans (k8.below hBl.out.size (fun q hq e => by have := HGB.out; have := HBS2.out; omega)))
      have HO8 := hide hO8
      clear hO8 hg8 k8 cG HC
      go_wp2
      refine leaves_marks HM8.out (fun w9 hk9 => ?_)
      refine ⟨_, results_tmp rfl _ _ _, some ⟨g', 0, none⟩, c', ?_, ?_, ?_⟩
      · rw [HLE.out]; rfl
      · rw [HLE.out]
        have e1 := HBS2.out
        refine own_base (own_blk (by rw [← HSO.out]; exact HO8.out) (fun q hq => hk9.block q (HO8.out.lt q hq).2 (fun e => ?_))) (by omega)
        obtain ⟨cur, hc⟩ := own_block HO8.out hq
        rw [e.2] at hc
        simp at hc
      · exact HB8.out.trans (hk9.below HB8.out.size (fun q hq e => by omega))

end Go.Proofs.Ytafiaimlmdflnaa
