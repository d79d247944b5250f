/-
  Draughts: turned round a board has the same ways; from the beginning there are 7, 49, 302 rows: the law, walked. No conditions beyond those that each theorem bears.
-/
import Derived.Test.YtnbaangnpoblfaaDoorCg
import Derived.Test.YtnbaangnpoblfaaDoorUs
import Derived.Test.YtnbaangnpoblfaaDoorTc
namespace Go.Proofs.YtnbaangnpoblfaaDoor
open Go.RowKit Go.Shelf

theorem Cnt (f : Nat) (hf : f ≤ 6) (v : Int) (hv : cntR f st0 1 = v) (a : Option Addr) (c : Nat) (w : World) (h : Rd w a 33 c st0) (hL : DTab w ∧ TzT w) :
    Calls Tryd.prog 19 #[.agg (dgA a 33 c 1), .int .i64 (f : Nat)] w fun e w' => e = .returned (.tuple #[.int .i64 v, .int .i64 0]) ∧ Below w.heap.size w w' := by
  have := Count_yes 1 a c st0 f hf w h st0_mb hL.1 hL.2
  rw [hv] at this
  exact this

/-- A row turned. -/
def rt (X : List Int) : List Int := X.map fun x => 33 - x
theorem rt_len (X : List Int) : (rt X).length = X.length := by simp [rt]
theorem rt_at (X : List Int) {j : Nat} (h : j < X.length) : (rt X).getD j 0 = 33 - X.getD j 0 := by simp [rt, List.getD, h]
theorem rt_toI {W : List Nat} (h : ∀ p ∈ W, p ≤ 32) : rt (toI W) = toI (tu W) := by
  unfold rt toI tu
  rw [List.map_map, List.map_map]
  refine List.map_congr_left (fun p hp => ?_)
  have := h p hp
  simp only [Function.comp]
  omega

theorem mem_getD {L : List (List Int)} {i : Nat} (h : i < L.length) : L.getD i [] ∈ L := by simp [List.getD, h]
theorem getD_of_mem {L : List (List Int)} {X : List Int} (h : X ∈ L) : ∃ k, k < L.length ∧ L.getD k [] = X := by
  obtain ⟨k, hk, e⟩ := List.getElem_of_mem h
  exact ⟨k, hk, by simp [List.getD, hk, e]⟩

theorem rows_ok {Z : List Int} {t : Nat} (hM : Mb Z t) {X : List Int} (h : X ∈ (mvN Z t).map toI) : 2 ≤ X.length ∧ ∀ j, j < X.length → 1 ≤ X.getD j 0 ∧ X.getD j 0 ≤ 32 := by
  obtain ⟨W, hW, rfl⟩ := List.mem_map.1 h
  have hr := mvN_rng hM hW
  unfold mvN at hW
  obtain ⟨y, hy, rfl⟩ := List.mem_map.1 hW
  refine ⟨by rw [toI_len]; exact (wyN_ok hM hy).two, fun j hj => ?_⟩
  rw [toI_len] at hj
  have := hr (y.1[j]) (List.getElem_mem hj)
  have e : (toI y.1).getD j 0 = ((y.1[j] : Nat) : Int) := by simp [toI, List.getD, hj]
  rw [e]
  omega

theorem rows_tu {Z : List Int} {t : Nat} (hM : Mb Z t) {X : List Int} (h : X ∈ (mvN Z t).map toI) : rt X ∈ (mvN (upL Z) (3 - t)).map toI := by
  obtain ⟨W, hW, rfl⟩ := List.mem_map.1 h
  rw [rt_toI (fun p hp => (mvN_rng hM hW p hp).2)]
  exact List.mem_map.2 ⟨_, mvN_tu hM hW, rfl⟩

attribute [local irreducible] mayD mvN toI upL rt st0 cntR

set_option maxRecDepth 100000 in
set_option maxHeartbeats 16000000 in
theorem turned_law (t : Int) (a : Option Addr) (n c : Nat) (Z : List Int) (w : World) (hL : DTab w ∧ TzT w) (h : Rd w a n c Z) :
    Calls Tryd.prog 6 #[.agg (dgA a n c t)] w fun e w' => e = .returned (.bool true) ∧ Below w.heap.size w w' := by
  cases hmay : mayD Z t with
  | false =>
    obtain ⟨w1, hw1⟩ : ∃ w1, w.alloc (.cells (dgA a n c t) 24) = w1 := ⟨_, rfl⟩
    have B1 : Below w.heap.size w w1 := by rw [← hw1]; exact (Below.refl _ _).alloc (Nat.le_refl _) _
    have hch : Dg w1 w.heap.size a n c t := by rw [← hw1]; exact Dg.new _ _ _ _ _
    have HB0 := hide B1
    have HCH : Hid (∀ W, Below w1.heap.size w1 W → Dg W w.heap.size a n c t) := hide (fun W hb => hch.below hb hch.lt)
    have HZW : Hid (∀ W, Below w1.heap.size w1 W → Rd W a n c Z) := hide (fun W hb => (h.mono B1).mono hb)
    have HTW : Hid (∀ W, Below w1.heap.size w1 W → DTab W ∧ TzT W) := hide (fun W hb => ⟨(hL.1.mono B1).mono hb, (hL.2.mono B1).mono hb⟩)
    have HC1 : Hid (∀ W a c, Below w1.heap.size w1 W → Rd W a 33 c st0 → Calls Tryd.prog 19 #[.agg (dgA a 33 c 1), .int .i64 1] W fun e w' => e = .returned (.tuple #[.int .i64 7, .int .i64 0]) ∧ Below W.heap.size W w') := hide (fun W a c hb hr => Cnt 1 (by omega) 7 cn1 a c W hr (HTW.out W hb))
    have HC2 : Hid (∀ W a c, Below w1.heap.size w1 W → Rd W a 33 c st0 → Calls Tryd.prog 19 #[.agg (dgA a 33 c 1), .int .i64 2] W fun e w' => e = .returned (.tuple #[.int .i64 49, .int .i64 0]) ∧ Below W.heap.size W w') := hide (fun W a c hb hr => Cnt 2 (by omega) 49 cn2 a c W hr (HTW.out W hb))
    have HC3 : Hid (∀ W a c, Below w1.heap.size w1 W → Rd W a 33 c st0 → Calls Tryd.prog 19 #[.agg (dgA a 33 c 1), .int .i64 3] W fun e w' => e = .returned (.tuple #[.int .i64 302, .int .i64 0]) ∧ Below W.heap.size W w') := hide (fun W a c hb hr => Cnt 3 (by omega) 302 cn3 a c W hr (HTW.out W hb))
    have HB1 : Hid (Below w1.heap.size w1 w1) := hide (Below.refl _ _)
    clear h hL B1
    have HMY := hide hmay
    clear hmay
    go_enter Tryd.func6, Tryd.ntmps6
    go_upto_region 1 with fail
    clear hw1
    go_wp2_with fail
    refine (New_any _).mono ?_
    rintro r w2 ⟨a2, c2, rfl, hR, hb⟩
    have HB2 : Hid (Below w1.heap.size w1 w2) := hide (HB1.out.trans (hb.mono HB1.out.size))
    have hch := HCH.out w2 HB2.out
    have HR2 := hide hR
    clear hR
    clear hb
    go_wp2_with fail
    refine (HC1.out w2 a2 c2 HB2.out HR2.out).mono ?_
    rintro r w3 ⟨rfl, hb⟩
    have HB3 : Hid (Below w1.heap.size w1 w3) := hide (HB2.out.trans (hb.mono HB2.out.size))
    have hch := HCH.out w3 HB3.out
    clear hb
    go_wp2_with fail
    refine (New_any _).mono ?_
    rintro r w4 ⟨a4, c4, rfl, hR, hb⟩
    have HB4 : Hid (Below w1.heap.size w1 w4) := hide (HB3.out.trans (hb.mono HB3.out.size))
    have hch := HCH.out w4 HB4.out
    have HR4 := hide hR
    clear hR
    clear hb
    go_wp2_with fail
    refine (HC2.out w4 a4 c4 HB4.out HR4.out).mono ?_
    rintro r w5 ⟨rfl, hb⟩
    have HB5 : Hid (Below w1.heap.size w1 w5) := hide (HB4.out.trans (hb.mono HB4.out.size))
    have hch := HCH.out w5 HB5.out
    clear hb
    go_wp2_with fail
    refine (New_any _).mono ?_
    rintro r w6 ⟨a6, c6, rfl, hR, hb⟩
    have HB6 : Hid (Below w1.heap.size w1 w6) := hide (HB5.out.trans (hb.mono HB5.out.size))
    have hch := HCH.out w6 HB6.out
    have HR6 := hide hR
    clear hR
    clear hb
    go_wp2_with fail
    refine (HC3.out w6 a6 c6 HB6.out HR6.out).mono ?_
    rintro r w7 ⟨rfl, hb⟩
    have HB7 : Hid (Below w1.heap.size w1 w7) := hide (HB6.out.trans (hb.mono HB6.out.size))
    have hch := HCH.out w7 HB7.out
    clear hb
    go_wp2_with (refine wpList_load_dg rfl (.tmp 1) rfl w.heap.size rfl hch ?_)
    refine (Moves_no t a n c Z w7 (HZW.out w7 HB7.out) HMY.out).mono ?_
    rintro r w8 ⟨rfl, hb⟩
    have HB8 : Hid (Below w1.heap.size w1 w8) := hide (HB7.out.trans (hb.mono HB7.out.size))
    have hch := HCH.out w8 HB8.out
    clear hb
    go_wp2_with (refine wpList_load_dg rfl (.tmp 1) rfl w.heap.size rfl hch ?_)
    refine (May_any t a n c Z w8 (HZW.out w8 HB8.out)).mono ?_
    rintro r w9 ⟨rfl, hb⟩
    have HB9 : Hid (Below w1.heap.size w1 w9) := hide (HB8.out.trans (hb.mono HB8.out.size))
    have hch := HCH.out w9 HB9.out
    clear hb
    rw [HMY.out]
    go_wp2_with fail
    go_ret
    exact ⟨rfl, HB0.out.trans (HB9.out.mono HB0.out.size)⟩
  | true =>
    have hM0 := (mayD_iff Z t).1 hmay
    obtain ⟨s, hs⟩ : ∃ s : Nat, t = (s : Int) := ⟨t.toNat, by have := hM0.tt; omega⟩
    subst hs
    have hn : n = 33 := by have := h.len; have := hM0.len; omega
    subst hn
    obtain ⟨w1, hw1⟩ : ∃ w1, w.alloc (.cells (dgA a 33 c (s : Nat)) 24) = w1 := ⟨_, rfl⟩
    have B1 : Below w.heap.size w w1 := by rw [← hw1]; exact (Below.refl _ _).alloc (Nat.le_refl _) _
    have hch : Dg w1 w.heap.size a 33 c (s : Nat) := by rw [← hw1]; exact Dg.new _ _ _ _ _
    have HB0 := hide B1
    have HCH : Hid (∀ W, Below w1.heap.size w1 W → Dg W w.heap.size a 33 c (s : Nat)) := hide (fun W hb => hch.below hb hch.lt)
    have HZW : Hid (∀ W, Below w1.heap.size w1 W → Rd W a 33 c Z) := hide (fun W hb => (h.mono B1).mono hb)
    have HTW : Hid (∀ W, Below w1.heap.size w1 W → DTab W ∧ TzT W) := hide (fun W hb => ⟨(hL.1.mono B1).mono hb, (hL.2.mono B1).mono hb⟩)
    have HC1 : Hid (∀ W a c, Below w1.heap.size w1 W → Rd W a 33 c st0 → Calls Tryd.prog 19 #[.agg (dgA a 33 c 1), .int .i64 1] W fun e w' => e = .returned (.tuple #[.int .i64 7, .int .i64 0]) ∧ Below W.heap.size W w') := hide (fun W a c hb hr => Cnt 1 (by omega) 7 cn1 a c W hr (HTW.out W hb))
    have HC2 : Hid (∀ W a c, Below w1.heap.size w1 W → Rd W a 33 c st0 → Calls Tryd.prog 19 #[.agg (dgA a 33 c 1), .int .i64 2] W fun e w' => e = .returned (.tuple #[.int .i64 49, .int .i64 0]) ∧ Below W.heap.size W w') := hide (fun W a c hb hr => Cnt 2 (by omega) 49 cn2 a c W hr (HTW.out W hb))
    have HC3 : Hid (∀ W a c, Below w1.heap.size w1 W → Rd W a 33 c st0 → Calls Tryd.prog 19 #[.agg (dgA a 33 c 1), .int .i64 3] W fun e w' => e = .returned (.tuple #[.int .i64 302, .int .i64 0]) ∧ Below W.heap.size W w') := hide (fun W a c hb hr => Cnt 3 (by omega) 302 cn3 a c W hr (HTW.out W hb))
    have HB1 : Hid (Below w1.heap.size w1 w1) := hide (Below.refl _ _)
    clear h hL B1
    have HMY := hide hmay
    have HM := hide hM0
    have hMU := Mb_up hM0
    obtain ⟨L, hLL⟩ : ∃ L, (mvN Z s).map toI = L := ⟨_, rfl⟩
    obtain ⟨M, hMM⟩ : ∃ M, (mvN (upL Z) (3 - s)).map toI = M := ⟨_, rfl⟩
    obtain ⟨N, hN⟩ : ∃ N, L.length = N := ⟨_, rfl⟩
    have HLN : Hid (L.length = N) := hide hN
    have HMN : Hid (M.length = N) := hide (by rw [← hN, ← hLL, ← hMM, List.length_map, List.length_map]; exact mvN_len_tu hM0)
    have HTU : Hid (∀ i, i < N → rt (L.getD i []) ∈ M) := hide (fun i hi => by
      rw [← hMM]
      exact rows_tu hM0 (by rw [hLL]; exact mem_getD (by rw [hN]; exact hi)))
    have HLO : Hid (∀ i, i < N → 2 ≤ (L.getD i []).length ∧ ∀ j, j < (L.getD i []).length → 1 ≤ (L.getD i []).getD j 0 ∧ (L.getD i []).getD j 0 ≤ 32) := hide (fun i hi => rows_ok hM0 (by rw [hLL]; exact mem_getD (by rw [hN]; exact hi)))
    have HMO : Hid (∀ i, i < N → 2 ≤ (M.getD i []).length) := hide (fun i hi => (rows_ok hMU (by rw [hMM]; exact mem_getD (by rw [HMN.out]; exact hi))).1)
    obtain ⟨u, hu⟩ : ∃ u : Nat, 3 - s = u := ⟨_, rfl⟩
    have HM1 : Hid (∀ W, Below w1.heap.size w1 W → Calls Tryd.prog 10 #[.agg (dgA a 33 c (s : Nat))] W fun e w' => ∃ al cl, e = .returned (.tuple #[.slice al N cl, .int .i64 0]) ∧ Fr (fun k => W.heap.size ≤ k) w' al N cl L ∧ Below W.heap.size W w') := hide (fun W hb => (Moves_yes s a c Z W (HZW.out W hb) hM0 (HTW.out W hb).1 (HTW.out W hb).2).mono (fun e w' ⟨v, he, hF, hb⟩ => by
      rw [hLL] at hF
      obtain ⟨al, cl, rfl⟩ := hF.form
      rw [hN] at he hF
      exact ⟨al, cl, he, hF.fr, hb⟩))
    have HUP : Hid (∀ W, Below w1.heap.size w1 W → Calls Tryd.prog 27 #[.agg (dgA a 33 c (s : Nat))] W fun e w' => ∃ a' c', e = .returned (.agg (dgA a' 33 c' (u : Nat))) ∧ Rd w' a' 33 c' (upL Z) ∧ Below W.heap.size W w') := hide (fun W hb => by
      have := upside_any s a c Z W (HZW.out W hb) hM0
      rw [hu] at this
      exact this)
    have HM2 : Hid (∀ W a' c', Below w1.heap.size w1 W → Rd W a' 33 c' (upL Z) → Calls Tryd.prog 10 #[.agg (dgA a' 33 c' (u : Nat))] W fun e w' => ∃ al cl, e = .returned (.tuple #[.slice al N cl, .int .i64 0]) ∧ Fr (fun k => W.heap.size ≤ k) w' al N cl M ∧ Below W.heap.size W w') := hide (fun W a' c' hb hr => by
      have hm := Moves_yes (3 - s) a' c' (upL Z) W hr hMU (HTW.out W hb).1 (HTW.out W hb).2
      rw [hu] at hm hMM
      refine hm.mono (fun e w' ⟨v, he, hF, hb⟩ => ?_)
      rw [hMM] at hF
      obtain ⟨al, cl, rfl⟩ := hF.form
      rw [HMN.out] at he hF
      exact ⟨al, cl, he, hF.fr, hb⟩)
    clear hmay hM0 hMU hLL hMM hN hu
    go_enter Tryd.func6, Tryd.ntmps6
    go_upto_region 1 with fail
    clear hw1
    go_wp2_with fail
    refine (New_any _).mono ?_
    rintro r w2 ⟨a2, c2, rfl, hR, hb⟩
    have HB2 : Hid (Below w1.heap.size w1 w2) := hide (HB1.out.trans (hb.mono HB1.out.size))
    have hch := HCH.out w2 HB2.out
    have HR2 := hide hR
    clear hR
    clear hb
    go_wp2_with fail
    refine (HC1.out w2 a2 c2 HB2.out HR2.out).mono ?_
    rintro r w3 ⟨rfl, hb⟩
    have HB3 : Hid (Below w1.heap.size w1 w3) := hide (HB2.out.trans (hb.mono HB2.out.size))
    have hch := HCH.out w3 HB3.out
    clear hb
    go_wp2_with fail
    refine (New_any _).mono ?_
    rintro r w4 ⟨a4, c4, rfl, hR, hb⟩
    have HB4 : Hid (Below w1.heap.size w1 w4) := hide (HB3.out.trans (hb.mono HB3.out.size))
    have hch := HCH.out w4 HB4.out
    have HR4 := hide hR
    clear hR
    clear hb
    go_wp2_with fail
    refine (HC2.out w4 a4 c4 HB4.out HR4.out).mono ?_
    rintro r w5 ⟨rfl, hb⟩
    have HB5 : Hid (Below w1.heap.size w1 w5) := hide (HB4.out.trans (hb.mono HB4.out.size))
    have hch := HCH.out w5 HB5.out
    clear hb
    go_wp2_with fail
    refine (New_any _).mono ?_
    rintro r w6 ⟨a6, c6, rfl, hR, hb⟩
    have HB6 : Hid (Below w1.heap.size w1 w6) := hide (HB5.out.trans (hb.mono HB5.out.size))
    have hch := HCH.out w6 HB6.out
    have HR6 := hide hR
    clear hR
    clear hb
    go_wp2_with fail
    refine (HC3.out w6 a6 c6 HB6.out HR6.out).mono ?_
    rintro r w7 ⟨rfl, hb⟩
    have HB7 : Hid (Below w1.heap.size w1 w7) := hide (HB6.out.trans (hb.mono HB6.out.size))
    have hch := HCH.out w7 HB7.out
    clear hb
    go_wp2_with (refine wpList_load_dg rfl (.tmp 1) rfl w.heap.size rfl hch ?_)
    refine (HM1.out w7 HB7.out).mono ?_
    rintro r w8 ⟨al, cl, rfl, hF, hb⟩
    have HB8 : Hid (Below w1.heap.size w1 w8) := hide (HB7.out.trans (hb.mono HB7.out.size))
    have hch := HCH.out w8 HB8.out
    have HF8 := hide hF
    clear hF
    clear hb
    go_wp2_with (refine wpList_load_dg rfl (.tmp 1) rfl w.heap.size rfl hch ?_)
    refine (May_any (s : Nat) a 33 c Z w8 (HZW.out w8 HB8.out)).mono ?_
    rintro r w9 ⟨rfl, hb⟩
    have HB9 : Hid (Below w1.heap.size w1 w9) := hide (HB8.out.trans (hb.mono HB8.out.size))
    have hch := HCH.out w9 HB9.out
    have HF9 := hide (HF8.out.mono hb)
    clear hb
    rw [HMY.out]
    go_wp2_with (refine wpList_load_dg rfl (.tmp 1) rfl w.heap.size rfl hch ?_)
    refine (HUP.out w9 HB9.out).mono ?_
    rintro r w10 ⟨a10, c10, rfl, hR, hb⟩
    have HB10 : Hid (Below w1.heap.size w1 w10) := hide (HB9.out.trans (hb.mono HB9.out.size))
    have hch := HCH.out w10 HB10.out
    have HF10 := hide (HF9.out.mono hb)
    have HR10 := hide hR
    clear hR
    clear hb
    go_wp2_with fail
    refine (HM2.out w10 a10 c10 HB10.out HR10.out).mono ?_
    rintro r w11 ⟨am, cm, rfl, hF, hb⟩
    have HB11 : Hid (Below w1.heap.size w1 w11) := hide (HB10.out.trans (hb.mono HB10.out.size))
    have hch := HCH.out w11 HB11.out
    have HFL := hide (HF10.out.mono hb)
    have HFM := hide hF
    clear hF
    clear hb
    have cl1 := HFL.out.cap
    have cl2 := HFL.out.max
    have cm1 := HFM.out.cap
    have cm2 := HFM.out.max
    unfold maxLen at cl2 cm2
    clear hch
    go_wp2_with fail
    go_loopw [11] (fun v wr => ∃ i q : Nat, v = .int .i64 i ∧ i ≤ N ∧ wr = w11.drewN q) (fun v _ => N - (intOf v).toNat)
    case atStart => exact ⟨0, 0, rfl, by omega, rfl⟩
    case round =>
      obtain ⟨i, q, rfl, hi, rfl⟩ := hrel
      by_cases hlt : i < N
      · have hlt' : (i : Int) < (N : Int) := by omega
        obtain ⟨lb, lo, rfl, hcl⟩ := HFL.out.cells (by omega)
        obtain ⟨mb, mo, rfl, hcm⟩ := HFM.out.cells (by omega)
        obtain ⟨ai, ci, ei, ri⟩ := hcl i hlt
        have HCM := hide hcm
        have HXO := hide (HLO.out i hlt)
        have HRM := hide (HTU.out i hlt)
        obtain ⟨X, hX⟩ : ∃ X, L.getD i [] = X := ⟨_, rfl⟩
        rw [hX] at ei ri HXO HRM
        obtain ⟨nl, hnl⟩ : ∃ nl, X.length = nl := ⟨_, rfl⟩
        rw [hnl] at ei ri HXO
        have HNL := hide hnl
        have hnl2 := HXO.out.1
        have ci1 := ri.rd.cap
        have ci2 := ri.rd.max
        unfold maxLen at ci2
        obtain ⟨bi, oi, rfl, hci⟩ := ri.rd.cells (by omega)
        have HCI := hide hci
        clear hcl hcm ri hX hnl hci
        go_wp2_with fail
        go_loopw [12, 13] (fun u v wq => ∃ (k q2 : Nat) (b : Bool), u = .bool b ∧ v = .int .i64 k ∧ k ≤ N ∧ wq = w11.drewN q2 ∧ Hid (b = true ∨ ∀ j, j < k → M.getD j [] ≠ rt X)) (fun _ v _ => N - (intOf v).toNat)
        case atStart => exact ⟨0, _, false, rfl, rfl, by omega, rfl, hide (Or.inr (fun j hj => absurd hj (by omega)))⟩
        case round =>
          obtain ⟨k, q2, b, rfl, rfl, hk, rfl, hinv⟩ := hrel
          by_cases hkl : k < N
          · have hkl' : (k : Int) < (N : Int) := by omega
            obtain ⟨ak, ck, ek, rk⟩ := HCM.out k hkl
            have hy2 := HMO.out k hkl
            obtain ⟨Y, hY⟩ : ∃ Y, M.getD k [] = Y := ⟨_, rfl⟩
            have HY := hide hY
            rw [hY] at ek rk hy2
            obtain ⟨ny, hny⟩ : ∃ ny, Y.length = ny := ⟨_, rfl⟩
            rw [hny] at ek rk hy2
            have HNY := hide hny
            have ck1 := rk.rd.cap
            have ck2 := rk.rd.max
            unfold maxLen at ck2
            obtain ⟨bk, ok, rfl, hck⟩ := rk.rd.cells (by omega)
            have HCK := hide hck
            clear rk hY hny hck
            have HNXT : Hid (∀ b2 : Bool, (b2 = true ∨ Y ≠ rt X) → ((b || b2) = true ∨ ∀ j, j < k + 1 → M.getD j [] ≠ rt X)) := hide (fun b2 h2 => by
              rcases hinv.out with h | h
              · left; rw [h]; rfl
              · rcases h2 with h2 | h2
                · left; rw [h2]; simp
                · right
                  intro j hj
                  by_cases e : j = k
                  · subst e; rw [HY.out]; exact h2
                  · exact h j (by omega))
            have key : ∀ bq : Bool, ((ny : Int) == (nl : Int)) = bq → True := fun _ _ => trivial
            clear key
            by_cases hle : ny = nl
            · have hle' : ((ny : Int) == (nl : Int)) = true := by simp [hle]
              subst hle
              go_wp2
              go_quiet (fail)
              go_wp2
              go_loopw [14, 15] (fun u v wq => ∃ (j q3 : Nat) (b2 : Bool), u = .bool b2 ∧ v = .int .i64 j ∧ j ≤ ny ∧ wq = w11.drewN q3 ∧ Hid (b2 = true → Y.take j = (rt X).take j) ∧ Hid (b2 = false → Y ≠ rt X)) (fun _ v _ => ny - (intOf v).toNat)
              case atStart => exact ⟨0, _, true, rfl, rfl, by omega, World.drewN_drewN _ _ _, hide (fun _ => by simp), hide (fun h => by cases h)⟩
              case round =>
                obtain ⟨j, q3, b2, rfl, rfl, hj, rfl, hy1, hy3⟩ := hrel
                cases b2 with
                | false =>
                  have HNE := hide (hy3.out rfl)
                  by_cases hjl : j < ny
                  · have hjl' : (j : Int) < (ny : Int) := by omega
                    have HN2 := hide (HNXT.out false (Or.inr HNE.out))
                    cases b
                    · go_wp2_with fail
                      exact ⟨⟨k + 1, _, _, rfl, by go_num, by omega, rfl, hide (by first | exact HN2.out | simpa using HN2.out)⟩, by simp [intOf]; omega⟩
                    · go_wp2_with fail
                      exact ⟨⟨k + 1, _, _, rfl, by go_num, by omega, rfl, hide (by first | exact HN2.out | simpa using HN2.out)⟩, by simp [intOf]; omega⟩
                  · have hjl' : ¬ (j : Int) < (ny : Int) := by omega
                    have HN2 := hide (HNXT.out false (Or.inr HNE.out))
                    cases b
                    · go_wp2_with fail
                      exact ⟨⟨k + 1, _, _, rfl, by go_num, by omega, rfl, hide (by first | exact HN2.out | simpa using HN2.out)⟩, by simp [intOf]; omega⟩
                    · go_wp2_with fail
                      exact ⟨⟨k + 1, _, _, rfl, by go_num, by omega, rfl, hide (by first | exact HN2.out | simpa using HN2.out)⟩, by simp [intOf]; omega⟩
                | true =>
                  have HTK := hide (hy1.out rfl)
                  by_cases hjl : j < ny
                  · have hjl' : (j : Int) < (ny : Int) := by omega
                    have e1 := HCI.out j (by omega)
                    have e2 := HCK.out j hjl
                    have hbx := HXO.out.2 j (by omega)
                    have HTS := hide (take_succ_eq Y (rt X) j (by rw [HNY.out]; exact hjl) (by rw [rt_len, HNL.out]; exact hjl))
                    have HRA := hide (rt_at X (j := j) (by rw [HNL.out]; exact hjl))
                    obtain ⟨x, hx⟩ : ∃ x, X.getD j 0 = x := ⟨_, rfl⟩
                    obtain ⟨y, hy⟩ : ∃ y, Y.getD j 0 = y := ⟨_, rfl⟩
                    rw [hx] at e1 hbx HRA
                    rw [hy] at e2 HTS
                    rw [HRA.out] at HTS
                    have HYJ := hide hy
                    clear hx hy
                    by_cases hxy : y = 33 - x
                    · have hq : (y == 33 - x) = true := by simp [hxy]
                      have HEQ := hide (HTS.out.2 ⟨HTK.out, hxy⟩)
                      clear hxy
                      go_wp2
                      go_quiet (fail)
                      go_wp2_with fail
                      exact ⟨⟨j + 1, _, true, rfl, by go_num, by omega, rfl, hide (fun _ => HEQ.out), hide (fun h => by cases h)⟩, by simp [intOf]; omega⟩
                    · have hq : (y == 33 - x) = false := by simpa using hxy
                      have HEQ : Hid (Y ≠ rt X) := hide (fun e => hxy (by rw [← HYJ.out, e]; exact HRA.out))
                      clear hxy
                      go_wp2
                      go_quiet (fail)
                      go_wp2_with fail
                      exact ⟨⟨j + 1, _, false, rfl, by go_num, by omega, rfl, hide (fun h => by cases h), hide (fun _ => HEQ.out)⟩, by simp [intOf]; omega⟩
                  · have hjl' : ¬ (j : Int) < (ny : Int) := by omega
                    have HN2 := hide (HNXT.out true (Or.inl rfl))
                    cases b
                    · go_wp2_with fail
                      exact ⟨⟨k + 1, _, _, rfl, by go_num, by omega, rfl, hide (by first | exact HN2.out | simpa using HN2.out)⟩, by simp [intOf]; omega⟩
                    · go_wp2_with fail
                      exact ⟨⟨k + 1, _, _, rfl, by go_num, by omega, rfl, hide (by first | exact HN2.out | simpa using HN2.out)⟩, by simp [intOf]; omega⟩
            · have hle' : ((ny : Int) == (nl : Int)) = false := by simp; omega
              have HNE : Hid (Y ≠ rt X) := hide (fun e => hle (by rw [← HNY.out, ← HNL.out, e, rt_len]))
              go_wp2
              go_quiet (fail)
              go_wp2
              go_loopw [14, 15] (fun u v wq => ∃ q3 : Nat, u = .bool false ∧ v = .int .i64 0 ∧ wq = w11.drewN q3) (fun _ _ _ => 0)
              case atStart => exact ⟨_, rfl, rfl, World.drewN_drewN _ _ _⟩
              case round =>
                obtain ⟨q3, rfl, rfl, rfl⟩ := hrel
                have hz : (0 : Int) < (nl : Int) := by omega
                have HN2 := hide (HNXT.out false (Or.inr HNE.out))
                cases b
                · go_wp2_with fail
                  exact ⟨⟨k + 1, _, _, rfl, by go_num, by omega, rfl, hide (by first | exact HN2.out | simpa using HN2.out)⟩, by simp [intOf]; omega⟩
                · go_wp2_with fail
                  exact ⟨⟨k + 1, _, _, rfl, by go_num, by omega, rfl, hide (by first | exact HN2.out | simpa using HN2.out)⟩, by simp [intOf]; omega⟩
          · obtain rfl : k = N := by omega
            have hb : b = true := by
              rcases hinv.out with h | h
              · exact h
              · obtain ⟨j, hj, e⟩ := getD_of_mem HRM.out
                exact absurd e (h j (by rw [← HMN.out]; exact hj))
            subst hb
            go_wp2_with fail
            exact ⟨⟨i + 1, _, by go_num, by omega, rfl⟩, by simp [intOf]; omega⟩
      · obtain rfl : i = N := by omega
        go_wp2_with fail
        go_ret
        exact ⟨rfl, HB0.out.trans ((HB11.out.trans ((drewN_below _ _ _).mono HB11.out.size)).mono HB0.out.size)⟩

end Go.Proofs.YtnbaangnpoblfaaDoor
