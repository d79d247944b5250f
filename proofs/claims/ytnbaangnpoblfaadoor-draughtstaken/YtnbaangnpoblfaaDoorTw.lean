/-
  Draughts: a step takes nothing, a jump as many as it has leaps; what is told is read again: the law, walked. No conditions beyond those that each theorem bears.
-/
import Derived.Test.YtnbaangnpoblfaaDoorNe
import Derived.Test.YtnbaangnpoblfaaDoorMv
import Derived.Test.YtnbaangnpoblfaaDoorTk
import Derived.Test.YtnbaangnpoblfaaDoorWr
import Derived.Test.YtnbaangnpoblfaaDoorDd
namespace Go.Proofs.YtnbaangnpoblfaaDoor
open Go.RowKit Go.Shelf

theorem mem_getD {L : List (List Int)} {i : Nat} (h : i < L.length) : L.getD i [] ∈ L := by simp [List.getD, h]
theorem st0_mb : Mb st0 ((1 : Nat) : Int) := (mayD_iff st0 1).1 (by decide +kernel)
theorem mvN7 : (mvN st0 1).length = 7 := by decide +kernel
theorem afN_mv {Z : List Int} {t : Nat} (hM : Mb Z t) {y : List Nat × List Nat} (hy : y ∈ wyN Z t) : (afN Z t y).mov = 3 - t := by rw [← sn_doR hM hy]; rfl
theorem row_wy {Z : List Int} {t : Nat} {X : List Int} (h : X ∈ (mvN Z t).map toI) : ∃ y, y ∈ wyN Z t ∧ toI y.1 = X := by
  obtain ⟨v, hv, rfl⟩ := List.mem_map.1 h
  obtain ⟨y, hy, rfl⟩ := List.mem_map.1 hv
  exact ⟨y, hy, rfl⟩
theorem own3_iff (x : Int) : (own3 x = 1 ↔ 0 < x) ∧ (own3 x = 2 ↔ x < 0) := by
  unfold own3
  by_cases h1 : 0 < x
  · rw [if_pos h1]; omega
  · rw [if_neg h1]
    by_cases h2 : x < 0
    · rw [if_pos h2]; omega
    · rw [if_neg h2]; omega
set_option maxHeartbeats 400000 in
theorem picked_big (n : Int) (m : Nat) (w : World) (h1 : -9223372036854775808 ≤ n) (h2 : n ≤ 9223372036854775807) (hm : 1 ≤ m) (hm2 : m ≤ 1000000000) :
    Calls Tryd.prog 28 #[.int .i64 n, .int .i64 m] w fun e w' => e = .returned (.int .i64 (pk n m : Nat)) ∧ w' = w := by
  have hm' : ¬ (m : Int) = 0 := by omega
  by_cases hn : n < 0
  · obtain ⟨q, hq⟩ := Int.eq_ofNat_of_zero_le (show 0 ≤ -(n + 1) by omega)
    have HP : Hid (pk n m = q % m) := hide (by unfold pk; rw [if_pos hn, hq]; rfl)
    have e0 : n = -(q : Int) - 1 := by omega
    have hq2 : (q : Int) ≤ 9223372036854775807 := by omega
    subst e0
    have hmod : (q : Int) % (m : Int) = ((q % m : Nat) : Int) := by simp
    have hneg : -(-(q : Int) - 1 + 1) = (q : Int) := by omega
    generalize q % m = R at *
    clear hq
    go_enter Tryd.func28, Tryd.ntmps28
    go_wp2
    go_ret
    refine ⟨ret_int ?_, rfl⟩
    rw [HP.out, ← hmod]
  · obtain ⟨q, rfl⟩ := Int.eq_ofNat_of_zero_le (show 0 ≤ n by omega)
    have HP : Hid (pk (q : Int) m = q % m) := hide (by unfold pk; rw [if_neg hn]; rfl)
    have hmod : (q : Int) % (m : Int) = ((q % m : Nat) : Int) := by simp
    generalize q % m = R at *
    go_enter Tryd.func28, Tryd.ntmps28
    go_wp2
    go_ret
    refine ⟨?_, rfl⟩
    rw [HP.out]
    rfl

/-- How many more there are behind a move. -/
def df (Z D : List Int) (o k : Nat) : Int := ((cn D o k : Nat) : Int) - ((cn Z o k : Nat) : Int)
theorem df_zero (Z D : List Int) (o : Nat) : df Z D o 0 = 0 := by unfold df; rw [cn_zero, cn_zero]; rfl
theorem df_succ (Z D : List Int) (o k : Nat) : df Z D o (k + 1) = df Z D o k + (if own3 (D.getD (k + 1) 0) = o then 1 else 0) - (if own3 (Z.getD (k + 1) 0) = o then 1 else 0) := by
  unfold df
  rw [cn_succ, cn_succ]
  split <;> split <;> omega
theorem df_bd (Z D : List Int) (o : Nat) {k : Nat} (hk : k ≤ 32) : -32 ≤ df Z D o k ∧ df Z D o k ≤ 32 := by
  have h1 := cn_le Z o k
  have h2 := cn_le D o k
  unfold df
  omega
theorem df_pos (Z D : List Int) (k : Nat) : df Z D 1 (k + 1) = df Z D 1 k + (if 0 < D.getD (k + 1) 0 then 1 else 0) - (if 0 < Z.getD (k + 1) 0 then 1 else 0) := by
  rw [df_succ]
  simp only [(own3_iff _).1]
theorem df_neg (Z D : List Int) (k : Nat) : df Z D 2 (k + 1) = df Z D 2 k + (if D.getD (k + 1) 0 < 0 then 1 else 0) - (if Z.getD (k + 1) 0 < 0 then 1 else 0) := by
  rw [df_succ]
  simp only [(own3_iff _).2]

attribute [local irreducible] mayD mvN toI wyN afN doR tol st0 cn txS txK df

set_option maxRecDepth 100000 in
set_option maxHeartbeats 16000000 in
theorem taken_law (t : Int) (a : Option Addr) (n c : Nat) (Z : List Int) (p : Int) (w : World) (hL : DTab w ∧ TzT w ∧ ∃ m, w.cell? ⟨2, 0, none⟩ = some (.int .i64 m)) (h : Rd w a n c Z) (hp : -9223372036854775808 ≤ p ∧ p ≤ 9223372036854775807) :
    Calls Tryd.prog 7 #[.agg (dgA a n c t), .int .i64 p] w fun e w' => e = .returned (.bool true) ∧ Below w.heap.size w w' := by
  cases hmay : mayD Z t with
  | false =>
    obtain ⟨w1, hw1⟩ : ∃ w1, w.alloc (.cells (dgA a n c t) 24) = w1 := ⟨_, rfl⟩
    have B1 : Below w.heap.size w w1 := by rw [← hw1]; exact (Below.refl _ _).alloc (Nat.le_refl _) _
    have hch : Dg w1 w.heap.size a n c t := by rw [← hw1]; exact Dg.new _ _ _ _ _
    have HB0 := hide B1
    have HCH : Hid (∀ W, Below w1.heap.size w1 W → Dg W w.heap.size a n c t) := hide (fun W hb => hch.below hb hch.lt)
    have HZW : Hid (∀ W, Below w1.heap.size w1 W → Rd W a n c Z) := hide (fun W hb => (h.mono B1).mono hb)
    have HTW : Hid (∀ W, Below w1.heap.size w1 W → DTab W ∧ TzT W) := hide (fun W hb => ⟨(hL.1.mono B1).mono hb, (hL.2.1.mono B1).mono hb⟩)
    have HMW : Hid (∀ W, Below w1.heap.size w1 W → ∃ m, W.cell? ⟨2, 0, none⟩ = some (.int .i64 m)) := hide (fun W hb => by
      obtain ⟨m, hm⟩ := hL.2.2
      have h1 := World.block_lt_of_cell? w _ hm
      exact ⟨m, (hb.cell (p := ⟨2, 0, none⟩) (Nat.lt_of_lt_of_le h1 B1.size)).trans ((B1.cell (p := ⟨2, 0, none⟩) h1).trans hm)⟩)
    have HM0 : Hid (∀ W a c, Below w1.heap.size w1 W → Rd W a 33 c st0 → Calls Tryd.prog 10 #[.agg (dgA a 33 c 1)] W fun e w' => ∃ al cl, e = .returned (.tuple #[.slice al 7 cl, .int .i64 0]) ∧ Below W.heap.size W w') := hide (fun W a c hb hr => (Moves_yes 1 a c st0 W hr st0_mb (HTW.out W hb).1 (HTW.out W hb).2).mono (fun e w' ⟨v, he, hF, hb⟩ => by
      obtain ⟨al, cl, rfl⟩ := hF.form
      rw [show ((mvN st0 1).map toI).length = 7 by rw [List.length_map]; exact mvN7] at he
      exact ⟨al, cl, he, hb⟩))
    have HB1 : Hid (Below w1.heap.size w1 w1) := hide (Below.refl _ _)
    clear h hL B1
    have HMY := hide hmay
    clear hmay
    go_enter Tryd.func7, Tryd.ntmps7
    go_upto_region 1 with fail
    clear hw1
    go_wp2_with fail
    refine (New_any _).mono ?_
    rintro r w2 ⟨a2, c2, rfl, hR, hb⟩
    have HB2 : Hid (Below w1.heap.size w1 w2) := hide (HB1.out.trans (hb.mono HB1.out.size))
    have hch := HCH.out w2 HB2.out
    have HR2 := hide hR
    clear hR
    clear hb
    go_wp2_with fail
    refine (HM0.out w2 a2 c2 HB2.out HR2.out).mono ?_
    rintro r w3 ⟨al0, cl0, rfl, hb⟩
    have HB3 : Hid (Below w1.heap.size w1 w3) := hide (HB2.out.trans (hb.mono HB2.out.size))
    have hch := HCH.out w3 HB3.out
    clear hb
    go_wp2_with (refine wpList_load_dg rfl (.tmp 2) rfl w.heap.size rfl hch ?_)
    refine (Moves_no t a n c Z w3 (HZW.out w3 HB3.out) HMY.out).mono ?_
    rintro r w4 ⟨rfl, hb⟩
    have HB4 : Hid (Below w1.heap.size w1 w4) := hide (HB3.out.trans (hb.mono HB3.out.size))
    have hch := HCH.out w4 HB4.out
    clear hb
    go_wp2_with fail
    go_ret
    exact ⟨rfl, HB0.out.trans (HB4.out.mono HB0.out.size)⟩
  | true =>
    have hM0 := (mayD_iff Z t).1 hmay
    obtain ⟨s, hs⟩ : ∃ s : Nat, t = (s : Int) := ⟨t.toNat, by have := hM0.tt; omega⟩
    subst hs
    have hn : n = 33 := by have := h.len; have := hM0.len; omega
    subst hn
    have ht2 : s = 1 ∨ s = 2 := by have := hM0.tt; omega
    obtain ⟨w1, hw1⟩ : ∃ w1, w.alloc (.cells (dgA a 33 c (s : Nat)) 24) = w1 := ⟨_, rfl⟩
    have B1 : Below w.heap.size w w1 := by rw [← hw1]; exact (Below.refl _ _).alloc (Nat.le_refl _) _
    have hch : Dg w1 w.heap.size a 33 c (s : Nat) := by rw [← hw1]; exact Dg.new _ _ _ _ _
    have HB0 := hide B1
    have HCH : Hid (∀ W, Below w1.heap.size w1 W → Dg W w.heap.size a 33 c (s : Nat)) := hide (fun W hb => hch.below hb hch.lt)
    have HZW : Hid (∀ W, Below w1.heap.size w1 W → Rd W a 33 c Z) := hide (fun W hb => (h.mono B1).mono hb)
    have HTW : Hid (∀ W, Below w1.heap.size w1 W → DTab W ∧ TzT W) := hide (fun W hb => ⟨(hL.1.mono B1).mono hb, (hL.2.1.mono B1).mono hb⟩)
    have HMW : Hid (∀ W, Below w1.heap.size w1 W → ∃ m, W.cell? ⟨2, 0, none⟩ = some (.int .i64 m)) := hide (fun W hb => by
      obtain ⟨m, hm⟩ := hL.2.2
      have h1 := World.block_lt_of_cell? w _ hm
      exact ⟨m, (hb.cell (p := ⟨2, 0, none⟩) (Nat.lt_of_lt_of_le h1 B1.size)).trans ((B1.cell (p := ⟨2, 0, none⟩) h1).trans hm)⟩)
    have HM0 : Hid (∀ W a c, Below w1.heap.size w1 W → Rd W a 33 c st0 → Calls Tryd.prog 10 #[.agg (dgA a 33 c 1)] W fun e w' => ∃ al cl, e = .returned (.tuple #[.slice al 7 cl, .int .i64 0]) ∧ Below W.heap.size W w') := hide (fun W a c hb hr => (Moves_yes 1 a c st0 W hr st0_mb (HTW.out W hb).1 (HTW.out W hb).2).mono (fun e w' ⟨v, he, hF, hb⟩ => by
      obtain ⟨al, cl, rfl⟩ := hF.form
      rw [show ((mvN st0 1).map toI).length = 7 by rw [List.length_map]; exact mvN7] at he
      exact ⟨al, cl, he, hb⟩))
    have HB1 : Hid (Below w1.heap.size w1 w1) := hide (Below.refl _ _)
    clear h hL B1
    have HMY := hide hmay
    have HM := hide hM0
    obtain ⟨L, hLL⟩ : ∃ L, (mvN Z s).map toI = L := ⟨_, rfl⟩
    obtain ⟨N, hN⟩ : ∃ N, L.length = N := ⟨_, rfl⟩
    have HRW : Hid (∀ i, i < N → ∃ y, y ∈ wyN Z s ∧ toI y.1 = L.getD i []) := hide (fun i hi => row_wy (by rw [hLL]; exact mem_getD (by rw [hN]; exact hi)))
    have HNS : Hid (N ≤ 479001600 ∨ True) := hide (Or.inr trivial)
    have HM1 : Hid (∀ W, Below w1.heap.size w1 W → Calls Tryd.prog 10 #[.agg (dgA a 33 c (s : Nat))] W fun e w' => ∃ al cl, e = .returned (.tuple #[.slice al N cl, .int .i64 0]) ∧ Fr (fun k => W.heap.size ≤ k) w' al N cl L ∧ Below W.heap.size W w') := hide (fun W hb => (Moves_yes s a c Z W (HZW.out W hb) hM0 (HTW.out W hb).1 (HTW.out W hb).2).mono (fun e w' ⟨v, he, hF, hb⟩ => by
      rw [hLL] at hF
      obtain ⟨al, cl, rfl⟩ := hF.form
      rw [hN] at he hF
      exact ⟨al, cl, he, hF.fr, hb⟩))
    have hNle : N ≤ 553648128 := by
      rw [← hN, ← hLL, List.length_map]
      have : (mvN Z s).length = (wyN Z s).length := by unfold mvN; rw [List.length_map]
      rw [this]; exact wyN_len Z s
    clear hmay hM0 hLL hN HNS
    go_enter Tryd.func7, Tryd.ntmps7
    go_upto_region 1 with fail
    clear hw1
    go_wp2_with fail
    refine (New_any _).mono ?_
    rintro r w2 ⟨a2, c2, rfl, hR, hb⟩
    have HB2 : Hid (Below w1.heap.size w1 w2) := hide (HB1.out.trans (hb.mono HB1.out.size))
    have hch := HCH.out w2 HB2.out
    have HR2 := hide hR
    clear hR
    clear hb
    go_wp2_with fail
    refine (HM0.out w2 a2 c2 HB2.out HR2.out).mono ?_
    rintro r w3 ⟨al0, cl0, rfl, hb⟩
    have HB3 : Hid (Below w1.heap.size w1 w3) := hide (HB2.out.trans (hb.mono HB2.out.size))
    have hch := HCH.out w3 HB3.out
    clear hb
    go_wp2_with (refine wpList_load_dg rfl (.tmp 2) rfl w.heap.size rfl hch ?_)
    refine (HM1.out w3 HB3.out).mono ?_
    rintro r w4 ⟨al, cl, rfl, hF, hb⟩
    have HB4 : Hid (Below w1.heap.size w1 w4) := hide (HB3.out.trans (hb.mono HB3.out.size))
    have hch := HCH.out w4 HB4.out
    have HF4 := hide hF
    clear hF
    clear hb
    by_cases hN0 : N = 0
    · subst hN0
      go_wp2_with fail
      go_ret
      exact ⟨rfl, HB0.out.trans (HB4.out.mono HB0.out.size)⟩
    · have hN1 : 1 ≤ N := by omega
      have hN0' : ¬ (N : Int) = 0 := by omega
      have cl1 := HF4.out.cap
      have cl2 := HF4.out.max
      unfold maxLen at cl2
      have HPK := hide (fun W => picked_big p N W hp.1 hp.2 hN1 (by omega))
      have hik := pk_lt p N hN1
      obtain ⟨i, hi⟩ : ∃ i, pk p N = i := ⟨_, rfl⟩
      rw [hi] at HPK hik
      obtain ⟨lb, lo, rfl, hcl⟩ := HF4.out.cells (by omega)
      obtain ⟨ai, ci, ei, ri⟩ := hcl i hik
      obtain ⟨X, hX⟩ : ∃ X, L.getD i [] = X := ⟨_, rfl⟩
      have HYX := hide (HRW.out i hik)
      rw [hX] at ei ri HYX
      obtain ⟨nl, hnl⟩ : ∃ nl, X.length = nl := ⟨_, rfl⟩
      rw [hnl] at ei ri
      have HXR := hide ri.rd
      have hik' : (i : Int) < (N : Int) := by omega
      clear hcl ri hX hp hi HF4
      go_wp2_with fail
      refine (HPK.out _).mono ?_
      rintro r w0 ⟨rfl, hw0⟩
      subst w0
      go_wp2_with (refine wpList_load_dg rfl (.tmp 2) rfl w.heap.size rfl hch ?_)
      refine (Do_may s a c Z ai nl ci X w4 (HZW.out w4 HB4.out) HXR.out HM.out (HTW.out w4 HB4.out).1 (HTW.out w4 HB4.out).2).mono ?_
      rintro r w5 ⟨hdo, hb⟩
      have HB5 : Hid (Below w1.heap.size w1 w5) := hide (HB4.out.trans (hb.mono HB4.out.size))
      have hch := HCH.out w5 HB5.out
      have HX5 := hide (HXR.out.mono hb)
      clear hb ei
      rcases hdo with ⟨y, hy, hyX, ax, cx, rfl, hRx⟩ | ⟨hno, rfl⟩
      · have hmov := afN_mv HM.out hy
        have htol := tol_afN HM.out hy
        have hMD := Mb_doR HM.out hy
        have htk := taken HM.out hy
        have hwt := wyN_taken HM.out hy
        have hwo := wyN_ok HM.out hy
        have hym : y.1 ∈ mvN Z s := by unfold mvN; exact List.mem_map.2 ⟨y, hy, rfl⟩
        have hrg := mvN_rng HM.out hym
        rw [hmov] at *
        rw [htol] at hRx
        have hnl1 : y.1.length = nl := by rw [← hnl, ← hyX, toI_len]
        have h2 := hwo.two
        have h13 := hwo.le
        rw [hnl1] at hwt h2 h13
        obtain ⟨D, hD⟩ : ∃ D, doR Z y.1 = D := ⟨_, rfl⟩
        rw [hD] at hRx hMD htk
        obtain ⟨ov, hov⟩ : ∃ ov, y.2.length = ov := ⟨_, rfl⟩
        rw [hov] at htk hwt
        obtain ⟨V, hV⟩ : ∃ V, y.1 = V := ⟨_, rfl⟩
        rw [hV] at hyX hnl1 hrg
        obtain ⟨u, hu⟩ : ∃ u : Nat, 3 - s = u := ⟨_, rfl⟩
        rw [hu] at hMD htk ⊢
        have HMD := hide hMD
        have HTK := hide htk
        have HDM := hide ((mayD_iff D u).2 hMD)
        have HVX := hide hyX
        have HVN := hide hnl1
        have HRG : Hid (∀ q ∈ V, 1 ≤ q ∧ q ≤ 32) := hide hrg
        have HRX := hide hRx
        have HUT : Hid (u = 3 - s) := hide hu.symm
        clear hy hyX hmov htol hMD htk hwo hym hrg hnl1 hD hov hV hu hRx HYX
        go_wp2_with (first | (refine wpList_store_dg rfl (.tmp 9) (.tmp 56) rfl w5.heap.size rfl rfl (Dg.new w5 none 0 0 0) ?_; intro w6 kx kk; have hb6 : Below w5.heap.size w5 w6 := (((Keeps.refl (fun k => k = w5.heap.size) w5).alloc _).trans kk).below (Nat.le_refl _) (fun k hk e => by omega)) | (refine wpList_load_dg rfl (.tmp 9) rfl w5.heap.size rfl kx ?_))
        have HB6 : Hid (Below w1.heap.size w1 w6) := hide (HB5.out.trans (hb6.mono HB5.out.size))
        have HKX : Hid (∀ W, Below w6.heap.size w6 W → Dg W w5.heap.size ax 33 cx (u : Nat)) := hide (fun W hb => kx.below hb kx.lt)
        have HRX6 := hide (HRX.out.mono hb6)
        have HX6 := hide (HX5.out.mono hb6)
        clear kk kx hb6
        refine (May_any (u : Nat) ax 33 cx D w6 HRX6.out).mono ?_
        rintro r w7 ⟨rfl, hb⟩
        have HB7 : Hid (Below w1.heap.size w1 w7) := hide (HB6.out.trans (hb.mono HB6.out.size))
        obtain ⟨y0, y1⟩ := (HCH.out w7 HB7.out).cells
        obtain ⟨x0, x1⟩ := (HKX.out w7 hb).cells
        have HRX7 := hide (HRX6.out.mono hb)
        have HX7 := hide (HX6.out.mono hb)
        have hus : ¬ (u : Int) = (s : Int) := by have := HUT.out; omega
        have rz := HZW.out w7 HB7.out
        have rd := HRX7.out
        have mz1 := rz.cap
        have mz2 := rz.max
        have md1 := rd.cap
        have md2 := rd.max
        unfold maxLen at mz2 md2
        obtain ⟨zb, zo, rfl, hcz⟩ := rz.cells (by omega)
        obtain ⟨db, do', rfl, hcd⟩ := rd.cells (by omega)
        clear hb rz rd
        rw [HDM.out]
        have HCZ : Hid (∀ k, k < 33 → w7.cell? ⟨zb, zo + k, none⟩ = some (.int .i64 (Z.getD k 0))) := hide hcz
        have HCD : Hid (∀ k, k < 33 → w7.cell? ⟨db, do' + k, none⟩ = some (.int .i64 (D.getD k 0))) := hide hcd
        have HTX : Hid (∀ (j : Bool) W, Rd W ai nl ci X → Calls Tryd.prog 23 #[.slice ai nl ci, .bool j] W fun e w' => e = .returned (.tuple #[.string ⟨(txS j V).toArray⟩, .int .i64 0]) ∧ Below W.heap.size W w') := hide (fun j W hR => by
          have := Text_yes ai nl ci V j W (by rw [HVX.out]; exact hR) h2 h13 HRG.out
          rw [← HVN.out, txK_txS] at this
          rw [← HVN.out]
          exact this)
        have HRE : Hid (∀ (j : Bool) W, (∃ m, W.cell? ⟨2, 0, none⟩ = some (.int .i64 m)) → Calls Tryd.prog 24 #[.string ⟨(txS j V).toArray⟩] W fun e w' => ∃ a c, e = .returned (.tuple #[.slice a nl c, .bool j, .int .i64 0]) ∧ Rd w' a nl c X ∧ Below W.heap.size W w') := hide (fun j W hm => by
          have := Read_yes j V (by rw [HVN.out]; exact h2) (by rw [HVN.out]; exact h13) HRG.out W hm
          rw [HVN.out, HVX.out] at this
          exact this)
        clear hcz hcd hch HRX HRX6 HRX7 HX5 HX6
        rcases ht2 with rfl | rfl
        · obtain rfl : u = 2 := HUT.out
          go_wp2_with fail
          go_loopw [11, 12, 13] (fun u1 u2 u3 wr => ∃ k : Nat, k ≤ 32 ∧ u1 = .int .i64 (df Z D 1 k) ∧ u2 = .int .i64 (df Z D 2 k) ∧ u3 = .int .i64 ((k + 1 : Nat) : Int) ∧ wr = w7) (fun _ _ v _ => 33 - (intOf v).toNat)
          case atStart => exact ⟨0, by omega, by rw [df_zero], by rw [df_zero], rfl, rfl⟩
          case round =>
            obtain ⟨k, hk, rfl, rfl, rfl, rfl⟩ := hrel
            by_cases hlt : k < 32
            · have hlt' : ((k + 1 : Nat) : Int) < 33 := by omega
              have e1 := HCZ.out (k + 1) (by omega)
              have e2 := HCD.out (k + 1) (by omega)
              have HP := hide (df_pos Z D k)
              have HNg := hide (df_neg Z D k)
              have b1 := df_bd Z D 1 hk
              have b2 := df_bd Z D 2 hk
              obtain ⟨kk, hkk⟩ : ∃ kk, k + 1 = kk := ⟨_, rfl⟩
              obtain ⟨zk, hzk⟩ : ∃ zk, Z.getD (k + 1) 0 = zk := ⟨_, rfl⟩
              obtain ⟨dk, hdk⟩ : ∃ dk, D.getD (k + 1) 0 = dk := ⟨_, rfl⟩
              rw [hzk] at e1 HP HNg
              rw [hdk] at e2 HP HNg
              rw [hkk] at e1 e2 hlt' HP HNg ⊢
              have HKK := hide hkk
              obtain ⟨P0, hP0⟩ : ∃ P0, df Z D 1 k = P0 := ⟨_, rfl⟩
              obtain ⟨M0, hM0⟩ : ∃ M0, df Z D 2 k = M0 := ⟨_, rfl⟩
              rw [hP0] at HP b1 ⊢
              rw [hM0] at HNg b2 ⊢
              have hk33 : kk < 33 := by omega
              clear hzk hdk hkk hP0 hM0
              rcases Int.lt_trichotomy zk 0 with hz | hz | hz
              · have hz2 : ¬ 0 < zk := by omega
                rcases Int.lt_trichotomy dk 0 with hd | hd | hd
                · have hd2 : ¬ 0 < dk := by omega
                  simp only [if_pos hz, if_neg hz2, if_pos hd, if_neg hd2] at HP HNg
                  go_wp2_with fail
                  exact ⟨⟨kk, by omega, by first | rfl | (congr 1; have := HP.out; omega), by first | rfl | (congr 1; have := HNg.out; omega), by go_num, by first | rfl | trivial⟩, by simp [intOf]; omega⟩
                · have hd1 : ¬ 0 < dk := by omega
                  have hd2 : ¬ dk < 0 := by omega
                  clear hd
                  simp only [if_pos hz, if_neg hz2, if_neg hd1, if_neg hd2] at HP HNg
                  go_wp2_with fail
                  exact ⟨⟨kk, by omega, by first | rfl | (congr 1; have := HP.out; omega), by first | rfl | (congr 1; have := HNg.out; omega), by go_num, by first | rfl | trivial⟩, by simp [intOf]; omega⟩
                · have hd2 : ¬ dk < 0 := by omega
                  simp only [if_pos hz, if_neg hz2, if_pos hd, if_neg hd2] at HP HNg
                  go_wp2_with fail
                  exact ⟨⟨kk, by omega, by first | rfl | (congr 1; have := HP.out; omega), by first | rfl | (congr 1; have := HNg.out; omega), by go_num, by first | rfl | trivial⟩, by simp [intOf]; omega⟩
              · have hz1 : ¬ 0 < zk := by omega
                have hz2 : ¬ zk < 0 := by omega
                clear hz
                rcases Int.lt_trichotomy dk 0 with hd | hd | hd
                · have hd2 : ¬ 0 < dk := by omega
                  simp only [if_neg hz1, if_neg hz2, if_pos hd, if_neg hd2] at HP HNg
                  go_wp2_with fail
                  exact ⟨⟨kk, by omega, by first | rfl | (congr 1; have := HP.out; omega), by first | rfl | (congr 1; have := HNg.out; omega), by go_num, by first | rfl | trivial⟩, by simp [intOf]; omega⟩
                · have hd1 : ¬ 0 < dk := by omega
                  have hd2 : ¬ dk < 0 := by omega
                  clear hd
                  simp only [if_neg hz1, if_neg hz2, if_neg hd1, if_neg hd2] at HP HNg
                  go_wp2_with fail
                  exact ⟨⟨kk, by omega, by first | rfl | (congr 1; have := HP.out; omega), by first | rfl | (congr 1; have := HNg.out; omega), by go_num, by first | rfl | trivial⟩, by simp [intOf]; omega⟩
                · have hd2 : ¬ dk < 0 := by omega
                  simp only [if_neg hz1, if_neg hz2, if_pos hd, if_neg hd2] at HP HNg
                  go_wp2_with fail
                  exact ⟨⟨kk, by omega, by first | rfl | (congr 1; have := HP.out; omega), by first | rfl | (congr 1; have := HNg.out; omega), by go_num, by first | rfl | trivial⟩, by simp [intOf]; omega⟩
              · have hz2 : ¬ zk < 0 := by omega
                rcases Int.lt_trichotomy dk 0 with hd | hd | hd
                · have hd2 : ¬ 0 < dk := by omega
                  simp only [if_pos hz, if_neg hz2, if_pos hd, if_neg hd2] at HP HNg
                  go_wp2_with fail
                  exact ⟨⟨kk, by omega, by first | rfl | (congr 1; have := HP.out; omega), by first | rfl | (congr 1; have := HNg.out; omega), by go_num, by first | rfl | trivial⟩, by simp [intOf]; omega⟩
                · have hd1 : ¬ 0 < dk := by omega
                  have hd2 : ¬ dk < 0 := by omega
                  clear hd
                  simp only [if_pos hz, if_neg hz2, if_neg hd1, if_neg hd2] at HP HNg
                  go_wp2_with fail
                  exact ⟨⟨kk, by omega, by first | rfl | (congr 1; have := HP.out; omega), by first | rfl | (congr 1; have := HNg.out; omega), by go_num, by first | rfl | trivial⟩, by simp [intOf]; omega⟩
                · have hd2 : ¬ dk < 0 := by omega
                  simp only [if_pos hz, if_neg hz2, if_pos hd, if_neg hd2] at HP HNg
                  go_wp2_with fail
                  exact ⟨⟨kk, by omega, by first | rfl | (congr 1; have := HP.out; omega), by first | rfl | (congr 1; have := HNg.out; omega), by go_num, by first | rfl | trivial⟩, by simp [intOf]; omega⟩
            · obtain rfl : k = 32 := by omega
              have hdo : df Z D 1 32 = 0 := by have := HTK.out.1; unfold df; omega
              have hdt : df Z D 2 32 = -(ov : Int) := by have := HTK.out.2; unfold df; omega
              rcases hwt with ⟨h0, hn2⟩ | ⟨h1, hn2⟩
              · have hdt2 : df Z D 2 32 = 0 := by omega
                rw [hdo, hdt2]
                clear hdo hdt hdt2
                subst h0
                subst hn2
                go_wp2_with fail
                refine (HTX.out false wr HX7.out).mono ?_
                rintro r w8 ⟨rfl, hb8⟩
                have HB8 : Hid (Below w1.heap.size w1 w8) := hide (HB7.out.trans (hb8.mono HB7.out.size))
                have HX8 := hide (HX7.out.mono hb8)
                clear hb8
                go_wp2_with fail
                refine (HRE.out false w8 (HMW.out w8 HB8.out)).mono ?_
                rintro r w9 ⟨a9, c9, rfl, hR9, hb9⟩
                have HB9 : Hid (Below w1.heap.size w1 w9) := hide (HB8.out.trans (hb9.mono HB8.out.size))
                have HX9 := hide (HX8.out.mono hb9)
                have HR9 := hide hR9
                clear hb9 hR9
                go_wp2_with fail
                refine (sameK_any a9 ai 2 c9 2 ci X X w9 HR9.out HX9.out).mono ?_
                rintro r w10 ⟨rfl, q, rfl⟩
                have hXX : decide (X = X) = true := decide_eq_true rfl
                rw [hXX]
                go_wp2_with fail
                go_ret
                exact ⟨rfl, HB0.out.trans ((HB9.out.trans ((drewN_below _ _ _).mono HB9.out.size)).mono HB0.out.size)⟩
              · have hdt2 : df Z D 2 32 = 1 - (nl : Int) := by omega
                rw [hdo, hdt2]
                clear hdo hdt hdt2 hn2
                have ho1 : ¬ (1 : Int) = (nl : Int) := by omega
                have ho2 : ¬ (nl : Int) = 1 := by omega
                have ho3 : 1 - (nl : Int) < 0 := by omega
                have ho4 : (1 : Int) < (nl : Int) := by omega
                have ho5 : ¬ 1 - (nl : Int) = 0 := by omega
                by_cases hn3 : (2 : Int) < (nl : Int)
                · go_wp2_with fail
                  refine (HTX.out true wr HX7.out).mono ?_
                  rintro r w8 ⟨rfl, hb8⟩
                  have HB8 : Hid (Below w1.heap.size w1 w8) := hide (HB7.out.trans (hb8.mono HB7.out.size))
                  have HX8 := hide (HX7.out.mono hb8)
                  clear hb8
                  go_wp2_with fail
                  refine (HRE.out true w8 (HMW.out w8 HB8.out)).mono ?_
                  rintro r w9 ⟨a9, c9, rfl, hR9, hb9⟩
                  have HB9 : Hid (Below w1.heap.size w1 w9) := hide (HB8.out.trans (hb9.mono HB8.out.size))
                  have HX9 := hide (HX8.out.mono hb9)
                  have HR9 := hide hR9
                  clear hb9 hR9
                  go_wp2_with fail
                  refine (sameK_any a9 ai nl c9 nl ci X X w9 HR9.out HX9.out).mono ?_
                  rintro r w10 ⟨rfl, q, rfl⟩
                  have hXX : decide (X = X) = true := decide_eq_true rfl
                  rw [hXX]
                  go_wp2_with fail
                  go_ret
                  exact ⟨rfl, HB0.out.trans ((HB9.out.trans ((drewN_below _ _ _).mono HB9.out.size)).mono HB0.out.size)⟩
                · go_wp2_with fail
                  refine (HTX.out true wr HX7.out).mono ?_
                  rintro r w8 ⟨rfl, hb8⟩
                  have HB8 : Hid (Below w1.heap.size w1 w8) := hide (HB7.out.trans (hb8.mono HB7.out.size))
                  have HX8 := hide (HX7.out.mono hb8)
                  clear hb8
                  go_wp2_with fail
                  refine (HRE.out true w8 (HMW.out w8 HB8.out)).mono ?_
                  rintro r w9 ⟨a9, c9, rfl, hR9, hb9⟩
                  have HB9 : Hid (Below w1.heap.size w1 w9) := hide (HB8.out.trans (hb9.mono HB8.out.size))
                  have HX9 := hide (HX8.out.mono hb9)
                  have HR9 := hide hR9
                  clear hb9 hR9
                  go_wp2_with fail
                  refine (sameK_any a9 ai nl c9 nl ci X X w9 HR9.out HX9.out).mono ?_
                  rintro r w10 ⟨rfl, q, rfl⟩
                  have hXX : decide (X = X) = true := decide_eq_true rfl
                  rw [hXX]
                  go_wp2_with fail
                  go_ret
                  exact ⟨rfl, HB0.out.trans ((HB9.out.trans ((drewN_below _ _ _).mono HB9.out.size)).mono HB0.out.size)⟩
        · obtain rfl : u = 1 := HUT.out
          go_wp2_with fail
          go_loopw [11, 12, 13] (fun u1 u2 u3 wr => ∃ k : Nat, k ≤ 32 ∧ u1 = .int .i64 (df Z D 2 k) ∧ u2 = .int .i64 (df Z D 1 k) ∧ u3 = .int .i64 ((k + 1 : Nat) : Int) ∧ wr = w7) (fun _ _ v _ => 33 - (intOf v).toNat)
          case atStart => exact ⟨0, by omega, by rw [df_zero], by rw [df_zero], rfl, rfl⟩
          case round =>
            obtain ⟨k, hk, rfl, rfl, rfl, rfl⟩ := hrel
            by_cases hlt : k < 32
            · have hlt' : ((k + 1 : Nat) : Int) < 33 := by omega
              have e1 := HCZ.out (k + 1) (by omega)
              have e2 := HCD.out (k + 1) (by omega)
              have HP := hide (df_pos Z D k)
              have HNg := hide (df_neg Z D k)
              have b1 := df_bd Z D 1 hk
              have b2 := df_bd Z D 2 hk
              obtain ⟨kk, hkk⟩ : ∃ kk, k + 1 = kk := ⟨_, rfl⟩
              obtain ⟨zk, hzk⟩ : ∃ zk, Z.getD (k + 1) 0 = zk := ⟨_, rfl⟩
              obtain ⟨dk, hdk⟩ : ∃ dk, D.getD (k + 1) 0 = dk := ⟨_, rfl⟩
              rw [hzk] at e1 HP HNg
              rw [hdk] at e2 HP HNg
              rw [hkk] at e1 e2 hlt' HP HNg ⊢
              have HKK := hide hkk
              obtain ⟨P0, hP0⟩ : ∃ P0, df Z D 1 k = P0 := ⟨_, rfl⟩
              obtain ⟨M0, hM0⟩ : ∃ M0, df Z D 2 k = M0 := ⟨_, rfl⟩
              rw [hP0] at HP b1 ⊢
              rw [hM0] at HNg b2 ⊢
              have hk33 : kk < 33 := by omega
              clear hzk hdk hkk hP0 hM0
              rcases Int.lt_trichotomy zk 0 with hz | hz | hz
              · have hz2 : ¬ 0 < zk := by omega
                rcases Int.lt_trichotomy dk 0 with hd | hd | hd
                · have hd2 : ¬ 0 < dk := by omega
                  simp only [if_pos hz, if_neg hz2, if_pos hd, if_neg hd2] at HP HNg
                  go_wp2_with fail
                  exact ⟨⟨kk, by omega, by first | rfl | (congr 1; have := HNg.out; omega), by first | rfl | (congr 1; have := HP.out; omega), by go_num, by first | rfl | trivial⟩, by simp [intOf]; omega⟩
                · have hd1 : ¬ 0 < dk := by omega
                  have hd2 : ¬ dk < 0 := by omega
                  clear hd
                  simp only [if_pos hz, if_neg hz2, if_neg hd1, if_neg hd2] at HP HNg
                  go_wp2_with fail
                  exact ⟨⟨kk, by omega, by first | rfl | (congr 1; have := HNg.out; omega), by first | rfl | (congr 1; have := HP.out; omega), by go_num, by first | rfl | trivial⟩, by simp [intOf]; omega⟩
                · have hd2 : ¬ dk < 0 := by omega
                  simp only [if_pos hz, if_neg hz2, if_pos hd, if_neg hd2] at HP HNg
                  go_wp2_with fail
                  exact ⟨⟨kk, by omega, by first | rfl | (congr 1; have := HNg.out; omega), by first | rfl | (congr 1; have := HP.out; omega), by go_num, by first | rfl | trivial⟩, by simp [intOf]; omega⟩
              · have hz1 : ¬ 0 < zk := by omega
                have hz2 : ¬ zk < 0 := by omega
                clear hz
                rcases Int.lt_trichotomy dk 0 with hd | hd | hd
                · have hd2 : ¬ 0 < dk := by omega
                  simp only [if_neg hz1, if_neg hz2, if_pos hd, if_neg hd2] at HP HNg
                  go_wp2_with fail
                  exact ⟨⟨kk, by omega, by first | rfl | (congr 1; have := HNg.out; omega), by first | rfl | (congr 1; have := HP.out; omega), by go_num, by first | rfl | trivial⟩, by simp [intOf]; omega⟩
                · have hd1 : ¬ 0 < dk := by omega
                  have hd2 : ¬ dk < 0 := by omega
                  clear hd
                  simp only [if_neg hz1, if_neg hz2, if_neg hd1, if_neg hd2] at HP HNg
                  go_wp2_with fail
                  exact ⟨⟨kk, by omega, by first | rfl | (congr 1; have := HNg.out; omega), by first | rfl | (congr 1; have := HP.out; omega), by go_num, by first | rfl | trivial⟩, by simp [intOf]; omega⟩
                · have hd2 : ¬ dk < 0 := by omega
                  simp only [if_neg hz1, if_neg hz2, if_pos hd, if_neg hd2] at HP HNg
                  go_wp2_with fail
                  exact ⟨⟨kk, by omega, by first | rfl | (congr 1; have := HNg.out; omega), by first | rfl | (congr 1; have := HP.out; omega), by go_num, by first | rfl | trivial⟩, by simp [intOf]; omega⟩
              · have hz2 : ¬ zk < 0 := by omega
                rcases Int.lt_trichotomy dk 0 with hd | hd | hd
                · have hd2 : ¬ 0 < dk := by omega
                  simp only [if_pos hz, if_neg hz2, if_pos hd, if_neg hd2] at HP HNg
                  go_wp2_with fail
                  exact ⟨⟨kk, by omega, by first | rfl | (congr 1; have := HNg.out; omega), by first | rfl | (congr 1; have := HP.out; omega), by go_num, by first | rfl | trivial⟩, by simp [intOf]; omega⟩
                · have hd1 : ¬ 0 < dk := by omega
                  have hd2 : ¬ dk < 0 := by omega
                  clear hd
                  simp only [if_pos hz, if_neg hz2, if_neg hd1, if_neg hd2] at HP HNg
                  go_wp2_with fail
                  exact ⟨⟨kk, by omega, by first | rfl | (congr 1; have := HNg.out; omega), by first | rfl | (congr 1; have := HP.out; omega), by go_num, by first | rfl | trivial⟩, by simp [intOf]; omega⟩
                · have hd2 : ¬ dk < 0 := by omega
                  simp only [if_pos hz, if_neg hz2, if_pos hd, if_neg hd2] at HP HNg
                  go_wp2_with fail
                  exact ⟨⟨kk, by omega, by first | rfl | (congr 1; have := HNg.out; omega), by first | rfl | (congr 1; have := HP.out; omega), by go_num, by first | rfl | trivial⟩, by simp [intOf]; omega⟩
            · obtain rfl : k = 32 := by omega
              have hdo : df Z D 2 32 = 0 := by have := HTK.out.1; unfold df; omega
              have hdt : df Z D 1 32 = -(ov : Int) := by have := HTK.out.2; unfold df; omega
              rcases hwt with ⟨h0, hn2⟩ | ⟨h1, hn2⟩
              · have hdt2 : df Z D 1 32 = 0 := by omega
                rw [hdo, hdt2]
                clear hdo hdt hdt2
                subst h0
                subst hn2
                go_wp2_with fail
                refine (HTX.out false wr HX7.out).mono ?_
                rintro r w8 ⟨rfl, hb8⟩
                have HB8 : Hid (Below w1.heap.size w1 w8) := hide (HB7.out.trans (hb8.mono HB7.out.size))
                have HX8 := hide (HX7.out.mono hb8)
                clear hb8
                go_wp2_with fail
                refine (HRE.out false w8 (HMW.out w8 HB8.out)).mono ?_
                rintro r w9 ⟨a9, c9, rfl, hR9, hb9⟩
                have HB9 : Hid (Below w1.heap.size w1 w9) := hide (HB8.out.trans (hb9.mono HB8.out.size))
                have HX9 := hide (HX8.out.mono hb9)
                have HR9 := hide hR9
                clear hb9 hR9
                go_wp2_with fail
                refine (sameK_any a9 ai 2 c9 2 ci X X w9 HR9.out HX9.out).mono ?_
                rintro r w10 ⟨rfl, q, rfl⟩
                have hXX : decide (X = X) = true := decide_eq_true rfl
                rw [hXX]
                go_wp2_with fail
                go_ret
                exact ⟨rfl, HB0.out.trans ((HB9.out.trans ((drewN_below _ _ _).mono HB9.out.size)).mono HB0.out.size)⟩
              · have hdt2 : df Z D 1 32 = 1 - (nl : Int) := by omega
                rw [hdo, hdt2]
                clear hdo hdt hdt2 hn2
                have ho1 : ¬ (1 : Int) = (nl : Int) := by omega
                have ho2 : ¬ (nl : Int) = 1 := by omega
                have ho3 : 1 - (nl : Int) < 0 := by omega
                have ho4 : (1 : Int) < (nl : Int) := by omega
                have ho5 : ¬ 1 - (nl : Int) = 0 := by omega
                by_cases hn3 : (2 : Int) < (nl : Int)
                · go_wp2_with fail
                  refine (HTX.out true wr HX7.out).mono ?_
                  rintro r w8 ⟨rfl, hb8⟩
                  have HB8 : Hid (Below w1.heap.size w1 w8) := hide (HB7.out.trans (hb8.mono HB7.out.size))
                  have HX8 := hide (HX7.out.mono hb8)
                  clear hb8
                  go_wp2_with fail
                  refine (HRE.out true w8 (HMW.out w8 HB8.out)).mono ?_
                  rintro r w9 ⟨a9, c9, rfl, hR9, hb9⟩
                  have HB9 : Hid (Below w1.heap.size w1 w9) := hide (HB8.out.trans (hb9.mono HB8.out.size))
                  have HX9 := hide (HX8.out.mono hb9)
                  have HR9 := hide hR9
                  clear hb9 hR9
                  go_wp2_with fail
                  refine (sameK_any a9 ai nl c9 nl ci X X w9 HR9.out HX9.out).mono ?_
                  rintro r w10 ⟨rfl, q, rfl⟩
                  have hXX : decide (X = X) = true := decide_eq_true rfl
                  rw [hXX]
                  go_wp2_with fail
                  go_ret
                  exact ⟨rfl, HB0.out.trans ((HB9.out.trans ((drewN_below _ _ _).mono HB9.out.size)).mono HB0.out.size)⟩
                · go_wp2_with fail
                  refine (HTX.out true wr HX7.out).mono ?_
                  rintro r w8 ⟨rfl, hb8⟩
                  have HB8 : Hid (Below w1.heap.size w1 w8) := hide (HB7.out.trans (hb8.mono HB7.out.size))
                  have HX8 := hide (HX7.out.mono hb8)
                  clear hb8
                  go_wp2_with fail
                  refine (HRE.out true w8 (HMW.out w8 HB8.out)).mono ?_
                  rintro r w9 ⟨a9, c9, rfl, hR9, hb9⟩
                  have HB9 : Hid (Below w1.heap.size w1 w9) := hide (HB8.out.trans (hb9.mono HB8.out.size))
                  have HX9 := hide (HX8.out.mono hb9)
                  have HR9 := hide hR9
                  clear hb9 hR9
                  go_wp2_with fail
                  refine (sameK_any a9 ai nl c9 nl ci X X w9 HR9.out HX9.out).mono ?_
                  rintro r w10 ⟨rfl, q, rfl⟩
                  have hXX : decide (X = X) = true := decide_eq_true rfl
                  rw [hXX]
                  go_wp2_with fail
                  go_ret
                  exact ⟨rfl, HB0.out.trans ((HB9.out.trans ((drewN_below _ _ _).mono HB9.out.size)).mono HB0.out.size)⟩
      · exact absurd HYX.out (fun ⟨y, hy, e⟩ => hno y hy e)

end Go.Proofs.YtnbaangnpoblfaaDoor
