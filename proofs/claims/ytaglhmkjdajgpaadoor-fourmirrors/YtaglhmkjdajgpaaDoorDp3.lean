/-
  Threats: four.Threats, and the document's own. No conditions beyond those that each theorem bears.
-/
import Derived.Test.YtaglhmkjdajgpaaDoorDp2
namespace Go.Proofs.YtaglhmkjdajgpaaDoor
open Go.RowKit

/-- The threats below j: empty places at which a sign would stand in a row. -/
def thr (W H k : Nat) (zs : List Int) (m j : Nat) : List Nat := (List.range j).filter fun q => zs.getD q 0 == 0 && inR W H (zs.set q (m : Int)) q k

theorem thr_zero (W H k : Nat) (zs : List Int) (m : Nat) : thr W H k zs m 0 = [] := rfl
theorem thr_in {W H k : Nat} {zs : List Int} {m j : Nat} (h0 : zs.getD j 0 = 0) (h : inR W H (zs.set j (m : Int)) j k = true) : thr W H k zs m (j + 1) = thr W H k zs m j ++ [j] := by
  unfold thr; rw [List.range_succ, List.filter_append]; simp only [List.filter_cons, h0, h, beq_self_eq_true, Bool.and_self, if_true, List.filter_nil]
theorem thr_out0 {W H k : Nat} {zs : List Int} {m j : Nat} (h0 : ¬ zs.getD j 0 = 0) : thr W H k zs m (j + 1) = thr W H k zs m j := by
  have hb : (zs.getD j 0 == 0) = false := by simpa using h0
  unfold thr; rw [List.range_succ, List.filter_append]; simp only [List.filter_cons, hb, Bool.false_and, Bool.false_eq_true, if_false, List.filter_nil, List.append_nil]
theorem thr_out {W H k : Nat} {zs : List Int} {m j : Nat} (h : inR W H (zs.set j (m : Int)) j k = false) : thr W H k zs m (j + 1) = thr W H k zs m j := by
  unfold thr; rw [List.range_succ, List.filter_append]; simp only [List.filter_cons, h, Bool.and_false, Bool.false_eq_true, if_false, List.filter_nil, List.append_nil]
theorem thr_len (W H k : Nat) (zs : List Int) (m j : Nat) : (thr W H k zs m j).length ≤ j := Nat.le_trans (List.length_filter_le _ _) (by simp)

attribute [local irreducible] thr inR wmG fallN mvO wnZ

set_option maxRecDepth 100000 in
set_option maxHeartbeats 2000000 in
theorem Threats_state (W H : Int) (a : Option Addr) (n c : Nat) (zs : List Int) (who k : Int) (w : World) (h : Rd w a n c zs) (hno : wmG W H zs = false) :
    Calls Tryd.prog 10 #[.agg (gdA W H a n c), .int .i64 who, .int .i64 k] w fun e w' => e = .returned (.tuple #[.slice none 0 0, .int .i64 12]) ∧ Below w.heap.size w w' := by
  have HB0 : Hid (Below w.heap.size w (w.alloc (.cells (gdA W H a n c) 24))) := hide ((Below.refl _ _).alloc (Nat.le_refl _) _)
  have HW := hide (wellOf_no W H a n c zs k _ (h.mono HB0.out) hno)
  have G0 := Gd.new w W H a n c
  clear h hno
  go_enter Tryd.func10, Tryd.ntmps10
  go_wp2_with (refine wpList_load_gd rfl (.tmp 3) rfl w.heap.size rfl G0 ?_)
  clear G0
  refine HW.out.mono ?_
  rintro e w2 ⟨rfl, hb2⟩
  have HB2 := hide (HB0.out.trans (hb2.mono HB0.out.size))
  clear hb2 HW HB0
  go_wp2_with fail
  go_ret2
  exact ⟨rfl, HB2.out⟩

set_option maxRecDepth 100000 in
set_option maxHeartbeats 2000000 in
theorem Threats_k (gW gH : Nat) (a : Option Addr) (n c : Nat) (zs : List Int) (who k : Int) (w : World) (h : Rd w a n c zs) (b : Bw gW gH n zs) (hk : ¬ (1 ≤ k ∧ k ≤ 10)) :
    Calls Tryd.prog 10 #[.agg (gdA gW gH a n c), .int .i64 who, .int .i64 k] w fun e w' => e = .returned (.tuple #[.slice none 0 0, .int .i64 3]) ∧ Below w.heap.size w w' := by
  have HB0 : Hid (Below w.heap.size w (w.alloc (.cells (gdA gW gH a n c) 24))) := hide ((Below.refl _ _).alloc (Nat.le_refl _) _)
  have HW := hide (wellOf_k gW gH a n c zs k _ (h.mono HB0.out) b.wd b.ht b.mul b.may b.hn hk)
  have G0 := Gd.new w gW gH a n c
  clear h b hk
  go_enter Tryd.func10, Tryd.ntmps10
  go_wp2_with (refine wpList_load_gd rfl (.tmp 3) rfl w.heap.size rfl G0 ?_)
  clear G0
  refine HW.out.mono ?_
  rintro e w2 ⟨rfl, hb2⟩
  have HB2 := hide (HB0.out.trans (hb2.mono HB0.out.size))
  clear hb2 HW HB0
  go_wp2_with fail
  go_ret2
  exact ⟨rfl, HB2.out⟩

theorem isPlayer_yes (m : Nat) (hm : m = 1 ∨ m = 2) (w : World) : Calls Tryd.prog 30 #[.int .i64 (m : Nat)] w fun e w' => e = .returned (.bool true) ∧ w' = w := by
  rcases hm with rfl | rfl
  · go_enter Tryd.func30, Tryd.ntmps30
    go_wp2
    go_ret
    exact ⟨rfl, rfl⟩
  · go_enter Tryd.func30, Tryd.ntmps30
    go_wp2
    go_ret
    exact ⟨rfl, rfl⟩

theorem isPlayer_no (x : Int) (h1 : x ≠ 1) (h2 : x ≠ 2) (w : World) : Calls Tryd.prog 30 #[.int .i64 x] w fun e w' => e = .returned (.bool false) ∧ w' = w := by
  have b1 : (x == (1 : Int)) = false := by simpa using h1
  have b2 : (x == (2 : Int)) = false := by simpa using h2
  clear h1 h2
  go_enter Tryd.func30, Tryd.ntmps30
  go_wp2
  go_ret
  exact ⟨rfl, rfl⟩

set_option maxRecDepth 100000 in
set_option maxHeartbeats 2000000 in
theorem Threats_who (gW gH : Nat) (a : Option Addr) (n c K : Nat) (zs : List Int) (who : Int) (w : World) (hT : Tab w) (h : Rd w a n c zs) (b : Bw gW gH n zs) (hK : 1 ≤ K ∧ K ≤ 10) (hw1 : who ≠ 1) (hw2 : who ≠ 2) :
    Calls Tryd.prog 10 #[.agg (gdA gW gH a n c), .int .i64 who, .int .i64 (K : Nat)] w fun e w' => e = .returned (.tuple #[.slice none 0 0, .int .i64 4]) ∧ Below w.heap.size w w' := by
  have HB0 : Hid (Below w.heap.size w (w.alloc (.cells (gdA gW gH a n c) 24))) := hide ((Below.refl _ _).alloc (Nat.le_refl _) _)
  have HW := hide (wellOf_yes gW gH a n c K zs _ (hT.mono HB0.out) (h.mono HB0.out) b.wd b.ht b.mul b.may b.hn hK)
  have G0 := Gd.new w gW gH a n c
  have HIP := hide (fun W => isPlayer_no who hw1 hw2 W)
  clear h b hK hT hw1 hw2
  go_enter Tryd.func10, Tryd.ntmps10
  go_wp2_with (refine wpList_load_gd rfl (.tmp 3) rfl w.heap.size rfl G0 ?_)
  clear G0
  refine HW.out.mono ?_
  rintro e w2 ⟨cc, wb, cb, -, rfl, -, hb2, -, -⟩
  have HB2 := hide (HB0.out.trans (hb2.mono HB0.out.size))
  clear hb2 HW HB0
  go_wp2_with fail
  refine (HIP.out _).mono ?_
  rintro e wx ⟨rfl, hwx⟩
  subst wx
  go_wp2_with fail
  go_ret2
  exact ⟨rfl, HB2.out⟩

theorem slice_form' {w : World} {base : Nat} {v : Value} {n : Nat} {xs : List Value} (h : w.ownsRow base 3 1 v n xs) : ∃ a c, v = .slice a n c := slice_form h

set_option maxRecDepth 100000 in
set_option maxHeartbeats 4000000 in
theorem Threats_yes (gW gH : Nat) (a : Option Addr) (n c K m : Nat) (zs : List Int) (w : World) (hT : Tab w) (h : Rd w a n c zs) (b : Bw gW gH n zs) (hK : 1 ≤ K ∧ K ≤ 10) (hm : m = 1 ∨ m = 2) :
    Calls Tryd.prog 10 #[.agg (gdA gW gH a n c), .int .i64 (m : Nat), .int .i64 (K : Nat)] w fun e w' => ∃ a' c', e = .returned (.tuple #[.slice a' (thr gW gH K zs m n).length c', .int .i64 0]) ∧ Rd w' a' (thr gW gH K zs m n).length c' (toI (thr gW gH K zs m n)) ∧ Below w.heap.size w w' := by
  have HB0 : Hid (Below w.heap.size w (w.alloc (.cells (gdA gW gH a n c) 24))) := hide ((Below.refl _ _).alloc (Nat.le_refl _) _)
  have HW := hide (wellOf_yes gW gH a n c K zs _ (hT.mono HB0.out) (h.mono HB0.out) b.wd b.ht b.mul b.may b.hn hK)
  have G0 := Gd.new w gW gH a n c
  have hn100 := b.n100
  have HIP := hide (fun W => isPlayer_yes m hm W)
  have HMK := hide (fun g hg p hp h0 W1 h1 => makesRow_any g hg zs p m hp h0 W1 h1)
  have HL := hide b.z.1
  clear h b hK hT hm
  go_enter Tryd.func10, Tryd.ntmps10
  go_wp2_with (refine wpList_load_gd rfl (.tmp 3) rfl w.heap.size rfl G0 ?_)
  clear G0
  refine HW.out.mono ?_
  rintro e w2 ⟨cc, wb, cb, hok, rfl, hws, hb2, hwbs, hcbs⟩
  have HB2 := hide (HB0.out.trans (hb2.mono HB0.out.size))
  have HWS := hide hws
  have HOK := hide hok
  have hcap := hws.cap
  dsimp only at hcap
  have hcm := hcap.2.1
  unfold maxLen at hcm
  have hcn := hcap.1
  obtain ⟨f0, f1, f2, f3⟩ := hws.fields
  dsimp only at f0 f1 f2 f3
  clear hb2 HW HB0 hws hok hcap
  · skip
    go_wp2_with fail
    refine (HIP.out _).mono ?_
    rintro e wx ⟨rfl, hwx⟩
    subst wx
    go_wp2_with fail
    clear f0 f1 f2 f3
    go_loopw [10, 31] (fun v x wr => ∃ (j cp : Nat) (ad : Option Addr), x = .int .i64 j ∧ j ≤ n ∧ v = .slice ad (thr gW gH K zs m j).length cp ∧ Hid (wr.ownsRow w2.heap.size 3 1 (.slice ad (thr gW gH K zs m j).length cp) (thr gW gH K zs m j).length ((toI (thr gW gH K zs m j)).map (Value.int .i64))) ∧ Hid (Below w2.heap.size w2 wr)) (fun _ x _ => n - (intOf x).toNat)
    case atStart =>
      refine ⟨0, 0, none, rfl, by omega, ?_, ?_, hide (Below.refl _ _)⟩
      · rw [thr_zero]; rfl
      · rw [thr_zero]; exact World.ownsRow_nil _ _ _ _
    case round =>
      obtain ⟨j, cp, ad, rfl, hj, rfl, hO, hB⟩ := hrel
      by_cases hlt : j < n
      · have hlt' : (j : Int) < (n : Int) := by omega
        have hwr := HWS.out.grow hB.out
        obtain ⟨cj, -⟩ := hwr.cell (p := j) hlt
        dsimp only at cj
        have hml := thr_len gW gH K zs m j
        have HN0 := hide (fun h => thr_out0 (W := gW) (H := gH) (k := K) (zs := zs) (m := m) (j := j) h)
        have HN1 := hide (fun h => thr_out (W := gW) (H := gH) (k := K) (zs := zs) (m := m) (j := j) h)
        have HN2 := hide (fun h0 h => thr_in (W := gW) (H := gH) (k := K) (zs := zs) (m := m) (j := j) h0 h)
        have HI := hide (fun h0 => HMK.out ⟨gW, gH, K, n, cc, wb, cb⟩ HOK.out j hlt h0 wr hwr)
        dsimp only at HI
        obtain ⟨x, hxe⟩ : ∃ x, zs.getD j 0 = x := ⟨_, rfl⟩
        rw [hxe] at cj HN0 HN2 HI
        clear hxe hwr
        by_cases hx0 : x = 0
        rotate_left
        · have HE := hide (HN0.out hx0)
          have hxb : (x == (0 : Int)) = false := by simpa using hx0
          clear hx0
          go_wp2_with fail
          refine ⟨⟨j + 1, cp, ad, by go_num, by omega, ?_, ?_, hB⟩, by simp [intOf]; omega⟩
          · rw [HE.out]
          · rw [HE.out]; exact hO
        · subst hx0
          have HI2 := hide (HI.out rfl)
          obtain ⟨I, hI⟩ : ∃ I, inR gW gH (zs.set j (m : Int)) j K = I := ⟨_, rfl⟩
          rw [hI] at HI2 HN1 HN2
          have HN3 := hide (HN2.out rfl)
          clear hI HI HN2
          go_wp2_with fail
          refine HI2.out.mono ?_
          rintro e w5 ⟨rfl, hb5⟩
          have HO5 : Hid (w5.ownsRow w2.heap.size 3 1 (.slice ad (thr gW gH K zs m j).length cp) (thr gW gH K zs m j).length ((toI (thr gW gH K zs m j)).map (Value.int .i64))) := hide (own_below hO.out hb5)
          have HB5 := hide (hB.out.trans (hb5.mono hB.out.size))
          clear hb5 HI2 hO hB cj
          cases I with
          | false =>
            have HE := hide (HN1.out rfl)
            go_wp2_with fail
            refine ⟨⟨j + 1, cp, ad, by go_num, by omega, ?_, ?_, HB5⟩, by simp [intOf]; omega⟩
            · rw [HE.out]
            · rw [HE.out]; exact HO5
          | true =>
            have HE := hide (HN3.out rfl)
            have hR1 : Rd (World.alloc w5 (.cells #[.int .i64 (j : Nat)] 3)) (some ⟨w5.heap.size, 0, none⟩) 1 1 [((j : Nat) : Int)] := Rd.of_blk (Blk.new w5 3 [((j : Nat) : Int)] _ rfl) rfl (by decide)
            have hOa := HO5.out.alloc (.cells #[.int .i64 (j : Nat)] 3)
            have hBa := HB5.out.alloc HB5.out.size (.cells #[.int .i64 (j : Nat)] 3)
            have hsz := hBa.size
            have HPL : Hid ((thr gW gH K zs m (j + 1)).length = (thr gW gH K zs m j).length + 1) := hide (by rw [HE.out]; simp)
            have HPI : Hid (toI (thr gW gH K zs m (j + 1)) = toI (thr gW gH K zs m j) ++ [((j : Nat) : Int)]) := hide (by rw [HE.out, toI_snoc])
            generalize hpl : (thr gW gH K zs m j).length = M at *
            clear hpl
            go_wp2_with (at_builtin; refine wpList_append_rd _ rfl _ _ rfl w2.heap.size _ M (toI (thr gW gH K zs m j)) rfl hOa (some ⟨w5.heap.size, 0, none⟩) 1 1 [((j : Nat) : Int)] rfl hR1 (by omega) hsz ?_)
            intro v' w6 hO6 hg6
            obtain ⟨ad6, cp6, rfl⟩ := slice_form hO6
            have HB6 := hide (hBa.grown hg6 (by omega) (fun q hq => by rcases HO5.out.2 with ⟨e, _⟩ | ⟨g, cap, cur, e, hbg, _⟩ <;> rw [e] at hq <;> simp [Value.ownBlock] at hq; omega))
            have HO6 := hide hO6
            clear hO6 hg6 hR1 hOa hBa
            go_wp2_with fail
            refine ⟨⟨j + 1, cp6, ad6, by go_num, by omega, ?_, ?_, HB6⟩, by simp [intOf]; omega⟩
            · rw [HPL.out]
            · rw [HPL.out, HPI.out, List.map_append]; exact HO6
      · have hlt' : ¬ (j : Int) < (n : Int) := by omega
        have hje : j = n := by omega
        subst hje
        have HB3 := hide (HB2.out.trans (hB.out.mono HB2.out.size))
        go_wp2_with fail
        go_ret2
        exact ⟨ad, cp, rfl, Rd.of_own hO.out, HB3.out⟩

set_option maxRecDepth 100000 in
set_option maxHeartbeats 4000000 in
theorem ThreatsOf_any (gW gH : Nat) (a : Option Addr) (n c K m : Nat) (zs : List Int) (w : World) (h : Rd w a n c zs) (b : Bw gW gH n zs) (hK : 1 ≤ K ∧ K ≤ 10) (hm : m = 1 ∨ m = 2) :
    Calls Tryd.prog 16 #[.agg (gdA gW gH a n c), .int .i64 (m : Nat), .int .i64 (K : Nat)] w fun e w' => ∃ a' c', e = .returned (.slice a' (thr gW gH K zs m n).length c') ∧ Rd w' a' (thr gW gH K zs m n).length c' (toI (thr gW gH K zs m n)) ∧ Below w.heap.size w w' := by
  have hn100 := b.n100
  have hcm := h.max
  unfold maxLen at hcm
  have hcc := h.cap
  have hn1 : 0 < n := by have := b.mul; have h1 : 1 * 1 ≤ gW * gH := Nat.mul_le_mul b.wd.1 b.ht.1; omega
  obtain ⟨w1, hw1⟩ : ∃ w1, w.alloc (.cells (gdA gW gH a n c) 24) = w1 := ⟨_, rfl⟩
  have HB1 : Hid (Below w.heap.size w w1) := hide (by rw [← hw1]; exact (Below.refl _ _).alloc (Nat.le_refl _) _)
  have HG1 : Hid (Gd w1 w.heap.size gW gH a n c) := hide (by rw [← hw1]; exact Gd.new _ _ _ _ _ _)
  have hs1 : w.heap.size + 1 ≤ w1.heap.size ∧ w1.heap.size ≤ w.heap.size + 1 := by rw [← hw1]; simp
  have HR1 := hide (h.mono HB1.out)
  have HGO := hide (fun W1 (hR : Rd W1 a n c zs) => GridOf_own gW gH a n c zs W1 hR (by omega))
  have HZS := hide (fun j => b.z.set j (x := (m : Int)) (by omega))
  have HWO := hide (fun j a' c' W1 (hR : Rd W1 a' n c' (zs.set j (m : Int))) => WonOf_any gW gH a' n c' K (zs.set j (m : Int)) b.wd b.ht b.mul hK (HZS.out j).2 W1 hR)
  have HIFF : Hid (∀ j, j < n → (((j : Nat) : Int) ∈ toI (mkL n (mY gW gH (zs.set j (m : Int)) K gH)) ↔ inR gW gH (zs.set j (m : Int)) j K = true)) := hide (fun j hj => by
    rw [won_list (by have := b.wd; omega) hK.1 b.mul (HZS.out j).2]
    constructor
    · intro hmem
      obtain ⟨q, hq, e⟩ := List.mem_map.1 hmem
      obtain rfl : q = j := by have e' : (q : Int) = (j : Int) := e; omega
      exact (mem_prt.1 hq).2.2
    · intro hin
      refine List.mem_map.2 ⟨j, mem_prt.2 ⟨hj, ?_, hin⟩, rfl⟩
      rw [getD_set_same (by rw [b.z.1]; exact hj)]
      omega)
  have HLM : Hid (∀ j, (mkL n (mY gW gH (zs.set j (m : Int)) K gH)).length ≤ 100) := hide (fun j => by rw [won_list (by have := b.wd; omega) hK.1 b.mul (HZS.out j).2]; exact Nat.le_trans (prt_len _ _ _ _ _) hn100)
  have HCELL : Hid (∀ W1, Rd W1 a n c zs → ∀ j, j < n → ∃ bb oo, a = some ⟨bb, oo, none⟩ ∧ W1.cell? ⟨bb, oo + j, none⟩ = some (.int .i64 (zs.getD j 0))) := hide (fun W1 hR j hj => by
    obtain ⟨bb, oo, e, hc⟩ := hR.cells (by omega)
    exact ⟨bb, oo, e, hc j hj⟩)
  clear h b hK hm HZS
  go_enter Tryd.func16, Tryd.ntmps16
  go_upto_region 1 with fail
  clear hw1
  go_wp2_with fail
  go_loopw [7, 8] (fun v x wr => ∃ (j cp : Nat) (ad : Option Addr), x = .int .i64 j ∧ j ≤ n ∧ v = .slice ad (thr gW gH K zs m j).length cp ∧ Hid (wr.ownsRow w1.heap.size 3 1 (.slice ad (thr gW gH K zs m j).length cp) (thr gW gH K zs m j).length ((toI (thr gW gH K zs m j)).map (Value.int .i64))) ∧ Hid (Below w1.heap.size w1 wr)) (fun _ x _ => n - (intOf x).toNat)
  case atStart =>
    refine ⟨0, 0, none, rfl, by omega, ?_, ?_, hide (Below.refl _ _)⟩
    · rw [thr_zero]; rfl
    · rw [thr_zero]; exact World.ownsRow_nil _ _ _ _
  case round =>
    obtain ⟨j, cp, ad, rfl, hj, rfl, hO, hB⟩ := hrel
    have Gr := hide (HG1.out.below hB.out (by omega))
    have Rr := hide (HR1.out.mono hB.out)
    have hsr := hB.out.size
    obtain ⟨g0, g1, g2⟩ := Gr.out.cells
    by_cases hlt : j < n
    · have hlt' : (j : Int) < (n : Int) := by omega
      obtain ⟨bb, oo, rfl, cj⟩ := HCELL.out wr Rr.out j hlt
      have hml := thr_len gW gH K zs m j
      have HN0 := hide (fun h => thr_out0 (W := gW) (H := gH) (k := K) (zs := zs) (m := m) (j := j) h)
      have HN1 := hide (fun h => thr_out (W := gW) (H := gH) (k := K) (zs := zs) (m := m) (j := j) h)
      have HN2 := hide (fun h0 h => thr_in (W := gW) (H := gH) (k := K) (zs := zs) (m := m) (j := j) h0 h)
      have HIF := hide (HIFF.out j hlt)
      have hLM := HLM.out j
      obtain ⟨I, hI⟩ : ∃ I, inR gW gH (zs.set j (m : Int)) j K = I := ⟨_, rfl⟩
      rw [hI] at HN1 HN2 HIF
      obtain ⟨x, hxe⟩ : ∃ x, zs.getD j 0 = x := ⟨_, rfl⟩
      rw [hxe] at cj HN0 HN2
      clear hI
      by_cases hx0 : x = 0
      rotate_left
      · have HE := hide (HN0.out hx0)
        have hxb : (x != (0 : Int)) = true := by simpa using hx0
        clear hx0 hxe
        go_wp2_with fail
        refine ⟨⟨j + 1, cp, ad, by go_num, by omega, ?_, ?_, hB⟩, by simp [intOf]; omega⟩
        · rw [HE.out]
        · rw [HE.out]; exact hO
      · subst hx0
        have HN3 := hide (HN2.out rfl)
        clear hxe HN2
        have Gr' := Gr.out
        go_wp2_with (refine wpList_load_gd rfl (.tmp 3) rfl w.heap.size rfl Gr' ?_)
        refine (HGO.out wr Rr.out).mono ?_
        rintro e w3 ⟨a', c', rfl, hO3, hb4⟩
        have HB4 := hide (hB.out.trans (hb4.mono hsr))
        have h3s := hb4.size
        have HOL := hide (own_below hO.out hb4)
        obtain ⟨ab, rfl, hab, habl⟩ : ∃ ab, a' = some ⟨ab, 0, none⟩ ∧ wr.heap.size ≤ ab ∧ ab < w3.heap.size := by
          rcases hO3.2 with ⟨e, e2⟩ | ⟨b, cap, cur, e, hb, h2, _⟩
          · omega
          · simp only [Value.slice.injEq] at e
            exact ⟨b, e.1, hb, (Array.getElem?_eq_some_iff.1 h2).1⟩
        have HO3 := hide hO3
        have hcc' : n ≤ c' ∧ c' ≤ maxLen := by have := Rd.of_own hO3; exact ⟨this.cap, this.max⟩
        unfold maxLen at hcc'
        have hadl : ∀ q, (Value.slice ad (thr gW gH K zs m j).length cp).ownBlock = some q → q < wr.heap.size := fun q e => (hO.out.lt q e).2
        have HADL := hide hadl
        clear hO3 hb4 Gr' g0 g1 g2 Rr Gr hB cj hO hadl
        have K22 := Gd.new w3 0 0 none 0 0
        go_wp2_with (refine wpList_store_gd rfl (.tmp 9) (.tmp 26) rfl w3.heap.size rfl rfl K22 ?_)
        intro w4 k5 kk5
        have X5 := hide k5
        have KA : Keeps (fun k => k = w3.heap.size) w3 w4 := ((Keeps.refl _ w3).alloc _).trans kk5
        have O5 := hide (own_blk HO3.out (w' := w4) (fun b e => by simp only [Value.ownBlock, Option.some.injEq] at e; rw [← e]; exact KA.block _ habl (by omega)))
        have OL5 := hide (own_blk HOL.out (w' := w4) (fun b e => by have := HADL.out b e; exact KA.block _ (by omega) (by omega)))
        have HB5' : Hid (Below w1.heap.size w1 w4) := hide (HB4.out.trans ((KA.mono (Y := fun k => w3.heap.size ≤ k) (fun k _ e => by omega)).below (B := w1.heap.size) (by omega) (fun k hk e => by omega)))
        have h5s := KA.size
        obtain ⟨-, -, x2⟩ := X5.out.cells
        have c6 : w4.cell? ⟨ab, j, none⟩ = some (.int .i64 (zs.getD j 0)) := by have := ((Rd.of_own O5.out).cell hlt).2; rwa [Nat.zero_add] at this
        have f6 := World.ownsRow.frozenAt O5.out j
        have HO7 := hide (World.ownsRow.stored O5.out j (.int .i64 (m : Nat))).1
        have HK7 := hide (Keeps.set1 w4 ab j (.int .i64 (m : Nat)))
        clear k5 kk5 KA K22 HO3 HB4 HOL
        go_upto_region 8 with fail
        have HX7 := X5.out.keeps HK7.out (by omega)
        have HOL7 := hide (own_blk OL5.out (w' := w4.setCell ⟨ab, j, none⟩ (.int .i64 (m : Nat))) (fun b e => by have := HADL.out b e; exact HK7.out.block _ (by omega) (by omega)))
        have HB7 : Hid (Below w1.heap.size w1 (w4.setCell ⟨ab, j, none⟩ (.int .i64 (m : Nat)))) := hide (HB5'.out.trans ((HK7.out.mono (Y := fun q => wr.heap.size ≤ q) (fun q _ e => by omega)).below (B := w1.heap.size) (by have := HB5'.out.size; omega) (fun q hq e => by omega)))
        have R7 : Rd (w4.setCell ⟨ab, j, none⟩ (.int .i64 (m : Nat))) (some ⟨ab, 0, none⟩) n c' (zs.set j (m : Nat)) := Rd.of_own (by rw [List.map_set]; exact own_base HO7.out (Nat.zero_le _))
        have HC7 := hide (HWO.out j _ _ _ R7)
        obtain ⟨w7, hw7⟩ : ∃ w7, w4.setCell ⟨ab, j, none⟩ (.int .i64 (m : Nat)) = w7 := ⟨_, rfl⟩
        rw [hw7] at HX7 HB7 HC7 HOL7 ⊢
        clear hw7 HO7 HK7 R7 c6 f6 x2 O5 X5 OL5 HB5'
        go_wp2_with (refine wpList_load_gd rfl (.tmp 9) rfl w3.heap.size rfl HX7 ?_)
        refine HC7.out.mono ?_
        rintro e w5 ⟨a8, c8, rfl, hR8, hb8⟩
        have HO5 : Hid (w5.ownsRow w1.heap.size 3 1 (.slice ad (thr gW gH K zs m j).length cp) (thr gW gH K zs m j).length ((toI (thr gW gH K zs m j)).map (Value.int .i64))) := hide (own_below HOL7.out hb8)
        have HB5 := hide (HB7.out.trans (hb8.mono HB7.out.size))
        have HAT := hide (at_any a8 _ c8 _ ((j : Nat) : Int) hLM w5 hR8)
        clear hb8 HX7 HC7 HOL7 HB7 hR8
        go_wp2_with fail
        refine HAT.out.mono ?_
        rintro e wx ⟨⟨r, rfl, hr1, hr2, hr3⟩, hwx⟩
        subst wx
        rw [HIF.out] at hr3
        cases I with
        | false =>
          have HE := hide (HN1.out rfl)
          have hneg : ¬ (0 : Int) ≤ r := fun h => by have := hr3.1 h; cases this
          clear hr3
          go_wp2_with fail
          refine ⟨⟨j + 1, cp, ad, by go_num, by omega, ?_, ?_, HB5⟩, by simp [intOf]; omega⟩
          · rw [HE.out]
          · rw [HE.out]; exact HO5
        | true =>
          have HE := hide (HN3.out rfl)
          have hpos : (0 : Int) ≤ r := hr3.2 rfl
          clear hr3
          have hR1 : Rd (World.alloc w5 (.cells #[.int .i64 (j : Nat)] 3)) (some ⟨w5.heap.size, 0, none⟩) 1 1 [((j : Nat) : Int)] := Rd.of_blk (Blk.new w5 3 [((j : Nat) : Int)] _ rfl) rfl (by decide)
          have hOa := HO5.out.alloc (.cells #[.int .i64 (j : Nat)] 3)
          have hBa := HB5.out.alloc HB5.out.size (.cells #[.int .i64 (j : Nat)] 3)
          have hsz := hBa.size
          have HPL : Hid ((thr gW gH K zs m (j + 1)).length = (thr gW gH K zs m j).length + 1) := hide (by rw [HE.out]; simp)
          have HPI : Hid (toI (thr gW gH K zs m (j + 1)) = toI (thr gW gH K zs m j) ++ [((j : Nat) : Int)]) := hide (by rw [HE.out, toI_snoc])
          generalize hpl : (thr gW gH K zs m j).length = M at *
          clear hpl
          go_wp2_with (at_builtin; refine wpList_append_rd _ rfl _ _ rfl w1.heap.size _ M (toI (thr gW gH K zs m j)) rfl hOa (some ⟨w5.heap.size, 0, none⟩) 1 1 [((j : Nat) : Int)] rfl hR1 (by omega) hsz ?_)
          intro v' w6 hO6 hg6
          obtain ⟨ad6, cp6, rfl⟩ := slice_form hO6
          have HB6 := hide (hBa.grown hg6 (by omega) (fun q hq => by rcases HO5.out.2 with ⟨e, _⟩ | ⟨g, cap, cur, e, hbg, _⟩ <;> rw [e] at hq <;> simp [Value.ownBlock] at hq; omega))
          have HO6 := hide hO6
          clear hO6 hg6 hR1 hOa hBa
          go_wp2_with fail
          refine ⟨⟨j + 1, cp6, ad6, by go_num, by omega, ?_, ?_, HB6⟩, by simp [intOf]; omega⟩
          · rw [HPL.out]
          · rw [HPL.out, HPI.out, List.map_append]; exact HO6
    · have hlt' : ¬ (j : Int) < (n : Int) := by omega
      have hje : j = n := by omega
      subst hje
      have HB3 := hide (HB1.out.trans (hB.out.mono HB1.out.size))
      go_wp2_with fail
      go_ret
      exact ⟨ad, cp, rfl, Rd.of_own hO.out, HB3.out⟩

end Go.Proofs.YtaglhmkjdajgpaaDoor
