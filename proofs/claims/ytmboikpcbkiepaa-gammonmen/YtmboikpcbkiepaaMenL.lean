/-
  The law on men: whatever is thrown, the other's men are as many, and of one's own four at most have gone. No conditions beyond those that each theorem bears.
-/
import Derived.Test.YtmboikpcbkiepaaMvs
import Derived.Test.YtmboikpcbkiepaaMnN
import Derived.Test.YtmboikpcbkiepaaMnS
import Derived.Test.YtmboikpcbkiepaaMk
import Derived.Test.YtmboikpcbkiepaaMs
namespace Go.Proofs.Ytmboikpcbkiepaa
open Go.RowKit

theorem lay_is : layP = stP := by decide

theorem Moves_start (cb cc : Nat) (w : World) (h : Rd w (some ⟨cb, 0, none⟩) 26 cc layP) : Calls Try.prog 15 #[.agg (gmA (some ⟨cb, 0, none⟩) 26 cc 0 0 0), .int .i64 3, .int .i64 1] w fun e w' => ∃ ga cap, e = .returned (.tuple #[.slice (some ⟨ga, 0, none⟩) 16 cap, .int .i64 0]) ∧ 16 ≤ cap ∧ cap ≤ maxLen ∧ Below w.heap.size w w' := by
  rw [lay_is] at h
  have := Moves_yes (some ⟨cb, 0, none⟩) cc stP 0 0 0 3 1 (by omega) (by omega) (by omega) w h (by decide)
  rw [start_16] at this
  refine Calls.mono this ?_
  rintro e w' ⟨ga, cap, e1, e2, e3⟩
  exact ⟨ga, cap, e1, e2.2.1, e2.2.2.1, e3⟩

theorem sum_up : ∀ (P : List Int) (f : Int → Int), (∀ z, 0 ≤ f z) → 0 ≤ (P.map f).sum
  | [], _, _ => by simp
  | z :: P, f, h => by
    have h1 := sum_up P f h
    have h2 := h z
    rw [List.map_cons, List.sum_cons]
    omega

theorem men_bd {P : List Int} {W B T : Int} (h : mayP P W B T) : (0 ≤ W ∧ W ≤ 15) ∧ (0 ≤ B ∧ B ≤ 15) := by
  obtain ⟨-, -, -, h1, h2, -, h3, h4⟩ := h
  have p1 : 0 ≤ (P.map up).sum := sum_up P up (fun z => by unfold up; split <;> omega)
  have p2 : 0 ≤ (P.map fun z => up (-z)).sum := sum_up P (fun z => up (-z)) (fun z => by unfold up; split <;> omega)
  simp only [ws, bs, List.sum_cons] at h3 h4
  omega

theorem men_sum {P : List Int} {W B T : Int} (h : mayP P W B T) : (0 ≤ (ws W P).sum ∧ (ws W P).sum ≤ 15) ∧ (0 ≤ (bs B P).sum ∧ (bs B P).sum ≤ 15) := by
  obtain ⟨-, -, -, h1, h2, -, h3, h4⟩ := h
  have p1 : 0 ≤ (P.map up).sum := sum_up P up (fun z => by unfold up; split <;> omega)
  have p2 : 0 ≤ (P.map fun z => up (-z)).sum := sum_up P (fun z => up (-z)) (fun z => by unfold up; split <;> omega)
  simp only [ws, bs, List.sum_cons] at h3 h4 ⊢
  omega

theorem may_turn {P : List Int} {W B T T' : Int} (h : mayP P W B T) (hT : T' = 0 ∨ T' = 1 := by omega) : mayP P W B T' := by
  obtain ⟨h1, h2, h3, h4, h5, -, h7, h8⟩ := h
  exact ⟨h1, h2, h3, h4, h5, hT, h7, h8⟩

theorem rng_mono {w w' : World} {b o : Nat} {l : List Value} (h : w.rangeAt b o l) (hb : Below w.heap.size w w') : w'.rangeAt b o l := fun i v hv => (hb.cell (p := ⟨b, o + i, none⟩) (World.block_lt_of_cell? w _ (h i v hv))).trans (h i v hv)
theorem br_mono {w w' : World} {T : Int} {ga n cap : Nat} {L : List Bo} (h : Br w T ga n cap L) (hb : Below w.heap.size w w') : Br w' T ga n cap L := by
  obtain ⟨h1, h2, h3, h4⟩ := h
  refine ⟨h1, h2, h3, fun j hj => ?_⟩
  obtain ⟨g, c, r, R⟩ := h4 j hj
  exact ⟨g, c, rng_mono r hb, R.mono hb⟩
theorem rng_cell0 {w : World} {b o : Nat} {x0 x1 x2 x3 : Value} (h : w.rangeAt b o [x0, x1, x2, x3]) : w.cell? ⟨b, o, none⟩ = some x0 := h 0 x0 rfl
theorem rng_cell3 {w : World} {b o : Nat} {x0 x1 x2 x3 : Value} (h : w.rangeAt b o [x0, x1, x2, x3]) : w.cell? ⟨b, o + 3, none⟩ = some x3 := h 3 x3 rfl

set_option maxHeartbeats 1000000 in
theorem men_facts0 {P : List Int} {W B : Int} {x y : Nat} (hx : 1 ≤ x ∧ x ≤ 6) (hy : 1 ≤ y ∧ y ≤ 6) (h : mayP P W B 0) : ∃ ts os : Int, (ws W P).sum = os ∧ (bs B P).sum = ts ∧ 0 < (mvB 0 x y [⟨P, W, B⟩]).length ∧
    ∀ q, q ∈ mvB 0 x y [⟨P, W, B⟩] → mayP q.P q.W q.B 1 ∧ ∃ oz, (ws q.W q.P).sum = oz ∧ (bs q.B q.P).sum = ts ∧ os - 4 ≤ oz ∧ oz ≤ os ∧ 0 ≤ oz := by
  have h' : mayP P W B ((0 : Nat) : Int) := h
  obtain ⟨-, hM, hT⟩ := mvB_spec (t := 0) (by omega) hx hy h'
  have hs := seen_pr h'
  have h0 := bo_men (t := 0) (by omega) hs
  have hb : bo 0 (seenL P W B 0) = ⟨P, W, B⟩ := bo_seen h'
  rw [hb] at h0
  dsimp only at h0
  refine ⟨othS (seenL P W B 0), ownS (seenL P W B 0), by simpa using h0.1, by simpa using h0.2, ?_, fun q hq => ?_⟩
  · obtain ⟨z, hz⟩ := endsX_some (seenL P W B 0) x y
    exact List.length_pos_of_mem ((hT.mem _).2 ⟨z, hz, rfl⟩)
  · obtain ⟨z, hz, rfl⟩ := (hT.mem q).1 hq
    obtain ⟨p1, p2, p3, p4⟩ := ends_sums hx hy hs z hz
    have hm := hM _ hq
    have hmen := bo_men (t := 0) (by omega) p1
    have hbd := men_sum hm
    have e1 : (ws (bo 0 z).W (bo 0 z).P).sum = ownS z := by simpa using hmen.1
    have e2 : (bs (bo 0 z).B (bo 0 z).P).sum = othS z := by simpa using hmen.2
    refine ⟨may_turn hm, ownS z, e1, e2.trans p2, p3, p4, ?_⟩
    rw [e1, e2] at hbd
    omega

set_option maxHeartbeats 1000000 in
theorem men_facts1 {P : List Int} {W B : Int} {x y : Nat} (hx : 1 ≤ x ∧ x ≤ 6) (hy : 1 ≤ y ∧ y ≤ 6) (h : mayP P W B 1) : ∃ ts os : Int, (ws W P).sum = ts ∧ (bs B P).sum = os ∧ 0 < (mvB 1 x y [⟨P, W, B⟩]).length ∧
    ∀ q, q ∈ mvB 1 x y [⟨P, W, B⟩] → mayP q.P q.W q.B 0 ∧ ∃ oz, (ws q.W q.P).sum = ts ∧ (bs q.B q.P).sum = oz ∧ os - 4 ≤ oz ∧ oz ≤ os ∧ 0 ≤ oz := by
  have h' : mayP P W B ((1 : Nat) : Int) := h
  obtain ⟨-, hM, hT⟩ := mvB_spec (t := 1) (by omega) hx hy h'
  have hs := seen_pr h'
  have h0 := bo_men (t := 1) (by omega) hs
  have hb : bo 1 (seenL P W B 1) = ⟨P, W, B⟩ := bo_seen h'
  rw [hb] at h0
  dsimp only at h0
  refine ⟨othS (seenL P W B 1), ownS (seenL P W B 1), by simpa using h0.1, by simpa using h0.2, ?_, fun q hq => ?_⟩
  · obtain ⟨z, hz⟩ := endsX_some (seenL P W B 1) x y
    exact List.length_pos_of_mem ((hT.mem _).2 ⟨z, hz, rfl⟩)
  · obtain ⟨z, hz, rfl⟩ := (hT.mem q).1 hq
    obtain ⟨p1, p2, p3, p4⟩ := ends_sums hx hy hs z hz
    have hm := hM _ hq
    have hmen := bo_men (t := 1) (by omega) p1
    have hbd := men_sum hm
    have e1 : (ws (bo 1 z).W (bo 1 z).P).sum = othS z := by simpa using hmen.1
    have e2 : (bs (bo 1 z).B (bo 1 z).P).sum = ownS z := by simpa using hmen.2
    refine ⟨may_turn hm, ownS z, e1.trans p2, e2, p3, p4, ?_⟩
    rw [e1, e2] at hbd
    omega

attribute [local irreducible] mvB ws bs

set_option maxRecDepth 100000 in
set_option maxHeartbeats 16000000 in
theorem men_state (a : Option Addr) (n c : Nat) (P : List Int) (W B T : Int) (x y : Int) (w : World) (h : Rd w a n c P) (hP : ∀ z ∈ P, -9223372036854775808 ≤ z ∧ z ≤ 9223372036854775807) (hx : -9223372036854775808 ≤ x ∧ x ≤ 9223372036854775807) (hy : -9223372036854775808 ≤ y ∧ y ≤ 9223372036854775807) (hm : mayG P W B T = false) :
    Calls Try.prog 6 #[.agg (gmA a n c W B T), .int .i64 x, .int .i64 y] w fun e w' => e = .returned (.bool true) ∧ Below w.heap.size w w' := by
  obtain ⟨X0, hX0, hX0l⟩ : ∃ d, pk x 6 = d ∧ d < 6 := ⟨_, rfl, pk_lt _ _ (by omega)⟩
  obtain ⟨Y0, hY0, hY0l⟩ : ∃ d, pk y 6 = d ∧ d < 6 := ⟨_, rfl, pk_lt _ _ (by omega)⟩
  have HPX : Hid (∀ W1, Calls Try.prog 22 #[.int .i64 x, .int .i64 6] W1 fun e w' => e = .returned (.int .i64 (X0 : Nat)) ∧ w' = W1) := hide (fun W1 => by rw [← hX0]; exact picked_any x 6 W1 hx.1 hx.2 (by omega) (by omega))
  have HPY : Hid (∀ W1, Calls Try.prog 22 #[.int .i64 y, .int .i64 6] W1 fun e w' => e = .returned (.int .i64 (Y0 : Nat)) ∧ w' = W1) := hide (fun W1 => by rw [← hY0]; exact picked_any y 6 W1 hy.1 hy.2 (by omega) (by omega))
  obtain ⟨X, hX⟩ : ∃ X, 1 + X0 = X := ⟨_, rfl⟩
  obtain ⟨Y, hY⟩ : ∃ Y, 1 + Y0 = Y := ⟨_, rfl⟩
  have hXi : (1 : Int) + (X0 : Int) = (X : Int) := by omega
  have hYi : (1 : Int) + (Y0 : Int) = (Y : Int) := by omega
  have HM1 := hide (fun W1 (hR : Rd W1 a n c P) => Moves_state a n c P W B T X Y W1 hR hP hm)
  have HM2 := hide (fun W1 (hR : Rd W1 a n c P) => Moves_state a n c P W B T Y X W1 hR hP hm)
  have HMY := hide (fun W1 (hR : Rd W1 a n c P) => May_any a n c P W B T W1 hR hP)
  rw [hm] at HMY
  obtain ⟨w1, hw1⟩ : ∃ w1, w.alloc (.cells (gmA a n c W B T) 24) = w1 := ⟨_, rfl⟩
  have HB1 : Hid (Below w.heap.size w w1) := hide (by rw [← hw1]; exact (Below.refl _ _).alloc (Nat.le_refl _) _)
  have HG1 : Hid (Gm w1 w.heap.size a n c W B T) := hide (by rw [← hw1]; exact Gm.new _ _ _ _ _ _ _)
  have HR1 := hide (h.mono HB1.out)
  clear h hP hx hy hm hX0 hY0 hX hY
  go_enter Try.func6, Try.ntmps6
  go_upto_region 1 with fail
  clear hw1
  go_wp2_with fail
  refine (start_any _).mono ?_
  rintro r w2 ⟨cb0, cc0, rfl, hR2, hb⟩
  have HS2 := hide hR2
  clear hR2
  have HB2 := hide (HB1.out.trans (hb.mono HB1.out.size))
  have HG2 := hide (HG1.out.below hb HG1.out.lt)
  have HR2 := hide (HR1.out.mono hb)
  clear hb HB1 HG1 HR1
  have HC2 := hide (Moves_start cb0 cc0 w2 HS2.out)
  go_wp2_with fail
  refine HC2.out.mono ?_
  rintro r w3 ⟨ga0, cap0, rfl, hcap0, hcap1, hb⟩
  unfold maxLen at hcap1
  clear HC2 HS2
  have HB3 := hide (HB2.out.trans (hb.mono HB2.out.size))
  have HG3 := hide (HG2.out.below hb HG2.out.lt)
  have HR3 := hide (HR2.out.mono hb)
  clear hb HB2 HG2 HR2
  go_wp2_with fail
  refine (HPX.out _).mono ?_
  rintro r w4 ⟨rfl, hw4⟩
  rw [hw4]
  clear hw4
  go_wp2_with fail
  refine (HPY.out _).mono ?_
  rintro r w5 ⟨rfl, hw5⟩
  rw [hw5]
  clear hw5
  go_wp2_with (refine wpList_load_gm rfl (.tmp 3) rfl w.heap.size rfl HG3.out ?_)
  refine (HM1.out w3 HR3.out).mono ?_
  rintro r w6 ⟨rfl, hb⟩
  have HB6 := hide (HB3.out.trans (hb.mono HB3.out.size))
  have HG6 := hide (HG3.out.below hb HG3.out.lt)
  have HR6 := hide (HR3.out.mono hb)
  clear hb HB3 HG3 HR3
  go_wp2_with (refine wpList_load_gm rfl (.tmp 3) rfl w.heap.size rfl HG6.out ?_)
  refine (HM2.out w6 HR6.out).mono ?_
  rintro r w7 ⟨rfl, hb⟩
  have HB7 := hide (HB6.out.trans (hb.mono HB6.out.size))
  have HG7 := hide (HG6.out.below hb HG6.out.lt)
  have HR7 := hide (HR6.out.mono hb)
  clear hb HB6 HG6 HR6
  go_wp2_with (refine wpList_load_gm rfl (.tmp 3) rfl w.heap.size rfl HG7.out ?_)
  refine (HMY.out w7 HR7.out).mono ?_
  rintro r w8 ⟨rfl, hb⟩
  have HB8 := hide (HB7.out.trans (hb.mono HB7.out.size))
  have HG8 := hide (HG7.out.below hb HG7.out.lt)
  have HR8 := hide (HR7.out.mono hb)
  clear hb HB7 HG7 HR7
  go_wp2_with fail
  go_ret
  exact ⟨rfl, HB8.out⟩

set_option maxRecDepth 100000 in
set_option maxHeartbeats 16000000 in
theorem men_yes0 (a : Option Addr) (c : Nat) (P : List Int) (W B : Int) (x y : Int) (w : World) (h : Rd w a 26 c P) (hx : -9223372036854775808 ≤ x ∧ x ≤ 9223372036854775807) (hy : -9223372036854775808 ≤ y ∧ y ≤ 9223372036854775807) (hm : mayP P W B 0) :
    Calls Try.prog 6 #[.agg (gmA a 26 c W B 0), .int .i64 x, .int .i64 y] w fun e w' => e = .returned (.bool true) ∧ Below w.heap.size w w' := by
  have hcm := h.max
  unfold maxLen at hcm
  have hcc := h.cap
  obtain ⟨X0, hX0, hX0l⟩ : ∃ d, pk x 6 = d ∧ d < 6 := ⟨_, rfl, pk_lt _ _ (by omega)⟩
  obtain ⟨Y0, hY0, hY0l⟩ : ∃ d, pk y 6 = d ∧ d < 6 := ⟨_, rfl, pk_lt _ _ (by omega)⟩
  have HPX : Hid (∀ W1, Calls Try.prog 22 #[.int .i64 x, .int .i64 6] W1 fun e w' => e = .returned (.int .i64 (X0 : Nat)) ∧ w' = W1) := hide (fun W1 => by rw [← hX0]; exact picked_any x 6 W1 hx.1 hx.2 (by omega) (by omega))
  have HPY : Hid (∀ W1, Calls Try.prog 22 #[.int .i64 y, .int .i64 6] W1 fun e w' => e = .returned (.int .i64 (Y0 : Nat)) ∧ w' = W1) := hide (fun W1 => by rw [← hY0]; exact picked_any y 6 W1 hy.1 hy.2 (by omega) (by omega))
  obtain ⟨X, hX⟩ : ∃ X, 1 + X0 = X := ⟨_, rfl⟩
  obtain ⟨Y, hY⟩ : ∃ Y, 1 + Y0 = Y := ⟨_, rfl⟩
  have hXi : (1 : Int) + (X0 : Int) = (X : Int) := by omega
  have hYi : (1 : Int) + (Y0 : Int) = (Y : Int) := by omega
  have HM1 : Hid (∀ W1, Rd W1 a 26 c P → Calls Try.prog 15 #[.agg (gmA a 26 c W B 0), .int .i64 X, .int .i64 Y] W1 fun e w' => ∃ ga cap, e = .returned (.tuple #[.slice (some ⟨ga, 0, none⟩) (mvB 0 X Y [⟨P, W, B⟩]).length cap, .int .i64 0]) ∧ Br w' 1 ga (mvB 0 X Y [⟨P, W, B⟩]).length cap (mvB 0 X Y [⟨P, W, B⟩]) ∧ Below W1.heap.size W1 w') := hide (fun W1 hR => Moves_yes a c P W B 0 X Y (by omega) (by omega) (by omega) W1 hR hm)
  have HM2 : Hid (∀ W1, Rd W1 a 26 c P → Calls Try.prog 15 #[.agg (gmA a 26 c W B 0), .int .i64 Y, .int .i64 X] W1 fun e w' => ∃ ga cap, e = .returned (.tuple #[.slice (some ⟨ga, 0, none⟩) (mvB 0 X Y [⟨P, W, B⟩]).length cap, .int .i64 0]) ∧ Br w' 1 ga (mvB 0 X Y [⟨P, W, B⟩]).length cap (mvB 0 X Y [⟨P, W, B⟩]) ∧ Below W1.heap.size W1 w') := hide (fun W1 hR => by rw [mvB_comm 0 X Y]; exact Moves_yes a c P W B 0 Y X (by omega) (by omega) (by omega) W1 hR hm)
  obtain ⟨ts, os, hts, hos, hLp, hall⟩ := men_facts0 (x := X) (y := Y) (by omega) (by omega) hm
  have HMN := hide (fun W1 (hR : Rd W1 a 26 c P) => men_any a c P W B 0 W1 hR (fun z hz => ⟨hm.low z hz, hm.high z hz⟩) (men_bd hm).1 (men_bd hm).2)
  rw [hts, hos] at HMN
  have hbts : 0 ≤ ts ∧ ts ≤ 15 ∧ 0 ≤ os ∧ os ≤ 15 := by
    have := men_sum hm
    rw [hts, hos] at this
    omega
  obtain ⟨L, hL⟩ : ∃ L, mvB 0 X Y [⟨P, W, B⟩] = L := ⟨_, rfl⟩
  rw [hL] at HM1 HM2 hLp hall
  obtain ⟨LL, hLL⟩ : ∃ LL, L.length = LL := ⟨_, rfl⟩
  rw [hLL] at HM1 HM2 hLp
  have HLE := hide hLL
  have HYA : Hid (∀ j, j < LL → mayP (L.getD j b0).P (L.getD j b0).W (L.getD j b0).B 1 ∧ ∃ oz, (ws (L.getD j b0).W (L.getD j b0).P).sum = oz ∧ (bs (L.getD j b0).B (L.getD j b0).P).sum = ts ∧ os - 4 ≤ oz ∧ oz ≤ os ∧ 0 ≤ oz) := hide (fun j hj => hall _ (by rw [← hLL] at hj; simp [List.getD, hj]))
  have hz : ((LL : Int) == 0) = false := by rw [beq_eq_false_iff_ne]; omega
  obtain ⟨w1, hw1⟩ : ∃ w1, w.alloc (.cells (gmA a 26 c W B 0) 24) = w1 := ⟨_, rfl⟩
  have HB1 : Hid (Below w.heap.size w w1) := hide (by rw [← hw1]; exact (Below.refl _ _).alloc (Nat.le_refl _) _)
  have HG1 : Hid (Gm w1 w.heap.size a 26 c W B 0) := hide (by rw [← hw1]; exact Gm.new _ _ _ _ _ _ _)
  have HR1 := hide (h.mono HB1.out)
  clear h hx hy hm hX0 hY0 hts hos hall hL hLL hX hY
  go_enter Try.func6, Try.ntmps6
  go_upto_region 1 with fail
  clear hw1
  go_wp2_with fail
  refine (start_any _).mono ?_
  rintro r w2 ⟨cb0, cc0, rfl, hR2, hb⟩
  have HS2 := hide hR2
  clear hR2
  have HB2 := hide (HB1.out.trans (hb.mono HB1.out.size))
  have HG2 := hide (HG1.out.below hb HG1.out.lt)
  have HR2 := hide (HR1.out.mono hb)
  clear hb HB1 HG1 HR1
  have HC2 := hide (Moves_start cb0 cc0 w2 HS2.out)
  go_wp2_with fail
  refine HC2.out.mono ?_
  rintro r w3 ⟨ga0, cap0, rfl, hcap0, hcap1, hb⟩
  unfold maxLen at hcap1
  clear HC2 HS2
  have HB3 := hide (HB2.out.trans (hb.mono HB2.out.size))
  have HG3 := hide (HG2.out.below hb HG2.out.lt)
  have HR3 := hide (HR2.out.mono hb)
  clear hb HB2 HG2 HR2
  go_wp2_with fail
  refine (HPX.out _).mono ?_
  rintro r w4 ⟨rfl, hw4⟩
  rw [hw4]
  clear hw4
  go_wp2_with fail
  refine (HPY.out _).mono ?_
  rintro r w5 ⟨rfl, hw5⟩
  rw [hw5]
  clear hw5
  go_wp2_with (refine wpList_load_gm rfl (.tmp 3) rfl w.heap.size rfl HG3.out ?_)
  refine (HM1.out w3 HR3.out).mono ?_
  rintro r w6 ⟨ga, cap, rfl, hL, hb⟩
  have HL6 := hide hL
  clear hL
  have HB6 := hide (HB3.out.trans (hb.mono HB3.out.size))
  have HG6 := hide (HG3.out.below hb HG3.out.lt)
  have HR6 := hide (HR3.out.mono hb)
  clear hb HB3 HG3 HR3
  go_wp2_with (refine wpList_load_gm rfl (.tmp 3) rfl w.heap.size rfl HG6.out ?_)
  refine (HM2.out w6 HR6.out).mono ?_
  rintro r w7 ⟨gc, cap2, rfl, hL, hb⟩
  have HK7 := hide hL
  clear hL
  have HB7 := hide (HB6.out.trans (hb.mono HB6.out.size))
  have HG7 := hide (HG6.out.below hb HG6.out.lt)
  have HR7 := hide (HR6.out.mono hb)
  have HL7 := hide (br_mono HL6.out hb)
  clear hb HB6 HG6 HR6 HL6
  have k1 : LL ≤ cap ∧ cap ≤ 9223372036854775807 := by obtain ⟨-, h1, h2, -⟩ := HL7.out; unfold maxLen at h2; omega
  have k2 : LL ≤ cap2 ∧ cap2 ≤ 9223372036854775807 := by obtain ⟨-, h1, h2, -⟩ := HK7.out; unfold maxLen at h2; omega
  have hll : ((LL : Int) != (LL : Int)) = false := by simp
  go_wp2_with (refine wpList_load_gm rfl (.tmp 3) rfl w.heap.size rfl HG7.out ?_)
  refine (HMN.out w7 HR7.out).mono ?_
  rintro r w8 ⟨rfl, hb⟩
  have HB8 := hide (HB7.out.trans (hb.mono HB7.out.size))
  have HG8 := hide (HG7.out.below hb HG7.out.lt)
  have HR8 := hide (HR7.out.mono hb)
  have HL8 := hide (br_mono HL7.out hb)
  have HK8 := hide (br_mono HK7.out hb)
  clear hb HB7 HG7 HR7 HL7 HK7
  go_wp2_with fail
  go_loopw [16] (fun v wr => ∃ j : Nat, v = .int .i64 j ∧ j ≤ LL ∧ Hid (Below w8.heap.size w8 wr)) (fun v _ => LL - (intOf v).toNat)
  case atStart => exact ⟨0, rfl, by omega, hide (Below.refl _ _)⟩
  case round =>
    obtain ⟨j, rfl, hj, hB⟩ := hrel
    by_cases hlt : j < LL
    · have hlt' : (j : Int) < (LL : Int) := by omega
      have HY := hide (HYA.out j hlt)
      obtain ⟨g1, c1, r1, R1⟩ : ∃ g c, w8.rangeAt ga (j * 4) (bv g c (L.getD j b0) 1) ∧ Rd w8 (some ⟨g, 0, none⟩) 26 c (L.getD j b0).P := by rw [Nat.mul_comm]; exact HL8.out.2.2.2 j (by rw [HLE.out]; exact hlt)
      obtain ⟨g2, c2, r2, R2⟩ : ∃ g c, w8.rangeAt gc (j * 4) (bv g c (L.getD j b0) 1) ∧ Rd w8 (some ⟨g, 0, none⟩) 26 c (L.getD j b0).P := by rw [Nat.mul_comm]; exact HK8.out.2.2.2 j (by rw [HLE.out]; exact hlt)
      obtain ⟨yo, hyo⟩ : ∃ yo, L.getD j b0 = yo := ⟨_, rfl⟩
      rw [hyo] at HY r1 R1 r2 R2
      clear hyo
      obtain ⟨hmy, oz, hws, hbs, hoz⟩ := HY.out
      have hcc1 := R1.max
      have hcc2 := R2.max
      unfold maxLen at hcc1 hcc2
      have hca1 := R1.cap
      have hca2 := R2.cap
      have HRA : Hid (∀ W4, Below wr.heap.size wr W4 → W4.rangeAt ga (j * 4) (bv g1 c1 yo 1)) := hide (fun W4 hb => rng_mono (rng_mono r1 hB.out) hb)
      have HRB : Hid (∀ W4, Below wr.heap.size wr W4 → W4.rangeAt gc (j * 4) (bv g2 c2 yo 1)) := hide (fun W4 hb => rng_mono (rng_mono r2 hB.out) hb)
      have HR1' : Hid (∀ W4, Below wr.heap.size wr W4 → Rd W4 (some ⟨g1, 0, none⟩) 26 c1 yo.P) := hide (fun W4 hb => (R1.mono hB.out).mono hb)
      have HR2' : Hid (∀ W4, Below wr.heap.size wr W4 → Rd W4 (some ⟨g2, 0, none⟩) 26 c2 yo.P) := hide (fun W4 hb => (R2.mono hB.out).mono hb)
      have Gr := HG8.out.below hB.out HG8.out.lt
      have HGR : Hid (∀ W4, Below wr.heap.size wr W4 → Gm W4 w.heap.size a 26 c W B 0) := hide (fun W4 hb => Gr.below hb Gr.lt)
      have HMN2 := hide (men_any (some ⟨g1, 0, none⟩) c1 yo.P yo.W yo.B 1 wr (HR1'.out wr (Below.refl _ _)) (fun z hz => ⟨hmy.low z hz, hmy.high z hz⟩) (men_bd hmy).1 (men_bd hmy).2)
      rw [hws, hbs] at HMN2
      have HMY2 := hide (fun W4 hb => May_any (some ⟨g1, 0, none⟩) 26 c1 yo.P yo.W yo.B 1 W4 (HR1'.out W4 hb) (fun z hz => by have h1 := hmy.low z hz; have h2 := hmy.high z hz; omega))
      rw [show mayG yo.P yo.W yo.B 1 = true from by unfold mayG; exact decide_eq_true hmy] at HMY2
      have HSM : Hid (∀ W4, Below wr.heap.size wr W4 → Calls Try.prog 24 #[.slice (some ⟨g1, 0, none⟩) 26 c1, .slice (some ⟨g2, 0, none⟩) 26 c2] W4 fun e w' => e = .returned (.bool true) ∧ ∃ k, w' = W4.drewN k) := hide (fun W4 hb => by
        have h0 := keepSame_any (some ⟨g1, 0, none⟩) (some ⟨g2, 0, none⟩) 26 c1 26 c2 yo.P yo.P W4 (HR1'.out W4 hb) (HR2'.out W4 hb)
        rw [decide_eq_true rfl] at h0
        exact h0)
      have hrg := HRA.out wr (Below.refl _ _)
      clear hmy hws hbs r1 r2 R1 R2 HY HR1' HR2' Gr
      go_wp2_with (refine wpList_load_bo rfl (.tmp 91) rfl ga (j * 4) rfl hrg ?_)
      refine HMN2.out.mono ?_
      rintro r w9 ⟨rfl, hb⟩
      have HB9 := hide hb
      clear hb hrg HMN2
      obtain ⟨-, -, -, gt⟩ := (HGR.out w9 HB9.out).cells
      go_upto_region 21 with fail
      clear gt
      have HFC : Hid (∀ W4, Below w9.heap.size w9 W4 → W4.cell? ⟨w.heap.size, 3, none⟩ = some (.int .i64 0) ∧ W4.cell? ⟨ga, j * 4, none⟩ = some (.slice (some ⟨g1, 0, none⟩) 26 c1) ∧ W4.cell? ⟨gc, j * 4, none⟩ = some (.slice (some ⟨g2, 0, none⟩) 26 c2) ∧ W4.cell? ⟨ga, j * 4 + 3, none⟩ = some (.int .i64 1)) := hide (fun W4 hb => by
        have hbb := HB9.out.trans (hb.mono HB9.out.size)
        exact ⟨(HGR.out W4 hbb).cells.2.2.2, rng_cell0 (HRA.out W4 hbb), rng_cell0 (HRB.out W4 hbb), rng_cell3 (HRA.out W4 hbb)⟩)
      have HRG : Hid (∀ W4, Below w9.heap.size w9 W4 → W4.rangeAt ga (j * 4) [.slice (some ⟨g1, 0, none⟩) 26 c1, .int .i64 yo.W, .int .i64 yo.B, .int .i64 1]) := hide (fun W4 hb => HRA.out W4 (HB9.out.trans (hb.mono HB9.out.size)))
      refine wp_region_held (S := fun W4 => Below w9.heap.size w9 W4) (by kernel_rfl) ?_
      change wpAnyH _ _ _ _ _ _ _ _ (World.drew _)
      have SW : Below w9.heap.size w9 w9.drew := (Below.refl _ w9).drew
      refine wpAnyH_take (i := 0) (v := .slice (some ⟨ga, 0, none⟩) LL cap) rfl (by kernel_rfl) (by kernel_rfl) (by kernel_rfl) (fun _ _ _ h => h) (Or.inl ⟨by rfl, ?_⟩) SW ?_
      · intro W4 hW4
        go_simp <;> first | done | rfl | (rw [IntKind.wrap_i64]; omega) | omega
      go_simp
      refine wpAnyH_take (i := 1) (v := .int .i64 (j : Nat)) rfl (by kernel_rfl) (by kernel_rfl) (by kernel_rfl) (fun _ _ _ h => h) (Or.inl ⟨by rfl, ?_⟩) SW ?_
      · intro W4 hW4
        go_simp <;> first | done | rfl | (rw [IntKind.wrap_i64]; omega) | omega
      go_simp
      refine wpAnyH_take (i := 2) (v := .pointer (some ⟨ga, j * 4, none⟩)) rfl (by kernel_rfl) (by kernel_rfl) (by kernel_rfl) (fun _ _ _ h => h) (Or.inl ⟨by rfl, ?_⟩) SW ?_
      · intro W4 hW4
        go_simp <;> first | done | rfl | (rw [IntKind.wrap_i64]; omega) | omega
      go_simp
      refine wpAnyH_take (i := 3) (v := .pointer (some ⟨ga, j * 4, none⟩)) rfl (by kernel_rfl) (by kernel_rfl) (by kernel_rfl) (fun _ _ _ h => h) (Or.inl ⟨by rfl, ?_⟩) SW ?_
      · intro W4 hW4
        go_simp <;> first | done | rfl | (rw [IntKind.wrap_i64]; omega) | omega
      go_simp
      refine wpAnyH_take (i := 4) (v := .slice (some ⟨g1, 0, none⟩) 26 c1) rfl (by kernel_rfl) (by kernel_rfl) (by kernel_rfl) (fun _ _ _ h => h) (Or.inl ⟨by rfl, ?_⟩) SW ?_
      · intro W4 hW4
        obtain ⟨x0, x1, x2, x3⟩ := HFC.out W4 hW4
        go_simp <;> first | done | rfl | (rw [IntKind.wrap_i64]; omega) | omega
      go_simp
      refine wpAnyH_take (i := 5) (v := .slice (some ⟨gc, 0, none⟩) LL cap2) rfl (by kernel_rfl) (by kernel_rfl) (by kernel_rfl) (fun _ _ _ h => h) (Or.inl ⟨by rfl, ?_⟩) SW ?_
      · intro W4 hW4
        go_simp <;> first | done | rfl | (rw [IntKind.wrap_i64]; omega) | omega
      go_simp
      refine wpAnyH_take (i := 6) (v := .int .i64 (j : Nat)) rfl (by kernel_rfl) (by kernel_rfl) (by kernel_rfl) (fun _ _ _ h => h) (Or.inl ⟨by rfl, ?_⟩) SW ?_
      · intro W4 hW4
        go_simp <;> first | done | rfl | (rw [IntKind.wrap_i64]; omega) | omega
      go_simp
      refine wpAnyH_take (i := 7) (v := .pointer (some ⟨gc, j * 4, none⟩)) rfl (by kernel_rfl) (by kernel_rfl) (by kernel_rfl) (fun _ _ _ h => h) (Or.inl ⟨by rfl, ?_⟩) SW ?_
      · intro W4 hW4
        go_simp <;> first | done | rfl | (rw [IntKind.wrap_i64]; omega) | omega
      go_simp
      refine wpAnyH_take (i := 8) (v := .pointer (some ⟨gc, j * 4, none⟩)) rfl (by kernel_rfl) (by kernel_rfl) (by kernel_rfl) (fun _ _ _ h => h) (Or.inl ⟨by rfl, ?_⟩) SW ?_
      · intro W4 hW4
        go_simp <;> first | done | rfl | (rw [IntKind.wrap_i64]; omega) | omega
      go_simp
      refine wpAnyH_take (i := 9) (v := .slice (some ⟨g2, 0, none⟩) 26 c2) rfl (by kernel_rfl) (by kernel_rfl) (by kernel_rfl) (fun _ _ _ h => h) (Or.inl ⟨by rfl, ?_⟩) SW ?_
      · intro W4 hW4
        obtain ⟨x0, x1, x2, x3⟩ := HFC.out W4 hW4
        go_simp <;> first | done | rfl | (rw [IntKind.wrap_i64]; omega) | omega
      go_simp
      refine wpAnyH_ready (rs := [10]) (by kernel_rfl) (by simp) ?_
      refine AllReadyH.cons rfl (fun K1 hK1 => ?_) AllReadyH.nil
      go_simp
      refine (HSM.out _ (HB9.out.trans (SW.mono HB9.out.size))).mono ?_
      rintro r w10 ⟨rfl, q, hq⟩
      have B10 : Below w9.heap.size w9 w10 := by rw [hq]; exact SW.trans (drewN_below w9.heap.size _ q)
      clear hq
      refine hK1.out _ _ B10 (fun SW => ?_)
      clear hK1 K1
      go_simp
      refine wpAnyH_take (i := 11) (v := .bool false) rfl (by kernel_rfl) (by kernel_rfl) (by kernel_rfl) (fun _ _ _ h => h) (Or.inl ⟨by rfl, ?_⟩) SW ?_
      · intro W4 hW4
        go_simp <;> first | done | rfl | (rw [IntKind.wrap_i64]; omega) | omega
      go_simp
      refine wpAnyH_take (i := 12) (v := .bool false) rfl (by kernel_rfl) (by kernel_rfl) (by kernel_rfl) (fun _ _ _ h => h) (Or.inl ⟨by rfl, ?_⟩) SW ?_
      · intro W4 hW4
        go_simp <;> first | done | rfl | (rw [IntKind.wrap_i64]; omega) | omega
      go_simp
      refine wpAnyH_take (i := 13) (v := .slice (some ⟨ga, 0, none⟩) LL cap) rfl (by kernel_rfl) (by kernel_rfl) (by kernel_rfl) (fun _ _ _ h => h) (Or.inl ⟨by rfl, ?_⟩) SW ?_
      · intro W4 hW4
        go_simp <;> first | done | rfl | (rw [IntKind.wrap_i64]; omega) | omega
      go_simp
      refine wpAnyH_take (i := 14) (v := .int .i64 (j : Nat)) rfl (by kernel_rfl) (by kernel_rfl) (by kernel_rfl) (fun _ _ _ h => h) (Or.inl ⟨by rfl, ?_⟩) SW ?_
      · intro W4 hW4
        go_simp <;> first | done | rfl | (rw [IntKind.wrap_i64]; omega) | omega
      go_simp
      refine wpAnyH_take (i := 15) (v := .pointer (some ⟨ga, j * 4, none⟩)) rfl (by kernel_rfl) (by kernel_rfl) (by kernel_rfl) (fun _ _ _ h => h) (Or.inl ⟨by rfl, ?_⟩) SW ?_
      · intro W4 hW4
        go_simp <;> first | done | rfl | (rw [IntKind.wrap_i64]; omega) | omega
      go_simp
      refine wpAnyH_take (i := 16) (v := .agg (gmA (some ⟨g1, 0, none⟩) 26 c1 yo.W yo.B 1)) rfl (by kernel_rfl) (by kernel_rfl) (by kernel_rfl) (fun _ _ _ h => h) (yieldsIf_load_mid (by rfl) 24 _ rfl ga (j * 4) (by rfl) [.slice (some ⟨g1, 0, none⟩) 26 c1, .int .i64 yo.W, .int .i64 yo.B, .int .i64 1] _ (fun W hW => HRG.out W hW) Try.underlying24 rfl size24) SW ?_
      go_simp
      refine wpAnyH_ready (rs := [17]) (by kernel_rfl) (by simp) ?_
      refine AllReadyH.cons rfl (fun K1 hK1 => ?_) AllReadyH.nil
      go_simp
      refine (HMY2.out _ (HB9.out.trans (SW.mono HB9.out.size))).mono ?_
      rintro r w11 ⟨rfl, hb11⟩
      have B11 := B10.trans (hb11.mono B10.size)
      refine hK1.out _ _ B11 (fun SW => ?_)
      clear hK1 K1
      go_simp
      refine wpAnyH_take (i := 18) (v := .bool false) rfl (by kernel_rfl) (by kernel_rfl) (by kernel_rfl) (fun _ _ _ h => h) (Or.inl ⟨by rfl, ?_⟩) SW ?_
      · intro W4 hW4
        go_simp <;> first | done | rfl | (rw [IntKind.wrap_i64]; omega) | omega
      go_simp
      refine wpAnyH_take (i := 19) (v := .bool false) rfl (by kernel_rfl) (by kernel_rfl) (by kernel_rfl) (fun _ _ _ h => h) (Or.inl ⟨by rfl, ?_⟩) SW ?_
      · intro W4 hW4
        go_simp <;> first | done | rfl | (rw [IntKind.wrap_i64]; omega) | omega
      go_simp
      refine wpAnyH_take (i := 20) (v := .bool false) rfl (by kernel_rfl) (by kernel_rfl) (by kernel_rfl) (fun _ _ _ h => h) (Or.inl ⟨by rfl, ?_⟩) SW ?_
      · intro W4 hW4
        go_simp <;> first | done | rfl | (rw [IntKind.wrap_i64]; omega) | omega
      go_simp
      refine wpAnyH_take (i := 21) (v := .slice (some ⟨ga, 0, none⟩) LL cap) rfl (by kernel_rfl) (by kernel_rfl) (by kernel_rfl) (fun _ _ _ h => h) (Or.inl ⟨by rfl, ?_⟩) SW ?_
      · intro W4 hW4
        go_simp <;> first | done | rfl | (rw [IntKind.wrap_i64]; omega) | omega
      go_simp
      refine wpAnyH_take (i := 22) (v := .int .i64 (j : Nat)) rfl (by kernel_rfl) (by kernel_rfl) (by kernel_rfl) (fun _ _ _ h => h) (Or.inl ⟨by rfl, ?_⟩) SW ?_
      · intro W4 hW4
        go_simp <;> first | done | rfl | (rw [IntKind.wrap_i64]; omega) | omega
      go_simp
      refine wpAnyH_take (i := 23) (v := .pointer (some ⟨ga, j * 4, none⟩)) rfl (by kernel_rfl) (by kernel_rfl) (by kernel_rfl) (fun _ _ _ h => h) (Or.inl ⟨by rfl, ?_⟩) SW ?_
      · intro W4 hW4
        go_simp <;> first | done | rfl | (rw [IntKind.wrap_i64]; omega) | omega
      go_simp
      refine wpAnyH_take (i := 24) (v := .pointer (some ⟨ga, j * 4 + 3, none⟩)) rfl (by kernel_rfl) (by kernel_rfl) (by kernel_rfl) (fun _ _ _ h => h) (Or.inl ⟨by rfl, ?_⟩) SW ?_
      · intro W4 hW4
        go_simp <;> first | done | rfl | (rw [IntKind.wrap_i64]; omega) | omega
      go_simp
      refine wpAnyH_take (i := 25) (v := .int .i64 1) rfl (by kernel_rfl) (by kernel_rfl) (by kernel_rfl) (fun _ _ _ h => h) (Or.inl ⟨by rfl, ?_⟩) SW ?_
      · intro W4 hW4
        obtain ⟨x0, x1, x2, x3⟩ := HFC.out W4 hW4
        go_simp <;> first | done | rfl | (rw [IntKind.wrap_i64]; omega) | omega
      go_simp
      refine wpAnyH_take (i := 26) (v := .pointer (some ⟨w.heap.size, 3, none⟩)) rfl (by kernel_rfl) (by kernel_rfl) (by kernel_rfl) (fun _ _ _ h => h) (Or.inl ⟨by rfl, ?_⟩) SW ?_
      · intro W4 hW4
        go_simp <;> first | done | rfl | (rw [IntKind.wrap_i64]; omega) | omega
      go_simp
      refine wpAnyH_take (i := 27) (v := .int .i64 0) rfl (by kernel_rfl) (by kernel_rfl) (by kernel_rfl) (fun _ _ _ h => h) (Or.inl ⟨by rfl, ?_⟩) SW ?_
      · intro W4 hW4
        obtain ⟨x0, x1, x2, x3⟩ := HFC.out W4 hW4
        go_simp <;> first | done | rfl | (rw [IntKind.wrap_i64]; omega) | omega
      go_simp
      refine wpAnyH_take (i := 28) (v := .bool false) rfl (by kernel_rfl) (by kernel_rfl) (by kernel_rfl) (fun _ _ _ h => h) (Or.inl ⟨by rfl, ?_⟩) SW ?_
      · intro W4 hW4
        go_simp <;> first | done | rfl | (rw [IntKind.wrap_i64]; omega) | omega
      go_simp
      refine wpAnyH_take (i := 29) (v := .bool false) rfl (by kernel_rfl) (by kernel_rfl) (by kernel_rfl) (fun _ _ _ h => h) (Or.inl ⟨by rfl, ?_⟩) SW ?_
      · intro W4 hW4
        go_simp <;> first | done | rfl | (rw [IntKind.wrap_i64]; omega) | omega
      go_simp
      refine wpAnyH_take (i := 30) (v := .bool false) rfl (by kernel_rfl) (by kernel_rfl) (by kernel_rfl) (fun _ _ _ h => h) (Or.inl ⟨by rfl, ?_⟩) SW ?_
      · intro W4 hW4
        go_simp <;> first | done | rfl | (rw [IntKind.wrap_i64]; omega) | omega
      go_simp
      refine wpAnyH_take (i := 31) (v := .int .i64 ts) rfl (by kernel_rfl) (by kernel_rfl) (by kernel_rfl) (fun _ _ _ h => h) (Or.inl ⟨by rfl, ?_⟩) SW ?_
      · intro W4 hW4
        go_simp <;> first | done | rfl | (rw [IntKind.wrap_i64]; omega) | omega
      go_simp
      refine wpAnyH_take (i := 32) (v := .int .i64 ts) rfl (by kernel_rfl) (by kernel_rfl) (by kernel_rfl) (fun _ _ _ h => h) (Or.inl ⟨by rfl, ?_⟩) SW ?_
      · intro W4 hW4
        go_simp <;> first | done | rfl | (rw [IntKind.wrap_i64]; omega) | omega
      go_simp
      refine wpAnyH_take (i := 33) (v := .bool false) rfl (by kernel_rfl) (by kernel_rfl) (by kernel_rfl) (fun _ _ _ h => h) (Or.inl ⟨by rfl, ?_⟩) SW ?_
      · intro W4 hW4
        go_simp <;> first | done | rfl | (rw [IntKind.wrap_i64]; omega) | omega
      go_simp
      refine wpAnyH_take (i := 34) (v := .bool false) rfl (by kernel_rfl) (by kernel_rfl) (by kernel_rfl) (fun _ _ _ h => h) (Or.inl ⟨by rfl, ?_⟩) SW ?_
      · intro W4 hW4
        go_simp <;> first | done | rfl | (rw [IntKind.wrap_i64]; omega) | omega
      go_simp
      refine wpAnyH_take (i := 35) (v := .bool false) rfl (by kernel_rfl) (by kernel_rfl) (by kernel_rfl) (fun _ _ _ h => h) (Or.inl ⟨by rfl, ?_⟩) SW ?_
      · intro W4 hW4
        go_simp <;> first | done | rfl | (rw [IntKind.wrap_i64]; omega) | omega
      go_simp
      refine wpAnyH_take (i := 36) (v := .int .i64 oz) rfl (by kernel_rfl) (by kernel_rfl) (by kernel_rfl) (fun _ _ _ h => h) (Or.inl ⟨by rfl, ?_⟩) SW ?_
      · intro W4 hW4
        go_simp <;> first | done | rfl | (rw [IntKind.wrap_i64]; omega) | omega
      go_simp
      refine wpAnyH_take (i := 37) (v := .int .i64 os) rfl (by kernel_rfl) (by kernel_rfl) (by kernel_rfl) (fun _ _ _ h => h) (Or.inl ⟨by rfl, ?_⟩) SW ?_
      · intro W4 hW4
        go_simp <;> first | done | rfl | (rw [IntKind.wrap_i64]; omega) | omega
      go_simp
      refine wpAnyH_take (i := 38) (v := .bool false) rfl (by kernel_rfl) (by kernel_rfl) (by kernel_rfl) (fun _ _ _ h => h) (Or.inl ⟨by rfl, ?_⟩) SW ?_
      · intro W4 hW4
        have q0 : ¬ oz > os := by omega
        go_simp <;> first | done | rfl | (rw [IntKind.wrap_i64]; omega) | omega
      go_simp
      refine wpAnyH_take (i := 39) (v := .bool false) rfl (by kernel_rfl) (by kernel_rfl) (by kernel_rfl) (fun _ _ _ h => h) (Or.inl ⟨by rfl, ?_⟩) SW ?_
      · intro W4 hW4
        go_simp <;> first | done | rfl | (rw [IntKind.wrap_i64]; omega) | omega
      go_simp
      refine wpAnyH_take (i := 40) (v := .bool false) rfl (by kernel_rfl) (by kernel_rfl) (by kernel_rfl) (fun _ _ _ h => h) (Or.inl ⟨by rfl, ?_⟩) SW ?_
      · intro W4 hW4
        go_simp <;> first | done | rfl | (rw [IntKind.wrap_i64]; omega) | omega
      go_simp
      refine wpAnyH_take (i := 41) (v := .int .i64 oz) rfl (by kernel_rfl) (by kernel_rfl) (by kernel_rfl) (fun _ _ _ h => h) (Or.inl ⟨by rfl, ?_⟩) SW ?_
      · intro W4 hW4
        go_simp <;> first | done | rfl | (rw [IntKind.wrap_i64]; omega) | omega
      go_simp
      refine wpAnyH_take (i := 42) (v := .int .i64 os) rfl (by kernel_rfl) (by kernel_rfl) (by kernel_rfl) (fun _ _ _ h => h) (Or.inl ⟨by rfl, ?_⟩) SW ?_
      · intro W4 hW4
        go_simp <;> first | done | rfl | (rw [IntKind.wrap_i64]; omega) | omega
      go_simp
      refine wpAnyH_take (i := 43) (v := .int .i64 (os - 4)) rfl (by kernel_rfl) (by kernel_rfl) (by kernel_rfl) (fun _ _ _ h => h) (Or.inl ⟨by rfl, ?_⟩) SW ?_
      · intro W4 hW4
        go_simp <;> first | done | rfl | (rw [IntKind.wrap_i64]; omega) | omega
      go_simp
      refine wpAnyH_take (i := 44) (v := .bool false) rfl (by kernel_rfl) (by kernel_rfl) (by kernel_rfl) (fun _ _ _ h => h) (Or.inl ⟨by rfl, ?_⟩) SW ?_
      · intro W4 hW4
        have q0 : ¬ oz < os - 4 := by omega
        go_simp <;> first | done | rfl | (rw [IntKind.wrap_i64]; omega) | omega
      go_simp
      refine wpAnyH_take (i := 45) (v := .bool false) rfl (by kernel_rfl) (by kernel_rfl) (by kernel_rfl) (fun _ _ _ h => h) (Or.inl ⟨by rfl, ?_⟩) SW ?_
      · intro W4 hW4
        go_simp <;> first | done | rfl | (rw [IntKind.wrap_i64]; omega) | omega
      go_simp
      refine wpAnyH_done (by kernel_rfl) ?_ _
      have HB11 := hide (hB.out.trans ((HB9.out.trans (B11.mono HB9.out.size)).mono hB.out.size))
      clear SW B11 B10 hb11 HFC HRG
      go_wp2_with fail
      exact ⟨⟨j + 1, by go_num, by omega, HB11⟩, by simp [intOf]; omega⟩
    · have hlt' : ¬ (j : Int) < (LL : Int) := by omega
      go_wp2_with fail
      go_ret
      exact ⟨rfl, HB8.out.trans (hB.out.mono HB8.out.size)⟩


set_option maxRecDepth 100000 in
set_option maxHeartbeats 16000000 in
theorem men_yes1 (a : Option Addr) (c : Nat) (P : List Int) (W B : Int) (x y : Int) (w : World) (h : Rd w a 26 c P) (hx : -9223372036854775808 ≤ x ∧ x ≤ 9223372036854775807) (hy : -9223372036854775808 ≤ y ∧ y ≤ 9223372036854775807) (hm : mayP P W B 1) :
    Calls Try.prog 6 #[.agg (gmA a 26 c W B 1), .int .i64 x, .int .i64 y] w fun e w' => e = .returned (.bool true) ∧ Below w.heap.size w w' := by
  have hcm := h.max
  unfold maxLen at hcm
  have hcc := h.cap
  obtain ⟨X0, hX0, hX0l⟩ : ∃ d, pk x 6 = d ∧ d < 6 := ⟨_, rfl, pk_lt _ _ (by omega)⟩
  obtain ⟨Y0, hY0, hY0l⟩ : ∃ d, pk y 6 = d ∧ d < 6 := ⟨_, rfl, pk_lt _ _ (by omega)⟩
  have HPX : Hid (∀ W1, Calls Try.prog 22 #[.int .i64 x, .int .i64 6] W1 fun e w' => e = .returned (.int .i64 (X0 : Nat)) ∧ w' = W1) := hide (fun W1 => by rw [← hX0]; exact picked_any x 6 W1 hx.1 hx.2 (by omega) (by omega))
  have HPY : Hid (∀ W1, Calls Try.prog 22 #[.int .i64 y, .int .i64 6] W1 fun e w' => e = .returned (.int .i64 (Y0 : Nat)) ∧ w' = W1) := hide (fun W1 => by rw [← hY0]; exact picked_any y 6 W1 hy.1 hy.2 (by omega) (by omega))
  obtain ⟨X, hX⟩ : ∃ X, 1 + X0 = X := ⟨_, rfl⟩
  obtain ⟨Y, hY⟩ : ∃ Y, 1 + Y0 = Y := ⟨_, rfl⟩
  have hXi : (1 : Int) + (X0 : Int) = (X : Int) := by omega
  have hYi : (1 : Int) + (Y0 : Int) = (Y : Int) := by omega
  have HM1 : Hid (∀ W1, Rd W1 a 26 c P → Calls Try.prog 15 #[.agg (gmA a 26 c W B 1), .int .i64 X, .int .i64 Y] W1 fun e w' => ∃ ga cap, e = .returned (.tuple #[.slice (some ⟨ga, 0, none⟩) (mvB 1 X Y [⟨P, W, B⟩]).length cap, .int .i64 0]) ∧ Br w' 0 ga (mvB 1 X Y [⟨P, W, B⟩]).length cap (mvB 1 X Y [⟨P, W, B⟩]) ∧ Below W1.heap.size W1 w') := hide (fun W1 hR => Moves_yes a c P W B 1 X Y (by omega) (by omega) (by omega) W1 hR hm)
  have HM2 : Hid (∀ W1, Rd W1 a 26 c P → Calls Try.prog 15 #[.agg (gmA a 26 c W B 1), .int .i64 Y, .int .i64 X] W1 fun e w' => ∃ ga cap, e = .returned (.tuple #[.slice (some ⟨ga, 0, none⟩) (mvB 1 X Y [⟨P, W, B⟩]).length cap, .int .i64 0]) ∧ Br w' 0 ga (mvB 1 X Y [⟨P, W, B⟩]).length cap (mvB 1 X Y [⟨P, W, B⟩]) ∧ Below W1.heap.size W1 w') := hide (fun W1 hR => by rw [mvB_comm 1 X Y]; exact Moves_yes a c P W B 1 Y X (by omega) (by omega) (by omega) W1 hR hm)
  obtain ⟨ts, os, hts, hos, hLp, hall⟩ := men_facts1 (x := X) (y := Y) (by omega) (by omega) hm
  have HMN := hide (fun W1 (hR : Rd W1 a 26 c P) => men_any a c P W B 1 W1 hR (fun z hz => ⟨hm.low z hz, hm.high z hz⟩) (men_bd hm).1 (men_bd hm).2)
  rw [hts, hos] at HMN
  have hbts : 0 ≤ ts ∧ ts ≤ 15 ∧ 0 ≤ os ∧ os ≤ 15 := by
    have := men_sum hm
    rw [hts, hos] at this
    omega
  obtain ⟨L, hL⟩ : ∃ L, mvB 1 X Y [⟨P, W, B⟩] = L := ⟨_, rfl⟩
  rw [hL] at HM1 HM2 hLp hall
  obtain ⟨LL, hLL⟩ : ∃ LL, L.length = LL := ⟨_, rfl⟩
  rw [hLL] at HM1 HM2 hLp
  have HLE := hide hLL
  have HYA : Hid (∀ j, j < LL → mayP (L.getD j b0).P (L.getD j b0).W (L.getD j b0).B 0 ∧ ∃ oz, (ws (L.getD j b0).W (L.getD j b0).P).sum = ts ∧ (bs (L.getD j b0).B (L.getD j b0).P).sum = oz ∧ os - 4 ≤ oz ∧ oz ≤ os ∧ 0 ≤ oz) := hide (fun j hj => hall _ (by rw [← hLL] at hj; simp [List.getD, hj]))
  have hz : ((LL : Int) == 0) = false := by rw [beq_eq_false_iff_ne]; omega
  obtain ⟨w1, hw1⟩ : ∃ w1, w.alloc (.cells (gmA a 26 c W B 1) 24) = w1 := ⟨_, rfl⟩
  have HB1 : Hid (Below w.heap.size w w1) := hide (by rw [← hw1]; exact (Below.refl _ _).alloc (Nat.le_refl _) _)
  have HG1 : Hid (Gm w1 w.heap.size a 26 c W B 1) := hide (by rw [← hw1]; exact Gm.new _ _ _ _ _ _ _)
  have HR1 := hide (h.mono HB1.out)
  clear h hx hy hm hX0 hY0 hts hos hall hL hLL hX hY
  go_enter Try.func6, Try.ntmps6
  go_upto_region 1 with fail
  clear hw1
  go_wp2_with fail
  refine (start_any _).mono ?_
  rintro r w2 ⟨cb0, cc0, rfl, hR2, hb⟩
  have HS2 := hide hR2
  clear hR2
  have HB2 := hide (HB1.out.trans (hb.mono HB1.out.size))
  have HG2 := hide (HG1.out.below hb HG1.out.lt)
  have HR2 := hide (HR1.out.mono hb)
  clear hb HB1 HG1 HR1
  have HC2 := hide (Moves_start cb0 cc0 w2 HS2.out)
  go_wp2_with fail
  refine HC2.out.mono ?_
  rintro r w3 ⟨ga0, cap0, rfl, hcap0, hcap1, hb⟩
  unfold maxLen at hcap1
  clear HC2 HS2
  have HB3 := hide (HB2.out.trans (hb.mono HB2.out.size))
  have HG3 := hide (HG2.out.below hb HG2.out.lt)
  have HR3 := hide (HR2.out.mono hb)
  clear hb HB2 HG2 HR2
  go_wp2_with fail
  refine (HPX.out _).mono ?_
  rintro r w4 ⟨rfl, hw4⟩
  rw [hw4]
  clear hw4
  go_wp2_with fail
  refine (HPY.out _).mono ?_
  rintro r w5 ⟨rfl, hw5⟩
  rw [hw5]
  clear hw5
  go_wp2_with (refine wpList_load_gm rfl (.tmp 3) rfl w.heap.size rfl HG3.out ?_)
  refine (HM1.out w3 HR3.out).mono ?_
  rintro r w6 ⟨ga, cap, rfl, hL, hb⟩
  have HL6 := hide hL
  clear hL
  have HB6 := hide (HB3.out.trans (hb.mono HB3.out.size))
  have HG6 := hide (HG3.out.below hb HG3.out.lt)
  have HR6 := hide (HR3.out.mono hb)
  clear hb HB3 HG3 HR3
  go_wp2_with (refine wpList_load_gm rfl (.tmp 3) rfl w.heap.size rfl HG6.out ?_)
  refine (HM2.out w6 HR6.out).mono ?_
  rintro r w7 ⟨gc, cap2, rfl, hL, hb⟩
  have HK7 := hide hL
  clear hL
  have HB7 := hide (HB6.out.trans (hb.mono HB6.out.size))
  have HG7 := hide (HG6.out.below hb HG6.out.lt)
  have HR7 := hide (HR6.out.mono hb)
  have HL7 := hide (br_mono HL6.out hb)
  clear hb HB6 HG6 HR6 HL6
  have k1 : LL ≤ cap ∧ cap ≤ 9223372036854775807 := by obtain ⟨-, h1, h2, -⟩ := HL7.out; unfold maxLen at h2; omega
  have k2 : LL ≤ cap2 ∧ cap2 ≤ 9223372036854775807 := by obtain ⟨-, h1, h2, -⟩ := HK7.out; unfold maxLen at h2; omega
  have hll : ((LL : Int) != (LL : Int)) = false := by simp
  go_wp2_with (refine wpList_load_gm rfl (.tmp 3) rfl w.heap.size rfl HG7.out ?_)
  refine (HMN.out w7 HR7.out).mono ?_
  rintro r w8 ⟨rfl, hb⟩
  have HB8 := hide (HB7.out.trans (hb.mono HB7.out.size))
  have HG8 := hide (HG7.out.below hb HG7.out.lt)
  have HR8 := hide (HR7.out.mono hb)
  have HL8 := hide (br_mono HL7.out hb)
  have HK8 := hide (br_mono HK7.out hb)
  clear hb HB7 HG7 HR7 HL7 HK7
  go_wp2_with fail
  go_loopw [16] (fun v wr => ∃ j : Nat, v = .int .i64 j ∧ j ≤ LL ∧ Hid (Below w8.heap.size w8 wr)) (fun v _ => LL - (intOf v).toNat)
  case atStart => exact ⟨0, rfl, by omega, hide (Below.refl _ _)⟩
  case round =>
    obtain ⟨j, rfl, hj, hB⟩ := hrel
    by_cases hlt : j < LL
    · have hlt' : (j : Int) < (LL : Int) := by omega
      have HY := hide (HYA.out j hlt)
      obtain ⟨g1, c1, r1, R1⟩ : ∃ g c, w8.rangeAt ga (j * 4) (bv g c (L.getD j b0) 0) ∧ Rd w8 (some ⟨g, 0, none⟩) 26 c (L.getD j b0).P := by rw [Nat.mul_comm]; exact HL8.out.2.2.2 j (by rw [HLE.out]; exact hlt)
      obtain ⟨g2, c2, r2, R2⟩ : ∃ g c, w8.rangeAt gc (j * 4) (bv g c (L.getD j b0) 0) ∧ Rd w8 (some ⟨g, 0, none⟩) 26 c (L.getD j b0).P := by rw [Nat.mul_comm]; exact HK8.out.2.2.2 j (by rw [HLE.out]; exact hlt)
      obtain ⟨yo, hyo⟩ : ∃ yo, L.getD j b0 = yo := ⟨_, rfl⟩
      rw [hyo] at HY r1 R1 r2 R2
      clear hyo
      obtain ⟨hmy, oz, hws, hbs, hoz⟩ := HY.out
      have hcc1 := R1.max
      have hcc2 := R2.max
      unfold maxLen at hcc1 hcc2
      have hca1 := R1.cap
      have hca2 := R2.cap
      have HRA : Hid (∀ W4, Below wr.heap.size wr W4 → W4.rangeAt ga (j * 4) (bv g1 c1 yo 0)) := hide (fun W4 hb => rng_mono (rng_mono r1 hB.out) hb)
      have HRB : Hid (∀ W4, Below wr.heap.size wr W4 → W4.rangeAt gc (j * 4) (bv g2 c2 yo 0)) := hide (fun W4 hb => rng_mono (rng_mono r2 hB.out) hb)
      have HR1' : Hid (∀ W4, Below wr.heap.size wr W4 → Rd W4 (some ⟨g1, 0, none⟩) 26 c1 yo.P) := hide (fun W4 hb => (R1.mono hB.out).mono hb)
      have HR2' : Hid (∀ W4, Below wr.heap.size wr W4 → Rd W4 (some ⟨g2, 0, none⟩) 26 c2 yo.P) := hide (fun W4 hb => (R2.mono hB.out).mono hb)
      have Gr := HG8.out.below hB.out HG8.out.lt
      have HGR : Hid (∀ W4, Below wr.heap.size wr W4 → Gm W4 w.heap.size a 26 c W B 1) := hide (fun W4 hb => Gr.below hb Gr.lt)
      have HMN2 := hide (men_any (some ⟨g1, 0, none⟩) c1 yo.P yo.W yo.B 0 wr (HR1'.out wr (Below.refl _ _)) (fun z hz => ⟨hmy.low z hz, hmy.high z hz⟩) (men_bd hmy).1 (men_bd hmy).2)
      rw [hws, hbs] at HMN2
      have HMY2 := hide (fun W4 hb => May_any (some ⟨g1, 0, none⟩) 26 c1 yo.P yo.W yo.B 0 W4 (HR1'.out W4 hb) (fun z hz => by have h1 := hmy.low z hz; have h2 := hmy.high z hz; omega))
      rw [show mayG yo.P yo.W yo.B 0 = true from by unfold mayG; exact decide_eq_true hmy] at HMY2
      have HSM : Hid (∀ W4, Below wr.heap.size wr W4 → Calls Try.prog 24 #[.slice (some ⟨g1, 0, none⟩) 26 c1, .slice (some ⟨g2, 0, none⟩) 26 c2] W4 fun e w' => e = .returned (.bool true) ∧ ∃ k, w' = W4.drewN k) := hide (fun W4 hb => by
        have h0 := keepSame_any (some ⟨g1, 0, none⟩) (some ⟨g2, 0, none⟩) 26 c1 26 c2 yo.P yo.P W4 (HR1'.out W4 hb) (HR2'.out W4 hb)
        rw [decide_eq_true rfl] at h0
        exact h0)
      have hrg := HRA.out wr (Below.refl _ _)
      clear hmy hws hbs r1 r2 R1 R2 HY HR1' HR2' Gr
      go_wp2_with (refine wpList_load_bo rfl (.tmp 91) rfl ga (j * 4) rfl hrg ?_)
      refine HMN2.out.mono ?_
      rintro r w9 ⟨rfl, hb⟩
      have HB9 := hide hb
      clear hb hrg HMN2
      obtain ⟨-, -, -, gt⟩ := (HGR.out w9 HB9.out).cells
      go_upto_region 21 with fail
      clear gt
      have HFC : Hid (∀ W4, Below w9.heap.size w9 W4 → W4.cell? ⟨w.heap.size, 3, none⟩ = some (.int .i64 1) ∧ W4.cell? ⟨ga, j * 4, none⟩ = some (.slice (some ⟨g1, 0, none⟩) 26 c1) ∧ W4.cell? ⟨gc, j * 4, none⟩ = some (.slice (some ⟨g2, 0, none⟩) 26 c2) ∧ W4.cell? ⟨ga, j * 4 + 3, none⟩ = some (.int .i64 0)) := hide (fun W4 hb => by
        have hbb := HB9.out.trans (hb.mono HB9.out.size)
        exact ⟨(HGR.out W4 hbb).cells.2.2.2, rng_cell0 (HRA.out W4 hbb), rng_cell0 (HRB.out W4 hbb), rng_cell3 (HRA.out W4 hbb)⟩)
      have HRG : Hid (∀ W4, Below w9.heap.size w9 W4 → W4.rangeAt ga (j * 4) [.slice (some ⟨g1, 0, none⟩) 26 c1, .int .i64 yo.W, .int .i64 yo.B, .int .i64 0]) := hide (fun W4 hb => HRA.out W4 (HB9.out.trans (hb.mono HB9.out.size)))
      refine wp_region_held (S := fun W4 => Below w9.heap.size w9 W4) (by kernel_rfl) ?_
      change wpAnyH _ _ _ _ _ _ _ _ (World.drew _)
      have SW : Below w9.heap.size w9 w9.drew := (Below.refl _ w9).drew
      refine wpAnyH_take (i := 0) (v := .slice (some ⟨ga, 0, none⟩) LL cap) rfl (by kernel_rfl) (by kernel_rfl) (by kernel_rfl) (fun _ _ _ h => h) (Or.inl ⟨by rfl, ?_⟩) SW ?_
      · intro W4 hW4
        go_simp <;> first | done | rfl | (rw [IntKind.wrap_i64]; omega) | omega
      go_simp
      refine wpAnyH_take (i := 1) (v := .int .i64 (j : Nat)) rfl (by kernel_rfl) (by kernel_rfl) (by kernel_rfl) (fun _ _ _ h => h) (Or.inl ⟨by rfl, ?_⟩) SW ?_
      · intro W4 hW4
        go_simp <;> first | done | rfl | (rw [IntKind.wrap_i64]; omega) | omega
      go_simp
      refine wpAnyH_take (i := 2) (v := .pointer (some ⟨ga, j * 4, none⟩)) rfl (by kernel_rfl) (by kernel_rfl) (by kernel_rfl) (fun _ _ _ h => h) (Or.inl ⟨by rfl, ?_⟩) SW ?_
      · intro W4 hW4
        go_simp <;> first | done | rfl | (rw [IntKind.wrap_i64]; omega) | omega
      go_simp
      refine wpAnyH_take (i := 3) (v := .pointer (some ⟨ga, j * 4, none⟩)) rfl (by kernel_rfl) (by kernel_rfl) (by kernel_rfl) (fun _ _ _ h => h) (Or.inl ⟨by rfl, ?_⟩) SW ?_
      · intro W4 hW4
        go_simp <;> first | done | rfl | (rw [IntKind.wrap_i64]; omega) | omega
      go_simp
      refine wpAnyH_take (i := 4) (v := .slice (some ⟨g1, 0, none⟩) 26 c1) rfl (by kernel_rfl) (by kernel_rfl) (by kernel_rfl) (fun _ _ _ h => h) (Or.inl ⟨by rfl, ?_⟩) SW ?_
      · intro W4 hW4
        obtain ⟨x0, x1, x2, x3⟩ := HFC.out W4 hW4
        go_simp <;> first | done | rfl | (rw [IntKind.wrap_i64]; omega) | omega
      go_simp
      refine wpAnyH_take (i := 5) (v := .slice (some ⟨gc, 0, none⟩) LL cap2) rfl (by kernel_rfl) (by kernel_rfl) (by kernel_rfl) (fun _ _ _ h => h) (Or.inl ⟨by rfl, ?_⟩) SW ?_
      · intro W4 hW4
        go_simp <;> first | done | rfl | (rw [IntKind.wrap_i64]; omega) | omega
      go_simp
      refine wpAnyH_take (i := 6) (v := .int .i64 (j : Nat)) rfl (by kernel_rfl) (by kernel_rfl) (by kernel_rfl) (fun _ _ _ h => h) (Or.inl ⟨by rfl, ?_⟩) SW ?_
      · intro W4 hW4
        go_simp <;> first | done | rfl | (rw [IntKind.wrap_i64]; omega) | omega
      go_simp
      refine wpAnyH_take (i := 7) (v := .pointer (some ⟨gc, j * 4, none⟩)) rfl (by kernel_rfl) (by kernel_rfl) (by kernel_rfl) (fun _ _ _ h => h) (Or.inl ⟨by rfl, ?_⟩) SW ?_
      · intro W4 hW4
        go_simp <;> first | done | rfl | (rw [IntKind.wrap_i64]; omega) | omega
      go_simp
      refine wpAnyH_take (i := 8) (v := .pointer (some ⟨gc, j * 4, none⟩)) rfl (by kernel_rfl) (by kernel_rfl) (by kernel_rfl) (fun _ _ _ h => h) (Or.inl ⟨by rfl, ?_⟩) SW ?_
      · intro W4 hW4
        go_simp <;> first | done | rfl | (rw [IntKind.wrap_i64]; omega) | omega
      go_simp
      refine wpAnyH_take (i := 9) (v := .slice (some ⟨g2, 0, none⟩) 26 c2) rfl (by kernel_rfl) (by kernel_rfl) (by kernel_rfl) (fun _ _ _ h => h) (Or.inl ⟨by rfl, ?_⟩) SW ?_
      · intro W4 hW4
        obtain ⟨x0, x1, x2, x3⟩ := HFC.out W4 hW4
        go_simp <;> first | done | rfl | (rw [IntKind.wrap_i64]; omega) | omega
      go_simp
      refine wpAnyH_ready (rs := [10]) (by kernel_rfl) (by simp) ?_
      refine AllReadyH.cons rfl (fun K1 hK1 => ?_) AllReadyH.nil
      go_simp
      refine (HSM.out _ (HB9.out.trans (SW.mono HB9.out.size))).mono ?_
      rintro r w10 ⟨rfl, q, hq⟩
      have B10 : Below w9.heap.size w9 w10 := by rw [hq]; exact SW.trans (drewN_below w9.heap.size _ q)
      clear hq
      refine hK1.out _ _ B10 (fun SW => ?_)
      clear hK1 K1
      go_simp
      refine wpAnyH_take (i := 11) (v := .bool false) rfl (by kernel_rfl) (by kernel_rfl) (by kernel_rfl) (fun _ _ _ h => h) (Or.inl ⟨by rfl, ?_⟩) SW ?_
      · intro W4 hW4
        go_simp <;> first | done | rfl | (rw [IntKind.wrap_i64]; omega) | omega
      go_simp
      refine wpAnyH_take (i := 12) (v := .bool false) rfl (by kernel_rfl) (by kernel_rfl) (by kernel_rfl) (fun _ _ _ h => h) (Or.inl ⟨by rfl, ?_⟩) SW ?_
      · intro W4 hW4
        go_simp <;> first | done | rfl | (rw [IntKind.wrap_i64]; omega) | omega
      go_simp
      refine wpAnyH_take (i := 13) (v := .slice (some ⟨ga, 0, none⟩) LL cap) rfl (by kernel_rfl) (by kernel_rfl) (by kernel_rfl) (fun _ _ _ h => h) (Or.inl ⟨by rfl, ?_⟩) SW ?_
      · intro W4 hW4
        go_simp <;> first | done | rfl | (rw [IntKind.wrap_i64]; omega) | omega
      go_simp
      refine wpAnyH_take (i := 14) (v := .int .i64 (j : Nat)) rfl (by kernel_rfl) (by kernel_rfl) (by kernel_rfl) (fun _ _ _ h => h) (Or.inl ⟨by rfl, ?_⟩) SW ?_
      · intro W4 hW4
        go_simp <;> first | done | rfl | (rw [IntKind.wrap_i64]; omega) | omega
      go_simp
      refine wpAnyH_take (i := 15) (v := .pointer (some ⟨ga, j * 4, none⟩)) rfl (by kernel_rfl) (by kernel_rfl) (by kernel_rfl) (fun _ _ _ h => h) (Or.inl ⟨by rfl, ?_⟩) SW ?_
      · intro W4 hW4
        go_simp <;> first | done | rfl | (rw [IntKind.wrap_i64]; omega) | omega
      go_simp
      refine wpAnyH_take (i := 16) (v := .agg (gmA (some ⟨g1, 0, none⟩) 26 c1 yo.W yo.B 0)) rfl (by kernel_rfl) (by kernel_rfl) (by kernel_rfl) (fun _ _ _ h => h) (yieldsIf_load_mid (by rfl) 24 _ rfl ga (j * 4) (by rfl) [.slice (some ⟨g1, 0, none⟩) 26 c1, .int .i64 yo.W, .int .i64 yo.B, .int .i64 0] _ (fun W hW => HRG.out W hW) Try.underlying24 rfl size24) SW ?_
      go_simp
      refine wpAnyH_ready (rs := [17]) (by kernel_rfl) (by simp) ?_
      refine AllReadyH.cons rfl (fun K1 hK1 => ?_) AllReadyH.nil
      go_simp
      refine (HMY2.out _ (HB9.out.trans (SW.mono HB9.out.size))).mono ?_
      rintro r w11 ⟨rfl, hb11⟩
      have B11 := B10.trans (hb11.mono B10.size)
      refine hK1.out _ _ B11 (fun SW => ?_)
      clear hK1 K1
      go_simp
      refine wpAnyH_take (i := 18) (v := .bool false) rfl (by kernel_rfl) (by kernel_rfl) (by kernel_rfl) (fun _ _ _ h => h) (Or.inl ⟨by rfl, ?_⟩) SW ?_
      · intro W4 hW4
        go_simp <;> first | done | rfl | (rw [IntKind.wrap_i64]; omega) | omega
      go_simp
      refine wpAnyH_take (i := 19) (v := .bool false) rfl (by kernel_rfl) (by kernel_rfl) (by kernel_rfl) (fun _ _ _ h => h) (Or.inl ⟨by rfl, ?_⟩) SW ?_
      · intro W4 hW4
        go_simp <;> first | done | rfl | (rw [IntKind.wrap_i64]; omega) | omega
      go_simp
      refine wpAnyH_take (i := 20) (v := .bool false) rfl (by kernel_rfl) (by kernel_rfl) (by kernel_rfl) (fun _ _ _ h => h) (Or.inl ⟨by rfl, ?_⟩) SW ?_
      · intro W4 hW4
        go_simp <;> first | done | rfl | (rw [IntKind.wrap_i64]; omega) | omega
      go_simp
      refine wpAnyH_take (i := 21) (v := .slice (some ⟨ga, 0, none⟩) LL cap) rfl (by kernel_rfl) (by kernel_rfl) (by kernel_rfl) (fun _ _ _ h => h) (Or.inl ⟨by rfl, ?_⟩) SW ?_
      · intro W4 hW4
        go_simp <;> first | done | rfl | (rw [IntKind.wrap_i64]; omega) | omega
      go_simp
      refine wpAnyH_take (i := 22) (v := .int .i64 (j : Nat)) rfl (by kernel_rfl) (by kernel_rfl) (by kernel_rfl) (fun _ _ _ h => h) (Or.inl ⟨by rfl, ?_⟩) SW ?_
      · intro W4 hW4
        go_simp <;> first | done | rfl | (rw [IntKind.wrap_i64]; omega) | omega
      go_simp
      refine wpAnyH_take (i := 23) (v := .pointer (some ⟨ga, j * 4, none⟩)) rfl (by kernel_rfl) (by kernel_rfl) (by kernel_rfl) (fun _ _ _ h => h) (Or.inl ⟨by rfl, ?_⟩) SW ?_
      · intro W4 hW4
        go_simp <;> first | done | rfl | (rw [IntKind.wrap_i64]; omega) | omega
      go_simp
      refine wpAnyH_take (i := 24) (v := .pointer (some ⟨ga, j * 4 + 3, none⟩)) rfl (by kernel_rfl) (by kernel_rfl) (by kernel_rfl) (fun _ _ _ h => h) (Or.inl ⟨by rfl, ?_⟩) SW ?_
      · intro W4 hW4
        go_simp <;> first | done | rfl | (rw [IntKind.wrap_i64]; omega) | omega
      go_simp
      refine wpAnyH_take (i := 25) (v := .int .i64 0) rfl (by kernel_rfl) (by kernel_rfl) (by kernel_rfl) (fun _ _ _ h => h) (Or.inl ⟨by rfl, ?_⟩) SW ?_
      · intro W4 hW4
        obtain ⟨x0, x1, x2, x3⟩ := HFC.out W4 hW4
        go_simp <;> first | done | rfl | (rw [IntKind.wrap_i64]; omega) | omega
      go_simp
      refine wpAnyH_take (i := 26) (v := .pointer (some ⟨w.heap.size, 3, none⟩)) rfl (by kernel_rfl) (by kernel_rfl) (by kernel_rfl) (fun _ _ _ h => h) (Or.inl ⟨by rfl, ?_⟩) SW ?_
      · intro W4 hW4
        go_simp <;> first | done | rfl | (rw [IntKind.wrap_i64]; omega) | omega
      go_simp
      refine wpAnyH_take (i := 27) (v := .int .i64 1) rfl (by kernel_rfl) (by kernel_rfl) (by kernel_rfl) (fun _ _ _ h => h) (Or.inl ⟨by rfl, ?_⟩) SW ?_
      · intro W4 hW4
        obtain ⟨x0, x1, x2, x3⟩ := HFC.out W4 hW4
        go_simp <;> first | done | rfl | (rw [IntKind.wrap_i64]; omega) | omega
      go_simp
      refine wpAnyH_take (i := 28) (v := .bool false) rfl (by kernel_rfl) (by kernel_rfl) (by kernel_rfl) (fun _ _ _ h => h) (Or.inl ⟨by rfl, ?_⟩) SW ?_
      · intro W4 hW4
        go_simp <;> first | done | rfl | (rw [IntKind.wrap_i64]; omega) | omega
      go_simp
      refine wpAnyH_take (i := 29) (v := .bool false) rfl (by kernel_rfl) (by kernel_rfl) (by kernel_rfl) (fun _ _ _ h => h) (Or.inl ⟨by rfl, ?_⟩) SW ?_
      · intro W4 hW4
        go_simp <;> first | done | rfl | (rw [IntKind.wrap_i64]; omega) | omega
      go_simp
      refine wpAnyH_take (i := 30) (v := .bool false) rfl (by kernel_rfl) (by kernel_rfl) (by kernel_rfl) (fun _ _ _ h => h) (Or.inl ⟨by rfl, ?_⟩) SW ?_
      · intro W4 hW4
        go_simp <;> first | done | rfl | (rw [IntKind.wrap_i64]; omega) | omega
      go_simp
      refine wpAnyH_take (i := 31) (v := .int .i64 ts) rfl (by kernel_rfl) (by kernel_rfl) (by kernel_rfl) (fun _ _ _ h => h) (Or.inl ⟨by rfl, ?_⟩) SW ?_
      · intro W4 hW4
        go_simp <;> first | done | rfl | (rw [IntKind.wrap_i64]; omega) | omega
      go_simp
      refine wpAnyH_take (i := 32) (v := .int .i64 ts) rfl (by kernel_rfl) (by kernel_rfl) (by kernel_rfl) (fun _ _ _ h => h) (Or.inl ⟨by rfl, ?_⟩) SW ?_
      · intro W4 hW4
        go_simp <;> first | done | rfl | (rw [IntKind.wrap_i64]; omega) | omega
      go_simp
      refine wpAnyH_take (i := 33) (v := .bool false) rfl (by kernel_rfl) (by kernel_rfl) (by kernel_rfl) (fun _ _ _ h => h) (Or.inl ⟨by rfl, ?_⟩) SW ?_
      · intro W4 hW4
        go_simp <;> first | done | rfl | (rw [IntKind.wrap_i64]; omega) | omega
      go_simp
      refine wpAnyH_take (i := 34) (v := .bool false) rfl (by kernel_rfl) (by kernel_rfl) (by kernel_rfl) (fun _ _ _ h => h) (Or.inl ⟨by rfl, ?_⟩) SW ?_
      · intro W4 hW4
        go_simp <;> first | done | rfl | (rw [IntKind.wrap_i64]; omega) | omega
      go_simp
      refine wpAnyH_take (i := 35) (v := .bool false) rfl (by kernel_rfl) (by kernel_rfl) (by kernel_rfl) (fun _ _ _ h => h) (Or.inl ⟨by rfl, ?_⟩) SW ?_
      · intro W4 hW4
        go_simp <;> first | done | rfl | (rw [IntKind.wrap_i64]; omega) | omega
      go_simp
      refine wpAnyH_take (i := 36) (v := .int .i64 oz) rfl (by kernel_rfl) (by kernel_rfl) (by kernel_rfl) (fun _ _ _ h => h) (Or.inl ⟨by rfl, ?_⟩) SW ?_
      · intro W4 hW4
        go_simp <;> first | done | rfl | (rw [IntKind.wrap_i64]; omega) | omega
      go_simp
      refine wpAnyH_take (i := 37) (v := .int .i64 os) rfl (by kernel_rfl) (by kernel_rfl) (by kernel_rfl) (fun _ _ _ h => h) (Or.inl ⟨by rfl, ?_⟩) SW ?_
      · intro W4 hW4
        go_simp <;> first | done | rfl | (rw [IntKind.wrap_i64]; omega) | omega
      go_simp
      refine wpAnyH_take (i := 38) (v := .bool false) rfl (by kernel_rfl) (by kernel_rfl) (by kernel_rfl) (fun _ _ _ h => h) (Or.inl ⟨by rfl, ?_⟩) SW ?_
      · intro W4 hW4
        have q0 : ¬ oz > os := by omega
        go_simp <;> first | done | rfl | (rw [IntKind.wrap_i64]; omega) | omega
      go_simp
      refine wpAnyH_take (i := 39) (v := .bool false) rfl (by kernel_rfl) (by kernel_rfl) (by kernel_rfl) (fun _ _ _ h => h) (Or.inl ⟨by rfl, ?_⟩) SW ?_
      · intro W4 hW4
        go_simp <;> first | done | rfl | (rw [IntKind.wrap_i64]; omega) | omega
      go_simp
      refine wpAnyH_take (i := 40) (v := .bool false) rfl (by kernel_rfl) (by kernel_rfl) (by kernel_rfl) (fun _ _ _ h => h) (Or.inl ⟨by rfl, ?_⟩) SW ?_
      · intro W4 hW4
        go_simp <;> first | done | rfl | (rw [IntKind.wrap_i64]; omega) | omega
      go_simp
      refine wpAnyH_take (i := 41) (v := .int .i64 oz) rfl (by kernel_rfl) (by kernel_rfl) (by kernel_rfl) (fun _ _ _ h => h) (Or.inl ⟨by rfl, ?_⟩) SW ?_
      · intro W4 hW4
        go_simp <;> first | done | rfl | (rw [IntKind.wrap_i64]; omega) | omega
      go_simp
      refine wpAnyH_take (i := 42) (v := .int .i64 os) rfl (by kernel_rfl) (by kernel_rfl) (by kernel_rfl) (fun _ _ _ h => h) (Or.inl ⟨by rfl, ?_⟩) SW ?_
      · intro W4 hW4
        go_simp <;> first | done | rfl | (rw [IntKind.wrap_i64]; omega) | omega
      go_simp
      refine wpAnyH_take (i := 43) (v := .int .i64 (os - 4)) rfl (by kernel_rfl) (by kernel_rfl) (by kernel_rfl) (fun _ _ _ h => h) (Or.inl ⟨by rfl, ?_⟩) SW ?_
      · intro W4 hW4
        go_simp <;> first | done | rfl | (rw [IntKind.wrap_i64]; omega) | omega
      go_simp
      refine wpAnyH_take (i := 44) (v := .bool false) rfl (by kernel_rfl) (by kernel_rfl) (by kernel_rfl) (fun _ _ _ h => h) (Or.inl ⟨by rfl, ?_⟩) SW ?_
      · intro W4 hW4
        have q0 : ¬ oz < os - 4 := by omega
        go_simp <;> first | done | rfl | (rw [IntKind.wrap_i64]; omega) | omega
      go_simp
      refine wpAnyH_take (i := 45) (v := .bool false) rfl (by kernel_rfl) (by kernel_rfl) (by kernel_rfl) (fun _ _ _ h => h) (Or.inl ⟨by rfl, ?_⟩) SW ?_
      · intro W4 hW4
        go_simp <;> first | done | rfl | (rw [IntKind.wrap_i64]; omega) | omega
      go_simp
      refine wpAnyH_done (by kernel_rfl) ?_ _
      have HB11 := hide (hB.out.trans ((HB9.out.trans (B11.mono HB9.out.size)).mono hB.out.size))
      clear SW B11 B10 hb11 HFC HRG
      go_wp2_with fail
      exact ⟨⟨j + 1, by go_num, by omega, HB11⟩, by simp [intOf]; omega⟩
    · have hlt' : ¬ (j : Int) < (LL : Int) := by omega
      go_wp2_with fail
      go_ret
      exact ⟨rfl, HB8.out.trans (hB.out.mono HB8.out.size)⟩


theorem men_all (a : Option Addr) (n c : Nat) (P : List Int) (W B T : Int) (x y : Int) (w : World) (h : Rd w a n c P) (hP : ∀ z ∈ P, -9223372036854775808 ≤ z ∧ z ≤ 9223372036854775807) (hx : -9223372036854775808 ≤ x ∧ x ≤ 9223372036854775807) (hy : -9223372036854775808 ≤ y ∧ y ≤ 9223372036854775807) :
    Calls Try.prog 6 #[.agg (gmA a n c W B T), .int .i64 x, .int .i64 y] w fun e w' => e = .returned (.bool true) ∧ Below w.heap.size w w' := by
  by_cases hm : mayG P W B T = false
  · exact men_state a n c P W B T x y w h hP hx hy hm
  · have hm' : mayP P W B T := by
      have h1 : mayG P W B T = true := by simpa using hm
      unfold mayG at h1
      exact of_decide_eq_true h1
    obtain rfl : n = 26 := by rw [← h.len]; exact hm'.1
    rcases hm'.2.2.2.2.2.1 with rfl | rfl
    · exact men_yes0 a c P W B x y w h hx hy hm'
    · exact men_yes1 a c P W B x y w h hx hy hm'

end Go.Proofs.Ytmboikpcbkiepaa
