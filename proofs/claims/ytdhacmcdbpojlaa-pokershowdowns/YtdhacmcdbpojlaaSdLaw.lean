/-
  The law 'PokerShowdowns': every way through it ends with true. No conditions beyond those that each theorem bears.
-/
import Derived.Test.YtdhacmcdbpojlaaSdMath
import Derived.Test.YtdhacmcdbpojlaaDuelNo
import Derived.Test.YtdhacmcdbpojlaaValuesLaw
namespace Go.Proofs.Ytdhacmcdbpojlaa
open Go.RowKit Go.Shelf

theorem split_ok {z1 z2 z3 : List Int} (h : mayE (z1 ++ z2 ++ z3) = 0) : ∃ A E D : List Nat, z1 = toI A ∧ z2 = toI E ∧ z3 = toI D ∧ (∀ x ∈ A ++ E ++ D, x < 52) ∧ (A ++ E ++ D).Nodup := by
  have hr : inRange (z1 ++ z2 ++ z3) = true := by
    cases e : inRange (z1 ++ z2 ++ z3) with
    | true => rfl
    | false => rw [mayE, e, if_neg (by simp)] at h; omega
  have hn : (z1 ++ z2 ++ z3).Nodup := by
    apply Classical.byContradiction
    intro hn
    rw [mayE, if_pos hr, if_neg hn] at h
    omega
  have hr' := hr
  unfold inRange at hr'
  rw [List.all_append, List.all_append, Bool.and_eq_true, Bool.and_eq_true] at hr'
  have e1 := toI_natL (zs := z1) hr'.1.1
  have e2 := toI_natL (zs := z2) hr'.1.2
  have e3 := toI_natL (zs := z3) hr'.2
  have eL : toI (natL z1 ++ natL z2 ++ natL z3) = z1 ++ z2 ++ z3 := by rw [toI_ap, toI_ap, e1, e2, e3]
  refine ⟨natL z1, natL z2, natL z3, e1.symm, e2.symm, e3.symm, fun x hx => ?_, ?_⟩
  · have hm : (x : Int) ∈ z1 ++ z2 ++ z3 := by rw [← eL]; exact List.mem_map.2 ⟨x, hx, rfl⟩
    unfold inRange at hr
    have := List.all_eq_true.1 hr _ hm
    simp only [decide_eq_true_eq] at this
    omega
  · rw [← eL, toI, List.Nodup, List.pairwise_map] at hn
    exact hn.imp (fun hne e => hne (by rw [e]))

set_option maxRecDepth 100000 in
set_option maxHeartbeats 8000000 in
theorem showdowns_len (a1 a2 a3 : Option Addr) (n1 n2 n3 c1 c2 c3 : Nat) (z1 z2 z3 : List Int) (hno : ¬ (n1 = 2 ∧ n2 = 2 ∧ 3 ≤ n3 ∧ n3 ≤ 5)) (w : World) (h1 : Rd w a1 n1 c1 z1) (h2 : Rd w a2 n2 c2 z2) (h3 : Rd w a3 n3 c3 z3) (r1 : n1 * 8 ≤ 140737488351232) (r2 : n2 * 8 ≤ 140737488351232) (r3 : n3 * 8 ≤ 140737488351232) :
    Calls Try.prog 5 #[.slice a1 n1 c1, .slice a2 n2 c2, .slice a3 n3 c3] w fun e w' => e = .returned (.bool true) ∧ Below w.heap.size w w' := by
  have HR1 : Hid (∀ W, Below w.heap.size w W → Rd W a1 n1 c1 z1) := hide (fun W hW => h1.mono hW)
  have HR2 : Hid (∀ W, Below w.heap.size w W → Rd W a2 n2 c2 z2) := hide (fun W hW => h2.mono hW)
  have HR3 : Hid (∀ W, Below w.heap.size w W → Rd W a3 n3 c3 z3) := hide (fun W hW => h3.mono hW)
  have m1 := h1.max
  have m2 := h2.max
  have m3 := h3.max
  have k1 := h1.cap
  have k2 := h2.cap
  have k3 := h3.cap
  unfold maxLen at m1 m2 m3
  clear h1 h2 h3
  go_enter Try.func5, Try.ntmps5
  go_wp2_with fail
  refine (ints_any a1 n1 c1 z1 w (HR1.out _ (Below.refl _ _)) r1).mono ?_
  rintro e w1 ⟨b1, d1, rfl, hQ1, hB1⟩
  have HB1 := hide hB1
  have HQ1 := hide hQ1
  clear hQ1 hB1
  go_wp2_with fail
  refine (ints_any a2 n2 c2 z2 w1 (HR2.out _ HB1.out) r2).mono ?_
  rintro e w2 ⟨b2, d2, rfl, hQ2, hB2⟩
  have HB2 := hide (HB1.out.trans (hB2.mono HB1.out.size))
  have HQ12 := hide (HQ1.out.mono hB2)
  have HQ2 := hide hQ2
  clear hQ2 hB2 HQ1 HB1
  go_wp2_with fail
  refine (ints_any a3 n3 c3 z3 w2 (HR3.out _ HB2.out) r3).mono ?_
  rintro e w3 ⟨b3, d3, rfl, hQ3, hB3⟩
  have HB3 := hide (HB2.out.trans (hB3.mono HB2.out.size))
  have HQ13 := hide (HQ12.out.mono hB3)
  have HQ23 := hide (HQ2.out.mono hB3)
  have HQ3 := hide hQ3
  clear hQ3 hB3 HQ12 HQ2 HB2
  go_wp2_with fail
  refine (Showdown_len b1 b2 b3 n1 n2 n3 d1 d2 d3 hno w3).mono ?_
  rintro e w4 ⟨rfl, hB4⟩
  have HB4 := hide (HB3.out.trans (hB4.mono HB3.out.size))
  clear hB4
  by_cases h1 : n1 = 2
  · have q1 : ((n1 : Int) == 2) = true := by simp; omega
    by_cases h2 : n2 = 2
    · have q2 : ((n2 : Int) == 2) = true := by simp; omega
      by_cases h3 : n3 < 3
      · have q3 : ¬ (3 : Int) ≤ (n3 : Int) := by omega
        have q3' : decide ((3 : Int) ≤ (n3 : Int)) = false := by simp; omega
        clear h1 h2 h3 hno
        go_wp2_with fail
        go_ret
        exact ⟨rfl, HB4.out⟩
      · have q3 : (3 : Int) ≤ (n3 : Int) := by omega
        have q4 : ¬ (n3 : Int) ≤ 5 := by omega
        have q4' : decide ((n3 : Int) ≤ 5) = false := by simp; omega
        clear h1 h2 h3 hno
        go_wp2_with fail
        go_ret
        exact ⟨rfl, HB4.out⟩
    · have q2 : ((n2 : Int) == 2) = false := by simp; omega
      clear h1 h2 hno
      go_wp2_with fail
      go_ret
      exact ⟨rfl, HB4.out⟩
  · have q1 : ((n1 : Int) == 2) = false := by simp; omega
    clear h1 hno
    go_wp2_with fail
    go_ret
    exact ⟨rfl, HB4.out⟩

set_option maxRecDepth 100000 in
set_option maxHeartbeats 8000000 in
theorem showdowns_bad3 (a1 a2 a3 : Option Addr) (c1 c2 c3 : Nat) (z1 z2 z3 : List Int) (h0 : mayE (z1 ++ z2 ++ z3) ≠ 0) (w : World) (h1 : Rd w a1 2 c1 z1) (h2 : Rd w a2 2 c2 z2) (h3 : Rd w a3 3 c3 z3) (r1 : 2 * 8 ≤ 140737488351232) (r2 : 2 * 8 ≤ 140737488351232) (r3 : 3 * 8 ≤ 140737488351232) :
    Calls Try.prog 5 #[.slice a1 2 c1, .slice a2 2 c2, .slice a3 3 c3] w fun e w' => e = .returned (.bool true) ∧ Below w.heap.size w w' := by
  have HR1 : Hid (∀ W, Below w.heap.size w W → Rd W a1 2 c1 z1) := hide (fun W hW => h1.mono hW)
  have HR2 : Hid (∀ W, Below w.heap.size w W → Rd W a2 2 c2 z2) := hide (fun W hW => h2.mono hW)
  have HR3 : Hid (∀ W, Below w.heap.size w W → Rd W a3 3 c3 z3) := hide (fun W hW => h3.mono hW)
  have m1 := h1.max
  have m2 := h2.max
  have m3 := h3.max
  have k1 := h1.cap
  have k2 := h2.cap
  have k3 := h3.cap
  unfold maxLen at m1 m2 m3
  clear h1 h2 h3
  go_enter Try.func5, Try.ntmps5
  go_wp2_with fail
  refine (ints_any a1 2 c1 z1 w (HR1.out _ (Below.refl _ _)) r1).mono ?_
  rintro e w1 ⟨b1, d1, rfl, hQ1, hB1⟩
  have HB1 := hide hB1
  have HQ1 := hide hQ1
  clear hQ1 hB1
  go_wp2_with fail
  refine (ints_any a2 2 c2 z2 w1 (HR2.out _ HB1.out) r2).mono ?_
  rintro e w2 ⟨b2, d2, rfl, hQ2, hB2⟩
  have HB2 := hide (HB1.out.trans (hB2.mono HB1.out.size))
  have HQ12 := hide (HQ1.out.mono hB2)
  have HQ2 := hide hQ2
  clear hQ2 hB2 HQ1 HB1
  go_wp2_with fail
  refine (ints_any a3 3 c3 z3 w2 (HR3.out _ HB2.out) r3).mono ?_
  rintro e w3 ⟨b3, d3, rfl, hQ3, hB3⟩
  have HB3 := hide (HB2.out.trans (hB3.mono HB2.out.size))
  have HQ13 := hide (HQ12.out.mono hB3)
  have HQ23 := hide (HQ2.out.mono hB3)
  have HQ3 := hide hQ3
  clear hQ3 hB3 HQ12 HQ2 HB2
  go_wp2_with fail
  refine (Showdown_bad b1 b2 b3 d1 d2 d3 3 z1 z2 z3 (by omega) (by omega) w3 HQ13.out HQ23.out HQ3.out h0).mono ?_
  rintro e w4 ⟨rfl, hB4⟩
  have HB4 := hide (HB3.out.trans (hB4.mono HB3.out.size))
  clear hB4 HQ13 HQ23 HQ3
  obtain ⟨y, hy⟩ : ∃ y, mayE (z1 ++ z2 ++ z3) = y := ⟨_, rfl⟩
  rw [hy] at h0 ⊢
  have HY := hide hy
  have hq : (y != 0) = true := by simpa using h0
  have hq' : (y == 0) = false := by simpa using h0
  clear hy
  go_wp2_with fail
  refine (ints_own a1 2 c1 z1 _ (HR1.out _ HB4.out) (by omega)).mono ?_
  rintro e w5 ⟨b5, d5, rfl, hO5, hB5⟩
  have HO5 := hide hO5
  have HB5 := hide (HB4.out.trans (hB5.mono HB4.out.size))
  have HX5 := hide hB5
  clear hO5 hB5
  go_wp2_with (at_builtin; refine wpList_append_rd _ rfl (.tmp 46) (.tmp 47) rfl w4.heap.size _ 2 z1 rfl HO5.out a2 2 c2 z2 rfl (HR2.out _ HB5.out) (by omega) HX5.out.size ?_)
  intro v6 w6 hO6 hG6
  obtain ⟨b6, d6, hv6⟩ := form_slice hO6
  rw [hv6] at hO6 ⊢
  have HX6 := hide (HX5.out.grown hG6 HX5.out.size (fun q hq => (HO5.out.lt q hq).1))
  have HB6 := hide (HB4.out.trans (HX6.out.mono HB4.out.size))
  have HO6 : Hid (w6.ownsRow w4.heap.size 3 1 (.slice b6 4 d6) 4 ((z1 ++ z2).map (Value.int .i64))) := hide (by first | exact hO6 | (rw [List.map_append]; exact hO6))
  clear hO6 hG6 hv6
  go_wp2_with (at_builtin; refine wpList_append_rd _ rfl (.tmp 48) (.tmp 49) rfl w4.heap.size _ 4 (z1 ++ z2) rfl HO6.out a3 3 c3 z3 rfl (HR3.out _ HB6.out) (by omega) HX6.out.size ?_)
  intro v7 w7 hO7 hG7
  obtain ⟨b7, d7, hv7⟩ := form_slice hO7
  rw [hv7] at hO7 ⊢
  have HX7 := hide (HX6.out.grown hG7 HX6.out.size (fun q hq => (HO6.out.lt q hq).1))
  have HB7 := hide (HB4.out.trans (HX7.out.mono HB4.out.size))
  have HR7 : Hid (Rd w7 b7 7 d7 (z1 ++ z2 ++ z3)) := hide (Rd.of_own (by first | exact hO7 | (rw [List.map_append]; exact hO7) | (rw [List.map_append, List.map_append]; exact hO7) | (simp only [List.map_append, List.append_assoc] at hO7 ⊢; exact hO7)))
  clear hO7 hG7 hv7
  go_wp2_with fail
  refine (CardsMay_any b7 7 d7 (z1 ++ z2 ++ z3) w7 HR7.out).mono ?_
  rintro e w8 ⟨rfl, q8, hw8⟩
  have HB8 : Hid (Below w.heap.size w w8) := hide (by rw [hw8]; exact HB7.out.trans ((drewN_below _ w7 _).mono HB7.out.size))
  clear hw8 HB5 HX5 HB6 HX6 HB7 HX7 HO5 HO6 HR7
  rw [HY.out]
  go_wp2_with fail
  go_ret
  exact ⟨rfl, HB8.out⟩

set_option maxRecDepth 100000 in
set_option maxHeartbeats 8000000 in
theorem showdowns_ok3 (a1 a2 a3 : Option Addr) (c1 c2 c3 : Nat) (z1 z2 z3 : List Int) (h0 : mayE (z1 ++ z2 ++ z3) = 0) (w : World) (h1 : Rd w a1 2 c1 z1) (h2 : Rd w a2 2 c2 z2) (h3 : Rd w a3 3 c3 z3) (r1 : 2 * 8 ≤ 140737488351232) (r2 : 2 * 8 ≤ 140737488351232) (r3 : 3 * 8 ≤ 140737488351232) :
    Calls Try.prog 5 #[.slice a1 2 c1, .slice a2 2 c2, .slice a3 3 c3] w fun e w' => e = .returned (.bool true) ∧ Below w.heap.size w w' := by
  obtain ⟨A, E, D, rfl, rfl, rfl, hlt, hnd⟩ := split_ok h0
  have hA : A.length = 2 := by have := h1.len; rwa [toI_length] at this
  have hE : E.length = 2 := by have := h2.len; rwa [toI_length] at this
  have hD : D.length = 3 := by have := h3.len; rwa [toI_length] at this
  obtain ⟨s1, s2, s3⟩ := sd3 hA hE hD (othK (toI (A ++ E ++ D)) 52)
  obtain ⟨nw, hnw⟩ : ∃ n, winF A E D (fillsF 3 (othK (toI (A ++ E ++ D)) 52)) = n := ⟨_, rfl⟩
  obtain ⟨nt, hnt⟩ : ∃ n, tieF A E D (fillsF 3 (othK (toI (A ++ E ++ D)) 52)) = n := ⟨_, rfl⟩
  obtain ⟨np, hnp⟩ : ∃ n, (fillsF 3 (othK (toI (A ++ E ++ D)) 52)).length = n := ⟨_, rfl⟩
  have SD : Hid (∀ b1 b2 b3 d1 d2 d3 w3, Rd w3 b1 2 d1 (toI A) → Rd w3 b2 2 d2 (toI E) → Rd w3 b3 3 d3 (toI D) → Calls Try.prog 17 #[.slice b1 2 d1, .slice b2 2 d2, .slice b3 3 d3] w3 fun e w' => e = .returned (.tuple #[.int .i64 (nw : Nat), .int .i64 (nt : Nat), .int .i64 (np : Nat), .int .i64 0]) ∧ Below w3.heap.size w3 w') := hide (fun b1 b2 b3 d1 d2 d3 w3 q1 q2 q3 => by
    have h := Showdown_three b1 b2 b3 d1 d2 d3 3 A E D hA hE hD (by omega) hlt hnd w3 q1 q2 q3
    rw [show 5 - 3 = 2 from rfl, s1, s2, s3, hnw, hnt, hnp] at h
    exact h)
  have SR : Hid (∀ w3, Rd w3 a1 2 c1 (toI A) → Rd w3 a2 2 c2 (toI E) → Rd w3 a3 3 c3 (toI D) → Calls Try.prog 18 #[.slice a1 2 c1, .slice a2 2 c2, .slice a3 3 c3] w3 fun e w' => e = .returned (.tuple #[.int .i64 (nw : Nat), .int .i64 (nt : Nat), .int .i64 (np : Nat)]) ∧ Below w3.heap.size w3 w') := hide (fun w3 q1 q2 q3 => by
    have h := SdOf3 a1 a2 a3 c1 c2 c3 A E D hA hE hD hlt hnd w3 q1 q2 q3
    rw [hnw, hnt, hnp] at h
    exact h)
  have H0 := hide h0
  clear s1 s2 s3 hnw hnt hnp hlt hnd h0 hA hE hD
  have HR1 : Hid (∀ W, Below w.heap.size w W → Rd W a1 2 c1 (toI A)) := hide (fun W hW => h1.mono hW)
  have HR2 : Hid (∀ W, Below w.heap.size w W → Rd W a2 2 c2 (toI E)) := hide (fun W hW => h2.mono hW)
  have HR3 : Hid (∀ W, Below w.heap.size w W → Rd W a3 3 c3 (toI D)) := hide (fun W hW => h3.mono hW)
  have m1 := h1.max
  have m2 := h2.max
  have m3 := h3.max
  have k1 := h1.cap
  have k2 := h2.cap
  have k3 := h3.cap
  unfold maxLen at m1 m2 m3
  clear h1 h2 h3
  go_enter Try.func5, Try.ntmps5
  go_wp2_with fail
  refine (ints_any a1 2 c1 (toI A) w (HR1.out _ (Below.refl _ _)) r1).mono ?_
  rintro e w1 ⟨b1, d1, rfl, hQ1, hB1⟩
  have HB1 := hide hB1
  have HQ1 := hide hQ1
  clear hQ1 hB1
  go_wp2_with fail
  refine (ints_any a2 2 c2 (toI E) w1 (HR2.out _ HB1.out) r2).mono ?_
  rintro e w2 ⟨b2, d2, rfl, hQ2, hB2⟩
  have HB2 := hide (HB1.out.trans (hB2.mono HB1.out.size))
  have HQ12 := hide (HQ1.out.mono hB2)
  have HQ2 := hide hQ2
  clear hQ2 hB2 HQ1 HB1
  go_wp2_with fail
  refine (ints_any a3 3 c3 (toI D) w2 (HR3.out _ HB2.out) r3).mono ?_
  rintro e w3 ⟨b3, d3, rfl, hQ3, hB3⟩
  have HB3 := hide (HB2.out.trans (hB3.mono HB2.out.size))
  have HQ13 := hide (HQ12.out.mono hB3)
  have HQ23 := hide (HQ2.out.mono hB3)
  have HQ3 := hide hQ3
  clear hQ3 hB3 HQ12 HQ2 HB2
  go_wp2_with fail
  refine (SD.out b1 b2 b3 d1 d2 d3 w3 HQ13.out HQ23.out HQ3.out).mono ?_
  rintro e w4 ⟨rfl, hB4⟩
  have HB4 := hide (HB3.out.trans (hB4.mono HB3.out.size))
  clear hB4 HQ13 HQ23 HQ3 SD
  go_wp2_with fail
  refine (ints_own a1 2 c1 (toI A) _ (HR1.out _ HB4.out) (by omega)).mono ?_
  rintro e w5 ⟨b5, d5, rfl, hO5, hB5⟩
  have HO5 := hide hO5
  have HB5 := hide (HB4.out.trans (hB5.mono HB4.out.size))
  have HX5 := hide hB5
  clear hO5 hB5
  go_wp2_with (at_builtin; refine wpList_append_rd _ rfl (.tmp 46) (.tmp 47) rfl w4.heap.size _ 2 (toI A) rfl HO5.out a2 2 c2 (toI E) rfl (HR2.out _ HB5.out) (by omega) HX5.out.size ?_)
  intro v6 w6 hO6 hG6
  obtain ⟨b6, d6, hv6⟩ := form_slice hO6
  rw [hv6] at hO6 ⊢
  have HX6 := hide (HX5.out.grown hG6 HX5.out.size (fun q hq => (HO5.out.lt q hq).1))
  have HB6 := hide (HB4.out.trans (HX6.out.mono HB4.out.size))
  have HO6 : Hid (w6.ownsRow w4.heap.size 3 1 (.slice b6 4 d6) 4 (((toI A) ++ (toI E)).map (Value.int .i64))) := hide (by first | exact hO6 | (rw [List.map_append]; exact hO6))
  clear hO6 hG6 hv6
  go_wp2_with (at_builtin; refine wpList_append_rd _ rfl (.tmp 48) (.tmp 49) rfl w4.heap.size _ 4 ((toI A) ++ (toI E)) rfl HO6.out a3 3 c3 (toI D) rfl (HR3.out _ HB6.out) (by omega) HX6.out.size ?_)
  intro v7 w7 hO7 hG7
  obtain ⟨b7, d7, hv7⟩ := form_slice hO7
  rw [hv7] at hO7 ⊢
  have HX7 := hide (HX6.out.grown hG7 HX6.out.size (fun q hq => (HO6.out.lt q hq).1))
  have HB7 := hide (HB4.out.trans (HX7.out.mono HB4.out.size))
  have HR7 : Hid (Rd w7 b7 7 d7 (toI A ++ toI E ++ toI D)) := hide (Rd.of_own (by first | exact hO7 | (rw [List.map_append]; exact hO7) | (rw [List.map_append, List.map_append]; exact hO7) | (simp only [List.map_append, List.append_assoc] at hO7 ⊢; exact hO7)))
  clear hO7 hG7 hv7
  go_wp2_with fail
  refine (CardsMay_any b7 7 d7 (toI A ++ toI E ++ toI D) w7 HR7.out).mono ?_
  rintro e w8 ⟨rfl, q8, hw8⟩
  have HB8 : Hid (Below w.heap.size w w8) := hide (by rw [hw8]; exact HB7.out.trans ((drewN_below _ w7 _).mono HB7.out.size))
  clear hw8 HB5 HX5 HB6 HX6 HB7 HX7 HO5 HO6 HR7
  rw [H0.out]
  go_wp2_with fail
  refine (SR.out w8 (HR1.out _ HB8.out) (HR2.out _ HB8.out) (HR3.out _ HB8.out)).mono ?_
  rintro e w9 ⟨rfl, hB9⟩
  have HB9 := hide (HB8.out.trans (hB9.mono HB8.out.size))
  clear hB9
  go_wp2_with fail
  go_ret
  exact ⟨by simp, HB9.out⟩

set_option maxRecDepth 100000 in
set_option maxHeartbeats 8000000 in
theorem showdowns_bad4 (a1 a2 a3 : Option Addr) (c1 c2 c3 : Nat) (z1 z2 z3 : List Int) (h0 : mayE (z1 ++ z2 ++ z3) ≠ 0) (w : World) (h1 : Rd w a1 2 c1 z1) (h2 : Rd w a2 2 c2 z2) (h3 : Rd w a3 4 c3 z3) (r1 : 2 * 8 ≤ 140737488351232) (r2 : 2 * 8 ≤ 140737488351232) (r3 : 4 * 8 ≤ 140737488351232) :
    Calls Try.prog 5 #[.slice a1 2 c1, .slice a2 2 c2, .slice a3 4 c3] w fun e w' => e = .returned (.bool true) ∧ Below w.heap.size w w' := by
  have HR1 : Hid (∀ W, Below w.heap.size w W → Rd W a1 2 c1 z1) := hide (fun W hW => h1.mono hW)
  have HR2 : Hid (∀ W, Below w.heap.size w W → Rd W a2 2 c2 z2) := hide (fun W hW => h2.mono hW)
  have HR3 : Hid (∀ W, Below w.heap.size w W → Rd W a3 4 c3 z3) := hide (fun W hW => h3.mono hW)
  have m1 := h1.max
  have m2 := h2.max
  have m3 := h3.max
  have k1 := h1.cap
  have k2 := h2.cap
  have k3 := h3.cap
  unfold maxLen at m1 m2 m3
  clear h1 h2 h3
  go_enter Try.func5, Try.ntmps5
  go_wp2_with fail
  refine (ints_any a1 2 c1 z1 w (HR1.out _ (Below.refl _ _)) r1).mono ?_
  rintro e w1 ⟨b1, d1, rfl, hQ1, hB1⟩
  have HB1 := hide hB1
  have HQ1 := hide hQ1
  clear hQ1 hB1
  go_wp2_with fail
  refine (ints_any a2 2 c2 z2 w1 (HR2.out _ HB1.out) r2).mono ?_
  rintro e w2 ⟨b2, d2, rfl, hQ2, hB2⟩
  have HB2 := hide (HB1.out.trans (hB2.mono HB1.out.size))
  have HQ12 := hide (HQ1.out.mono hB2)
  have HQ2 := hide hQ2
  clear hQ2 hB2 HQ1 HB1
  go_wp2_with fail
  refine (ints_any a3 4 c3 z3 w2 (HR3.out _ HB2.out) r3).mono ?_
  rintro e w3 ⟨b3, d3, rfl, hQ3, hB3⟩
  have HB3 := hide (HB2.out.trans (hB3.mono HB2.out.size))
  have HQ13 := hide (HQ12.out.mono hB3)
  have HQ23 := hide (HQ2.out.mono hB3)
  have HQ3 := hide hQ3
  clear hQ3 hB3 HQ12 HQ2 HB2
  go_wp2_with fail
  refine (Showdown_bad b1 b2 b3 d1 d2 d3 4 z1 z2 z3 (by omega) (by omega) w3 HQ13.out HQ23.out HQ3.out h0).mono ?_
  rintro e w4 ⟨rfl, hB4⟩
  have HB4 := hide (HB3.out.trans (hB4.mono HB3.out.size))
  clear hB4 HQ13 HQ23 HQ3
  obtain ⟨y, hy⟩ : ∃ y, mayE (z1 ++ z2 ++ z3) = y := ⟨_, rfl⟩
  rw [hy] at h0 ⊢
  have HY := hide hy
  have hq : (y != 0) = true := by simpa using h0
  have hq' : (y == 0) = false := by simpa using h0
  clear hy
  go_wp2_with fail
  refine (ints_own a1 2 c1 z1 _ (HR1.out _ HB4.out) (by omega)).mono ?_
  rintro e w5 ⟨b5, d5, rfl, hO5, hB5⟩
  have HO5 := hide hO5
  have HB5 := hide (HB4.out.trans (hB5.mono HB4.out.size))
  have HX5 := hide hB5
  clear hO5 hB5
  go_wp2_with (at_builtin; refine wpList_append_rd _ rfl (.tmp 46) (.tmp 47) rfl w4.heap.size _ 2 z1 rfl HO5.out a2 2 c2 z2 rfl (HR2.out _ HB5.out) (by omega) HX5.out.size ?_)
  intro v6 w6 hO6 hG6
  obtain ⟨b6, d6, hv6⟩ := form_slice hO6
  rw [hv6] at hO6 ⊢
  have HX6 := hide (HX5.out.grown hG6 HX5.out.size (fun q hq => (HO5.out.lt q hq).1))
  have HB6 := hide (HB4.out.trans (HX6.out.mono HB4.out.size))
  have HO6 : Hid (w6.ownsRow w4.heap.size 3 1 (.slice b6 4 d6) 4 ((z1 ++ z2).map (Value.int .i64))) := hide (by first | exact hO6 | (rw [List.map_append]; exact hO6))
  clear hO6 hG6 hv6
  go_wp2_with (at_builtin; refine wpList_append_rd _ rfl (.tmp 48) (.tmp 49) rfl w4.heap.size _ 4 (z1 ++ z2) rfl HO6.out a3 4 c3 z3 rfl (HR3.out _ HB6.out) (by omega) HX6.out.size ?_)
  intro v7 w7 hO7 hG7
  obtain ⟨b7, d7, hv7⟩ := form_slice hO7
  rw [hv7] at hO7 ⊢
  have HX7 := hide (HX6.out.grown hG7 HX6.out.size (fun q hq => (HO6.out.lt q hq).1))
  have HB7 := hide (HB4.out.trans (HX7.out.mono HB4.out.size))
  have HR7 : Hid (Rd w7 b7 8 d7 (z1 ++ z2 ++ z3)) := hide (Rd.of_own (by first | exact hO7 | (rw [List.map_append]; exact hO7) | (rw [List.map_append, List.map_append]; exact hO7) | (simp only [List.map_append, List.append_assoc] at hO7 ⊢; exact hO7)))
  clear hO7 hG7 hv7
  go_wp2_with fail
  refine (CardsMay_any b7 8 d7 (z1 ++ z2 ++ z3) w7 HR7.out).mono ?_
  rintro e w8 ⟨rfl, q8, hw8⟩
  have HB8 : Hid (Below w.heap.size w w8) := hide (by rw [hw8]; exact HB7.out.trans ((drewN_below _ w7 _).mono HB7.out.size))
  clear hw8 HB5 HX5 HB6 HX6 HB7 HX7 HO5 HO6 HR7
  rw [HY.out]
  go_wp2_with fail
  go_ret
  exact ⟨rfl, HB8.out⟩

set_option maxRecDepth 100000 in
set_option maxHeartbeats 8000000 in
theorem showdowns_ok4 (a1 a2 a3 : Option Addr) (c1 c2 c3 : Nat) (z1 z2 z3 : List Int) (h0 : mayE (z1 ++ z2 ++ z3) = 0) (w : World) (h1 : Rd w a1 2 c1 z1) (h2 : Rd w a2 2 c2 z2) (h3 : Rd w a3 4 c3 z3) (r1 : 2 * 8 ≤ 140737488351232) (r2 : 2 * 8 ≤ 140737488351232) (r3 : 4 * 8 ≤ 140737488351232) :
    Calls Try.prog 5 #[.slice a1 2 c1, .slice a2 2 c2, .slice a3 4 c3] w fun e w' => e = .returned (.bool true) ∧ Below w.heap.size w w' := by
  obtain ⟨A, E, D, rfl, rfl, rfl, hlt, hnd⟩ := split_ok h0
  have hA : A.length = 2 := by have := h1.len; rwa [toI_length] at this
  have hE : E.length = 2 := by have := h2.len; rwa [toI_length] at this
  have hD : D.length = 4 := by have := h3.len; rwa [toI_length] at this
  obtain ⟨s1, s2, s3⟩ := sd4 hA hE hD (othK (toI (A ++ E ++ D)) 52)
  obtain ⟨nw, hnw⟩ : ∃ n, winF A E D (fillsF 4 (othK (toI (A ++ E ++ D)) 52)) = n := ⟨_, rfl⟩
  obtain ⟨nt, hnt⟩ : ∃ n, tieF A E D (fillsF 4 (othK (toI (A ++ E ++ D)) 52)) = n := ⟨_, rfl⟩
  obtain ⟨np, hnp⟩ : ∃ n, (fillsF 4 (othK (toI (A ++ E ++ D)) 52)).length = n := ⟨_, rfl⟩
  have SD : Hid (∀ b1 b2 b3 d1 d2 d3 w3, Rd w3 b1 2 d1 (toI A) → Rd w3 b2 2 d2 (toI E) → Rd w3 b3 4 d3 (toI D) → Calls Try.prog 17 #[.slice b1 2 d1, .slice b2 2 d2, .slice b3 4 d3] w3 fun e w' => e = .returned (.tuple #[.int .i64 (nw : Nat), .int .i64 (nt : Nat), .int .i64 (np : Nat), .int .i64 0]) ∧ Below w3.heap.size w3 w') := hide (fun b1 b2 b3 d1 d2 d3 w3 q1 q2 q3 => by
    have h := Showdown_ok b1 b2 b3 d1 d2 d3 4 A E D hA hE hD (by omega) hlt hnd w3 q1 q2 q3
    rw [show 5 - 4 = 1 from rfl, s1, s2, s3, hnw, hnt, hnp] at h
    exact h)
  have SR : Hid (∀ w3, Rd w3 a1 2 c1 (toI A) → Rd w3 a2 2 c2 (toI E) → Rd w3 a3 4 c3 (toI D) → Calls Try.prog 18 #[.slice a1 2 c1, .slice a2 2 c2, .slice a3 4 c3] w3 fun e w' => e = .returned (.tuple #[.int .i64 (nw : Nat), .int .i64 (nt : Nat), .int .i64 (np : Nat)]) ∧ Below w3.heap.size w3 w') := hide (fun w3 q1 q2 q3 => by
    have h := SdOf4 a1 a2 a3 c1 c2 c3 A E D hA hE hD hlt hnd w3 q1 q2 q3
    rw [hnw, hnt, hnp] at h
    exact h)
  have H0 := hide h0
  clear s1 s2 s3 hnw hnt hnp hlt hnd h0 hA hE hD
  have HR1 : Hid (∀ W, Below w.heap.size w W → Rd W a1 2 c1 (toI A)) := hide (fun W hW => h1.mono hW)
  have HR2 : Hid (∀ W, Below w.heap.size w W → Rd W a2 2 c2 (toI E)) := hide (fun W hW => h2.mono hW)
  have HR3 : Hid (∀ W, Below w.heap.size w W → Rd W a3 4 c3 (toI D)) := hide (fun W hW => h3.mono hW)
  have m1 := h1.max
  have m2 := h2.max
  have m3 := h3.max
  have k1 := h1.cap
  have k2 := h2.cap
  have k3 := h3.cap
  unfold maxLen at m1 m2 m3
  clear h1 h2 h3
  go_enter Try.func5, Try.ntmps5
  go_wp2_with fail
  refine (ints_any a1 2 c1 (toI A) w (HR1.out _ (Below.refl _ _)) r1).mono ?_
  rintro e w1 ⟨b1, d1, rfl, hQ1, hB1⟩
  have HB1 := hide hB1
  have HQ1 := hide hQ1
  clear hQ1 hB1
  go_wp2_with fail
  refine (ints_any a2 2 c2 (toI E) w1 (HR2.out _ HB1.out) r2).mono ?_
  rintro e w2 ⟨b2, d2, rfl, hQ2, hB2⟩
  have HB2 := hide (HB1.out.trans (hB2.mono HB1.out.size))
  have HQ12 := hide (HQ1.out.mono hB2)
  have HQ2 := hide hQ2
  clear hQ2 hB2 HQ1 HB1
  go_wp2_with fail
  refine (ints_any a3 4 c3 (toI D) w2 (HR3.out _ HB2.out) r3).mono ?_
  rintro e w3 ⟨b3, d3, rfl, hQ3, hB3⟩
  have HB3 := hide (HB2.out.trans (hB3.mono HB2.out.size))
  have HQ13 := hide (HQ12.out.mono hB3)
  have HQ23 := hide (HQ2.out.mono hB3)
  have HQ3 := hide hQ3
  clear hQ3 hB3 HQ12 HQ2 HB2
  go_wp2_with fail
  refine (SD.out b1 b2 b3 d1 d2 d3 w3 HQ13.out HQ23.out HQ3.out).mono ?_
  rintro e w4 ⟨rfl, hB4⟩
  have HB4 := hide (HB3.out.trans (hB4.mono HB3.out.size))
  clear hB4 HQ13 HQ23 HQ3 SD
  go_wp2_with fail
  refine (ints_own a1 2 c1 (toI A) _ (HR1.out _ HB4.out) (by omega)).mono ?_
  rintro e w5 ⟨b5, d5, rfl, hO5, hB5⟩
  have HO5 := hide hO5
  have HB5 := hide (HB4.out.trans (hB5.mono HB4.out.size))
  have HX5 := hide hB5
  clear hO5 hB5
  go_wp2_with (at_builtin; refine wpList_append_rd _ rfl (.tmp 46) (.tmp 47) rfl w4.heap.size _ 2 (toI A) rfl HO5.out a2 2 c2 (toI E) rfl (HR2.out _ HB5.out) (by omega) HX5.out.size ?_)
  intro v6 w6 hO6 hG6
  obtain ⟨b6, d6, hv6⟩ := form_slice hO6
  rw [hv6] at hO6 ⊢
  have HX6 := hide (HX5.out.grown hG6 HX5.out.size (fun q hq => (HO5.out.lt q hq).1))
  have HB6 := hide (HB4.out.trans (HX6.out.mono HB4.out.size))
  have HO6 : Hid (w6.ownsRow w4.heap.size 3 1 (.slice b6 4 d6) 4 (((toI A) ++ (toI E)).map (Value.int .i64))) := hide (by first | exact hO6 | (rw [List.map_append]; exact hO6))
  clear hO6 hG6 hv6
  go_wp2_with (at_builtin; refine wpList_append_rd _ rfl (.tmp 48) (.tmp 49) rfl w4.heap.size _ 4 ((toI A) ++ (toI E)) rfl HO6.out a3 4 c3 (toI D) rfl (HR3.out _ HB6.out) (by omega) HX6.out.size ?_)
  intro v7 w7 hO7 hG7
  obtain ⟨b7, d7, hv7⟩ := form_slice hO7
  rw [hv7] at hO7 ⊢
  have HX7 := hide (HX6.out.grown hG7 HX6.out.size (fun q hq => (HO6.out.lt q hq).1))
  have HB7 := hide (HB4.out.trans (HX7.out.mono HB4.out.size))
  have HR7 : Hid (Rd w7 b7 8 d7 (toI A ++ toI E ++ toI D)) := hide (Rd.of_own (by first | exact hO7 | (rw [List.map_append]; exact hO7) | (rw [List.map_append, List.map_append]; exact hO7) | (simp only [List.map_append, List.append_assoc] at hO7 ⊢; exact hO7)))
  clear hO7 hG7 hv7
  go_wp2_with fail
  refine (CardsMay_any b7 8 d7 (toI A ++ toI E ++ toI D) w7 HR7.out).mono ?_
  rintro e w8 ⟨rfl, q8, hw8⟩
  have HB8 : Hid (Below w.heap.size w w8) := hide (by rw [hw8]; exact HB7.out.trans ((drewN_below _ w7 _).mono HB7.out.size))
  clear hw8 HB5 HX5 HB6 HX6 HB7 HX7 HO5 HO6 HR7
  rw [H0.out]
  go_wp2_with fail
  refine (SR.out w8 (HR1.out _ HB8.out) (HR2.out _ HB8.out) (HR3.out _ HB8.out)).mono ?_
  rintro e w9 ⟨rfl, hB9⟩
  have HB9 := hide (HB8.out.trans (hB9.mono HB8.out.size))
  clear hB9
  go_wp2_with fail
  go_ret
  exact ⟨by simp, HB9.out⟩

set_option maxRecDepth 100000 in
set_option maxHeartbeats 8000000 in
theorem showdowns_bad5 (a1 a2 a3 : Option Addr) (c1 c2 c3 : Nat) (z1 z2 z3 : List Int) (h0 : mayE (z1 ++ z2 ++ z3) ≠ 0) (w : World) (h1 : Rd w a1 2 c1 z1) (h2 : Rd w a2 2 c2 z2) (h3 : Rd w a3 5 c3 z3) (r1 : 2 * 8 ≤ 140737488351232) (r2 : 2 * 8 ≤ 140737488351232) (r3 : 5 * 8 ≤ 140737488351232) :
    Calls Try.prog 5 #[.slice a1 2 c1, .slice a2 2 c2, .slice a3 5 c3] w fun e w' => e = .returned (.bool true) ∧ Below w.heap.size w w' := by
  have HR1 : Hid (∀ W, Below w.heap.size w W → Rd W a1 2 c1 z1) := hide (fun W hW => h1.mono hW)
  have HR2 : Hid (∀ W, Below w.heap.size w W → Rd W a2 2 c2 z2) := hide (fun W hW => h2.mono hW)
  have HR3 : Hid (∀ W, Below w.heap.size w W → Rd W a3 5 c3 z3) := hide (fun W hW => h3.mono hW)
  have m1 := h1.max
  have m2 := h2.max
  have m3 := h3.max
  have k1 := h1.cap
  have k2 := h2.cap
  have k3 := h3.cap
  unfold maxLen at m1 m2 m3
  clear h1 h2 h3
  go_enter Try.func5, Try.ntmps5
  go_wp2_with fail
  refine (ints_any a1 2 c1 z1 w (HR1.out _ (Below.refl _ _)) r1).mono ?_
  rintro e w1 ⟨b1, d1, rfl, hQ1, hB1⟩
  have HB1 := hide hB1
  have HQ1 := hide hQ1
  clear hQ1 hB1
  go_wp2_with fail
  refine (ints_any a2 2 c2 z2 w1 (HR2.out _ HB1.out) r2).mono ?_
  rintro e w2 ⟨b2, d2, rfl, hQ2, hB2⟩
  have HB2 := hide (HB1.out.trans (hB2.mono HB1.out.size))
  have HQ12 := hide (HQ1.out.mono hB2)
  have HQ2 := hide hQ2
  clear hQ2 hB2 HQ1 HB1
  go_wp2_with fail
  refine (ints_any a3 5 c3 z3 w2 (HR3.out _ HB2.out) r3).mono ?_
  rintro e w3 ⟨b3, d3, rfl, hQ3, hB3⟩
  have HB3 := hide (HB2.out.trans (hB3.mono HB2.out.size))
  have HQ13 := hide (HQ12.out.mono hB3)
  have HQ23 := hide (HQ2.out.mono hB3)
  have HQ3 := hide hQ3
  clear hQ3 hB3 HQ12 HQ2 HB2
  go_wp2_with fail
  refine (Showdown_bad b1 b2 b3 d1 d2 d3 5 z1 z2 z3 (by omega) (by omega) w3 HQ13.out HQ23.out HQ3.out h0).mono ?_
  rintro e w4 ⟨rfl, hB4⟩
  have HB4 := hide (HB3.out.trans (hB4.mono HB3.out.size))
  clear hB4 HQ13 HQ23 HQ3
  obtain ⟨y, hy⟩ : ∃ y, mayE (z1 ++ z2 ++ z3) = y := ⟨_, rfl⟩
  rw [hy] at h0 ⊢
  have HY := hide hy
  have hq : (y != 0) = true := by simpa using h0
  have hq' : (y == 0) = false := by simpa using h0
  clear hy
  go_wp2_with fail
  refine (ints_own a1 2 c1 z1 _ (HR1.out _ HB4.out) (by omega)).mono ?_
  rintro e w5 ⟨b5, d5, rfl, hO5, hB5⟩
  have HO5 := hide hO5
  have HB5 := hide (HB4.out.trans (hB5.mono HB4.out.size))
  have HX5 := hide hB5
  clear hO5 hB5
  go_wp2_with (at_builtin; refine wpList_append_rd _ rfl (.tmp 46) (.tmp 47) rfl w4.heap.size _ 2 z1 rfl HO5.out a2 2 c2 z2 rfl (HR2.out _ HB5.out) (by omega) HX5.out.size ?_)
  intro v6 w6 hO6 hG6
  obtain ⟨b6, d6, hv6⟩ := form_slice hO6
  rw [hv6] at hO6 ⊢
  have HX6 := hide (HX5.out.grown hG6 HX5.out.size (fun q hq => (HO5.out.lt q hq).1))
  have HB6 := hide (HB4.out.trans (HX6.out.mono HB4.out.size))
  have HO6 : Hid (w6.ownsRow w4.heap.size 3 1 (.slice b6 4 d6) 4 ((z1 ++ z2).map (Value.int .i64))) := hide (by first | exact hO6 | (rw [List.map_append]; exact hO6))
  clear hO6 hG6 hv6
  go_wp2_with (at_builtin; refine wpList_append_rd _ rfl (.tmp 48) (.tmp 49) rfl w4.heap.size _ 4 (z1 ++ z2) rfl HO6.out a3 5 c3 z3 rfl (HR3.out _ HB6.out) (by omega) HX6.out.size ?_)
  intro v7 w7 hO7 hG7
  obtain ⟨b7, d7, hv7⟩ := form_slice hO7
  rw [hv7] at hO7 ⊢
  have HX7 := hide (HX6.out.grown hG7 HX6.out.size (fun q hq => (HO6.out.lt q hq).1))
  have HB7 := hide (HB4.out.trans (HX7.out.mono HB4.out.size))
  have HR7 : Hid (Rd w7 b7 9 d7 (z1 ++ z2 ++ z3)) := hide (Rd.of_own (by first | exact hO7 | (rw [List.map_append]; exact hO7) | (rw [List.map_append, List.map_append]; exact hO7) | (simp only [List.map_append, List.append_assoc] at hO7 ⊢; exact hO7)))
  clear hO7 hG7 hv7
  go_wp2_with fail
  refine (CardsMay_any b7 9 d7 (z1 ++ z2 ++ z3) w7 HR7.out).mono ?_
  rintro e w8 ⟨rfl, q8, hw8⟩
  have HB8 : Hid (Below w.heap.size w w8) := hide (by rw [hw8]; exact HB7.out.trans ((drewN_below _ w7 _).mono HB7.out.size))
  clear hw8 HB5 HX5 HB6 HX6 HB7 HX7 HO5 HO6 HR7
  rw [HY.out]
  go_wp2_with fail
  go_ret
  exact ⟨rfl, HB8.out⟩

set_option maxRecDepth 100000 in
set_option maxHeartbeats 8000000 in
theorem showdowns_ok5 (a1 a2 a3 : Option Addr) (c1 c2 c3 : Nat) (z1 z2 z3 : List Int) (h0 : mayE (z1 ++ z2 ++ z3) = 0) (w : World) (h1 : Rd w a1 2 c1 z1) (h2 : Rd w a2 2 c2 z2) (h3 : Rd w a3 5 c3 z3) (r1 : 2 * 8 ≤ 140737488351232) (r2 : 2 * 8 ≤ 140737488351232) (r3 : 5 * 8 ≤ 140737488351232) :
    Calls Try.prog 5 #[.slice a1 2 c1, .slice a2 2 c2, .slice a3 5 c3] w fun e w' => e = .returned (.bool true) ∧ Below w.heap.size w w' := by
  obtain ⟨A, E, D, rfl, rfl, rfl, hlt, hnd⟩ := split_ok h0
  have hA : A.length = 2 := by have := h1.len; rwa [toI_length] at this
  have hE : E.length = 2 := by have := h2.len; rwa [toI_length] at this
  have hD : D.length = 5 := by have := h3.len; rwa [toI_length] at this
  obtain ⟨s1, s2, s3⟩ := sd5 hA hE hD (othK (toI (A ++ E ++ D)) 52)
  obtain ⟨nw, hnw⟩ : ∃ n, winF A E D (fillsF 5 (othK (toI (A ++ E ++ D)) 52)) = n := ⟨_, rfl⟩
  obtain ⟨nt, hnt⟩ : ∃ n, tieF A E D (fillsF 5 (othK (toI (A ++ E ++ D)) 52)) = n := ⟨_, rfl⟩
  obtain ⟨np, hnp⟩ : ∃ n, (fillsF 5 (othK (toI (A ++ E ++ D)) 52)).length = n := ⟨_, rfl⟩
  have SD : Hid (∀ b1 b2 b3 d1 d2 d3 w3, Rd w3 b1 2 d1 (toI A) → Rd w3 b2 2 d2 (toI E) → Rd w3 b3 5 d3 (toI D) → Calls Try.prog 17 #[.slice b1 2 d1, .slice b2 2 d2, .slice b3 5 d3] w3 fun e w' => e = .returned (.tuple #[.int .i64 (nw : Nat), .int .i64 (nt : Nat), .int .i64 (np : Nat), .int .i64 0]) ∧ Below w3.heap.size w3 w') := hide (fun b1 b2 b3 d1 d2 d3 w3 q1 q2 q3 => by
    have h := Showdown_ok b1 b2 b3 d1 d2 d3 5 A E D hA hE hD (by omega) hlt hnd w3 q1 q2 q3
    rw [show 5 - 5 = 0 from rfl, s1, s2, s3, hnw, hnt, hnp] at h
    exact h)
  have SR : Hid (∀ w3, Rd w3 a1 2 c1 (toI A) → Rd w3 a2 2 c2 (toI E) → Rd w3 a3 5 c3 (toI D) → Calls Try.prog 18 #[.slice a1 2 c1, .slice a2 2 c2, .slice a3 5 c3] w3 fun e w' => e = .returned (.tuple #[.int .i64 (nw : Nat), .int .i64 (nt : Nat), .int .i64 (np : Nat)]) ∧ Below w3.heap.size w3 w') := hide (fun w3 q1 q2 q3 => by
    have h := SdOf5 a1 a2 a3 c1 c2 c3 A E D hA hE hD hlt hnd w3 q1 q2 q3
    rw [hnw, hnt, hnp] at h
    exact h)
  have H0 := hide h0
  clear s1 s2 s3 hnw hnt hnp hlt hnd h0 hA hE hD
  have HR1 : Hid (∀ W, Below w.heap.size w W → Rd W a1 2 c1 (toI A)) := hide (fun W hW => h1.mono hW)
  have HR2 : Hid (∀ W, Below w.heap.size w W → Rd W a2 2 c2 (toI E)) := hide (fun W hW => h2.mono hW)
  have HR3 : Hid (∀ W, Below w.heap.size w W → Rd W a3 5 c3 (toI D)) := hide (fun W hW => h3.mono hW)
  have m1 := h1.max
  have m2 := h2.max
  have m3 := h3.max
  have k1 := h1.cap
  have k2 := h2.cap
  have k3 := h3.cap
  unfold maxLen at m1 m2 m3
  clear h1 h2 h3
  go_enter Try.func5, Try.ntmps5
  go_wp2_with fail
  refine (ints_any a1 2 c1 (toI A) w (HR1.out _ (Below.refl _ _)) r1).mono ?_
  rintro e w1 ⟨b1, d1, rfl, hQ1, hB1⟩
  have HB1 := hide hB1
  have HQ1 := hide hQ1
  clear hQ1 hB1
  go_wp2_with fail
  refine (ints_any a2 2 c2 (toI E) w1 (HR2.out _ HB1.out) r2).mono ?_
  rintro e w2 ⟨b2, d2, rfl, hQ2, hB2⟩
  have HB2 := hide (HB1.out.trans (hB2.mono HB1.out.size))
  have HQ12 := hide (HQ1.out.mono hB2)
  have HQ2 := hide hQ2
  clear hQ2 hB2 HQ1 HB1
  go_wp2_with fail
  refine (ints_any a3 5 c3 (toI D) w2 (HR3.out _ HB2.out) r3).mono ?_
  rintro e w3 ⟨b3, d3, rfl, hQ3, hB3⟩
  have HB3 := hide (HB2.out.trans (hB3.mono HB2.out.size))
  have HQ13 := hide (HQ12.out.mono hB3)
  have HQ23 := hide (HQ2.out.mono hB3)
  have HQ3 := hide hQ3
  clear hQ3 hB3 HQ12 HQ2 HB2
  go_wp2_with fail
  refine (SD.out b1 b2 b3 d1 d2 d3 w3 HQ13.out HQ23.out HQ3.out).mono ?_
  rintro e w4 ⟨rfl, hB4⟩
  have HB4 := hide (HB3.out.trans (hB4.mono HB3.out.size))
  clear hB4 HQ13 HQ23 HQ3 SD
  go_wp2_with fail
  refine (ints_own a1 2 c1 (toI A) _ (HR1.out _ HB4.out) (by omega)).mono ?_
  rintro e w5 ⟨b5, d5, rfl, hO5, hB5⟩
  have HO5 := hide hO5
  have HB5 := hide (HB4.out.trans (hB5.mono HB4.out.size))
  have HX5 := hide hB5
  clear hO5 hB5
  go_wp2_with (at_builtin; refine wpList_append_rd _ rfl (.tmp 46) (.tmp 47) rfl w4.heap.size _ 2 (toI A) rfl HO5.out a2 2 c2 (toI E) rfl (HR2.out _ HB5.out) (by omega) HX5.out.size ?_)
  intro v6 w6 hO6 hG6
  obtain ⟨b6, d6, hv6⟩ := form_slice hO6
  rw [hv6] at hO6 ⊢
  have HX6 := hide (HX5.out.grown hG6 HX5.out.size (fun q hq => (HO5.out.lt q hq).1))
  have HB6 := hide (HB4.out.trans (HX6.out.mono HB4.out.size))
  have HO6 : Hid (w6.ownsRow w4.heap.size 3 1 (.slice b6 4 d6) 4 (((toI A) ++ (toI E)).map (Value.int .i64))) := hide (by first | exact hO6 | (rw [List.map_append]; exact hO6))
  clear hO6 hG6 hv6
  go_wp2_with (at_builtin; refine wpList_append_rd _ rfl (.tmp 48) (.tmp 49) rfl w4.heap.size _ 4 ((toI A) ++ (toI E)) rfl HO6.out a3 5 c3 (toI D) rfl (HR3.out _ HB6.out) (by omega) HX6.out.size ?_)
  intro v7 w7 hO7 hG7
  obtain ⟨b7, d7, hv7⟩ := form_slice hO7
  rw [hv7] at hO7 ⊢
  have HX7 := hide (HX6.out.grown hG7 HX6.out.size (fun q hq => (HO6.out.lt q hq).1))
  have HB7 := hide (HB4.out.trans (HX7.out.mono HB4.out.size))
  have HR7 : Hid (Rd w7 b7 9 d7 (toI A ++ toI E ++ toI D)) := hide (Rd.of_own (by first | exact hO7 | (rw [List.map_append]; exact hO7) | (rw [List.map_append, List.map_append]; exact hO7) | (simp only [List.map_append, List.append_assoc] at hO7 ⊢; exact hO7)))
  clear hO7 hG7 hv7
  go_wp2_with fail
  refine (CardsMay_any b7 9 d7 (toI A ++ toI E ++ toI D) w7 HR7.out).mono ?_
  rintro e w8 ⟨rfl, q8, hw8⟩
  have HB8 : Hid (Below w.heap.size w w8) := hide (by rw [hw8]; exact HB7.out.trans ((drewN_below _ w7 _).mono HB7.out.size))
  clear hw8 HB5 HX5 HB6 HX6 HB7 HX7 HO5 HO6 HR7
  rw [H0.out]
  go_wp2_with fail
  refine (SR.out w8 (HR1.out _ HB8.out) (HR2.out _ HB8.out) (HR3.out _ HB8.out)).mono ?_
  rintro e w9 ⟨rfl, hB9⟩
  have HB9 := hide (HB8.out.trans (hB9.mono HB8.out.size))
  clear hB9
  go_wp2_with fail
  go_ret
  exact ⟨by simp, HB9.out⟩

theorem showdowns_any (a1 a2 a3 : Option Addr) (n1 n2 n3 c1 c2 c3 : Nat) (z1 z2 z3 : List Int) (w : World) (h1 : Rd w a1 n1 c1 z1) (h2 : Rd w a2 n2 c2 z2) (h3 : Rd w a3 n3 c3 z3) (r1 : n1 * 8 ≤ 140737488351232) (r2 : n2 * 8 ≤ 140737488351232) (r3 : n3 * 8 ≤ 140737488351232) :
    Calls Try.prog 5 #[.slice a1 n1 c1, .slice a2 n2 c2, .slice a3 n3 c3] w fun e w' => e = .returned (.bool true) ∧ Below w.heap.size w w' := by
  by_cases hno : n1 = 2 ∧ n2 = 2 ∧ 3 ≤ n3 ∧ n3 ≤ 5
  · obtain ⟨rfl, rfl, h5, h6⟩ := hno
    by_cases h0 : mayE (z1 ++ z2 ++ z3) = 0
    · rcases (by omega : n3 = 3 ∨ n3 = 4 ∨ n3 = 5) with rfl | rfl | rfl
      · exact showdowns_ok3 a1 a2 a3 c1 c2 c3 z1 z2 z3 h0 w h1 h2 h3 r1 r2 r3
      · exact showdowns_ok4 a1 a2 a3 c1 c2 c3 z1 z2 z3 h0 w h1 h2 h3 r1 r2 r3
      · exact showdowns_ok5 a1 a2 a3 c1 c2 c3 z1 z2 z3 h0 w h1 h2 h3 r1 r2 r3
    · rcases (by omega : n3 = 3 ∨ n3 = 4 ∨ n3 = 5) with rfl | rfl | rfl
      · exact showdowns_bad3 a1 a2 a3 c1 c2 c3 z1 z2 z3 h0 w h1 h2 h3 r1 r2 r3
      · exact showdowns_bad4 a1 a2 a3 c1 c2 c3 z1 z2 z3 h0 w h1 h2 h3 r1 r2 r3
      · exact showdowns_bad5 a1 a2 a3 c1 c2 c3 z1 z2 z3 h0 w h1 h2 h3 r1 r2 r3
  · exact showdowns_len a1 a2 a3 n1 n2 n3 c1 c2 c3 z1 z2 z3 hno w h1 h2 h3 r1 r2 r3

end Go.Proofs.Ytdhacmcdbpojlaa
