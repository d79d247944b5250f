/-
  'HexGroups', walked. No conditions beyond those that each theorem bears.
-/
import Derived.Test.YtldgikinmmkhiaaDoorRj
import Derived.Test.YtldgikinmmkhiaaDoorSa
import Derived.Test.YtldgikinmmkhiaaDoorOs
namespace Go.Proofs.YtldgikinmmkhiaaDoor
open Go.RowKit Go.Shelf

attribute [local irreducible] jw jl toI toL grps hF hMay

set_option maxRecDepth 100000 in
set_option maxHeartbeats 8000000 in
theorem groups_law (W H : Int) (a : Option Addr) (N c : Nat) (zs : List Int) (x : Int) (w : World) (hT : Tab w) (h : Rd w a N c zs) (hr : N * 8 ≤ 140737488351232) (_hx : -9223372036854775808 ≤ x ∧ x ≤ 9223372036854775807) :
    Calls Tryd.prog 3 #[.agg (gdA W H a N c), .int .i64 x] w fun e w' => e = .returned (.bool true) ∧ Below w.heap.size w w' := by
  have HGR := hide (fun W0 (hrd : Rd W0 a N c zs) => GridOf_own W H a N c zs W0 hrd hr)
  have HMN := hide (fun W0 (hrd : Rd W0 a N c zs) => HexMay_any W H a N c zs W0 hrd)
  by_cases hmay : hMay W H zs = true
  rotate_left
  · have hmf : hMay W H zs = false := by simpa using hmay
    have hf : hF W H zs x = 12 := by unfold hF; rw [if_neg hmay]
    have HGN := hide (fun a2 c2 W0 (hrd : Rd W0 a2 N c2 zs) => Groups_no W H a2 N c2 zs x W0 (by rw [hf]; omega) hrd)
    have HJN := hide (fun a2 c2 W0 (hrd : Rd W0 a2 N c2 zs) => Joined_no W H a2 N c2 zs W0 hmf hrd)
    rw [hf] at HGN
    rw [hmf] at HMN
    clear hf hmf hmay
    obtain ⟨w1, hw1⟩ : ∃ w1, w.alloc (.cells (gdA W H a N c) 24) = w1 := ⟨_, rfl⟩
    obtain ⟨s1, h1, B1⟩ := alloc_facts hw1
    have G1 : Gd w1 w.heap.size W H a N c := h1
    have HG1 := hide G1
    have HR1 := hide (h.mono B1)
    have HT1 := hide (hT.mono B1)
    have HB1 := hide B1
    clear hT h h1 s1 B1
    go_enter Tryd.func3, Tryd.ntmps3
    go_upto_region 1 with fail
    clear hw1
    go_wp2_with (first | (refine wpList_load_gd rfl (.tmp 2) rfl w.heap.size rfl G1 ?_) | fail)
    refine (HGR.out _ HR1.out).mono ?_
    rintro e w2 ⟨a2, c2, rfl, hO2, hb2⟩
    have G2 := HG1.out.below hb2 HG1.out.lt
    have HG2 := hide G2
    have HR2 := hide (HR1.out.mono hb2)
    have HT2 := hide (HT1.out.mono hb2)
    have HB2 := hide (HB1.out.trans (hb2.mono HB1.out.size))
    have HC2 := hide (HGN.out a2 c2 w2 (Rd.of_own hO2))
    clear hO2 G1
    clear hb2 HG1 HR1 HT1 HB1
    go_wp2_with fail
    refine HC2.out.mono ?_
    rintro e w3 ⟨rfl, hb3⟩
    have G3 := HG2.out.below hb3 HG2.out.lt
    have HG3 := hide G3
    have HR3 := hide (HR2.out.mono hb3)
    have HT3 := hide (HT2.out.mono hb3)
    have HB3 := hide (HB2.out.trans (hb3.mono HB2.out.size))
    clear hb3 HG2 HR2 HT2 HB2
    clear HC2 G2
    go_wp2_with (first | (refine wpList_load_gd rfl (.tmp 2) rfl w.heap.size rfl G3 ?_) | fail)
    refine (HGR.out _ HR3.out).mono ?_
    rintro e w4 ⟨a4, c4, rfl, hO4, hb4⟩
    have G4 := HG3.out.below hb4 HG3.out.lt
    have HG4 := hide G4
    have HR4 := hide (HR3.out.mono hb4)
    have HT4 := hide (HT3.out.mono hb4)
    have HB4 := hide (HB3.out.trans (hb4.mono HB3.out.size))
    have HC4 := hide (HJN.out a4 c4 w4 (Rd.of_own hO4))
    clear hO4 G3
    clear hb4 HG3 HR3 HT3 HB3
    go_wp2_with fail
    refine HC4.out.mono ?_
    rintro e w5 ⟨rfl, hb5⟩
    have G5 := HG4.out.below hb5 HG4.out.lt
    have HG5 := hide G5
    have HR5 := hide (HR4.out.mono hb5)
    have HT5 := hide (HT4.out.mono hb5)
    have HB5 := hide (HB4.out.trans (hb5.mono HB4.out.size))
    clear hb5 HG4 HR4 HT4 HB4
    clear HC4 G4
    go_wp2_with (first | (refine wpList_load_gd rfl (.tmp 2) rfl w.heap.size rfl G5 ?_) | fail)
    refine (HMN.out _ HR5.out).mono ?_
    rintro e w6 ⟨rfl, hb6⟩
    have G6 := HG5.out.below hb6 HG5.out.lt
    have HG6 := hide G6
    have HR6 := hide (HR5.out.mono hb6)
    have HT6 := hide (HT5.out.mono hb6)
    have HB6 := hide (HB5.out.trans (hb6.mono HB5.out.size))
    clear hb6 HG5 HR5 HT5 HB5
    clear G5
    go_wp2_with fail
    go_ret
    exact ⟨rfl, HB6.out⟩
  obtain ⟨n, rfl, rfl, hn1, hn10, hN, cb, co, rfl⟩ := hMay_board hmay h
  have hN1 : 1 ≤ N := by rw [← hN]; exact Nat.mul_le_mul hn1 hn1
  rw [hmay] at HMN
  have HJY := hide (fun g c0 W0 (ht : Tab W0) (hrd : Rd W0 (some ⟨g, 0, none⟩) N c0 zs) => Joined_yes n g 0 N c0 zs W0 hmay ⟨hn1, hn10⟩ hN ht hrd)
  have HJX := hide (fun W0 (hrd : Rd W0 (some ⟨cb, co, none⟩) N c zs) => HexJoined_any n cb co N c zs W0 ⟨hn1, hn10⟩ hN hrd)
  obtain ⟨J, hJ⟩ : ∃ J, jw n zs = J := ⟨_, rfl⟩
  obtain ⟨JN, hJN⟩ : ∃ JN, (jl n zs).length = JN := ⟨_, rfl⟩
  obtain ⟨JL, hJL⟩ : ∃ JL, toI (jl n zs) = JL := ⟨_, rfl⟩
  rw [hJ, hJN, hJL] at HJY HJX
  have hJJ : ((J : Int) != (J : Int)) = false := by simp
  have HSI := hide (fun xa xc ya yc W0 (h1 : Rd W0 xa JN xc JL) (h2 : Rd W0 ya JN yc JL) => (sameInts_any xa ya JN xc JN yc JL JL W0 h1 h2).mono (R' := fun e w' => e = .returned (.bool true) ∧ Below W0.heap.size W0 w') (by
    rintro e w' ⟨he, q, rfl⟩
    rw [show decide (JL = JL) = true by simp] at he
    exact ⟨he, drewN_below _ _ _⟩))
  clear hJ hJN hJL
  by_cases hp : isP x = true
  rotate_left
  · have hf : hF n n zs x = 4 := by unfold hF; rw [if_pos hmay, if_neg hp]
    have HGN := hide (fun a2 c2 W0 (hrd : Rd W0 a2 N c2 zs) => Groups_no n n a2 N c2 zs x W0 (by rw [hf]; omega) hrd)
    rw [hf] at HGN
    have hp2 : ¬ (x = 1 ∨ x = 2) := by simpa [isP] using hp
    have y1 : (x != 1) = true := by simp; omega
    have y2 : (x != 2) = true := by simp; omega
    clear hp hp2 hf hmay hN
    obtain ⟨w1, hw1⟩ : ∃ w1, w.alloc (.cells (gdA n n (some ⟨cb, co, none⟩) N c) 24) = w1 := ⟨_, rfl⟩
    obtain ⟨s1, h1, B1⟩ := alloc_facts hw1
    have G1 : Gd w1 w.heap.size n n (some ⟨cb, co, none⟩) N c := h1
    have HG1 := hide G1
    have HR1 := hide (h.mono B1)
    have HT1 := hide (hT.mono B1)
    have HB1 := hide B1
    clear hT h h1 s1 B1
    go_enter Tryd.func3, Tryd.ntmps3
    go_upto_region 1 with fail
    clear hw1
    go_wp2_with (first | (refine wpList_load_gd rfl (.tmp 2) rfl w.heap.size rfl G1 ?_) | fail)
    refine (HGR.out _ HR1.out).mono ?_
    rintro e w2 ⟨a2, c2, rfl, hO2, hb2⟩
    have G2 := HG1.out.below hb2 HG1.out.lt
    have HG2 := hide G2
    have HR2 := hide (HR1.out.mono hb2)
    have HT2 := hide (HT1.out.mono hb2)
    have HB2 := hide (HB1.out.trans (hb2.mono HB1.out.size))
    have HC2 := hide (HGN.out a2 c2 w2 (Rd.of_own hO2))
    clear hO2 G1
    clear hb2 HG1 HR1 HT1 HB1
    go_wp2_with fail
    refine HC2.out.mono ?_
    rintro e w3 ⟨rfl, hb3⟩
    have G3 := HG2.out.below hb3 HG2.out.lt
    have HG3 := hide G3
    have HR3 := hide (HR2.out.mono hb3)
    have HT3 := hide (HT2.out.mono hb3)
    have HB3 := hide (HB2.out.trans (hb3.mono HB2.out.size))
    clear hb3 HG2 HR2 HT2 HB2
    clear HC2 G2
    go_wp2_with (first | (refine wpList_load_gd rfl (.tmp 2) rfl w.heap.size rfl G3 ?_) | fail)
    refine (HGR.out _ HR3.out).mono ?_
    rintro e w4 ⟨a4, c4, rfl, hO4, hb4⟩
    have G4 := HG3.out.below hb4 HG3.out.lt
    have HG4 := hide G4
    have HR4 := hide (HR3.out.mono hb4)
    have HT4 := hide (HT3.out.mono hb4)
    have HB4 := hide (HB3.out.trans (hb4.mono HB3.out.size))
    obtain ⟨g4, c4', hv, -⟩ := own_some hO4 (by omega)
    simp only [Value.slice.injEq] at hv
    obtain ⟨rfl, -, rfl⟩ := hv
    have HC4 := hide (HJY.out g4 c4 w4 HT4.out (Rd.of_own hO4))
    clear hO4 G3
    clear hb4 HG3 HR3 HT3 HB3
    go_wp2_with fail
    refine HC4.out.mono ?_
    rintro e w5 ⟨xa, xc, rfl, hO5, hb5⟩
    have G5 := HG4.out.below hb5 HG4.out.lt
    have HG5 := hide G5
    have HR5 := hide (HR4.out.mono hb5)
    have HT5 := hide (HT4.out.mono hb5)
    have HB5 := hide (HB4.out.trans (hb5.mono HB4.out.size))
    clear hb5 HG4 HR4 HT4 HB4
    have HX5 := hide (Rd.of_own hO5)
    clear hO5 HC4 G4
    go_wp2_with (first | (refine wpList_load_gd rfl (.tmp 2) rfl w.heap.size rfl G5 ?_) | fail)
    refine (HMN.out _ HR5.out).mono ?_
    rintro e w6 ⟨rfl, hb6⟩
    have G6 := HG5.out.below hb6 HG5.out.lt
    have HG6 := hide G6
    have HR6 := hide (HR5.out.mono hb6)
    have HT6 := hide (HT5.out.mono hb6)
    have HB6 := hide (HB5.out.trans (hb6.mono HB5.out.size))
    have HX6 := hide (HX5.out.mono hb6)
    clear hb6 HG5 HR5 HT5 HB5
    clear HX5 G5
    go_wp2_with (first | (refine wpList_load_gd rfl (.tmp 2) rfl w.heap.size rfl G6 ?_) | fail)
    refine (HJX.out _ HR6.out).mono ?_
    rintro e w7 ⟨ya, yc, rfl, hO7, hb7⟩
    have G7 := HG6.out.below hb7 HG6.out.lt
    have HG7 := hide G7
    have HR7 := hide (HR6.out.mono hb7)
    have HT7 := hide (HT6.out.mono hb7)
    have HB7 := hide (HB6.out.trans (hb7.mono HB6.out.size))
    have HX7 := hide (HX6.out.mono hb7)
    clear hb7 HG6 HR6 HT6 HB6
    have HS7 := hide (HSI.out xa xc ya yc w7 HX7.out (Rd.of_own hO7))
    clear hO7 HX6 HX7 G6
    go_wp2_with fail
    refine HS7.out.mono ?_
    rintro e w8 ⟨rfl, hb8⟩
    have G8 := HG7.out.below hb8 HG7.out.lt
    have HG8 := hide G8
    have HR8 := hide (HR7.out.mono hb8)
    have HT8 := hide (HT7.out.mono hb8)
    have HB8 := hide (HB7.out.trans (hb8.mono HB7.out.size))
    clear hb8 HG7 HR7 HT7 HB7
    clear HS7 G7
    go_wp2_with fail
    go_ret
    exact ⟨rfl, HB8.out⟩
  have hp2 : x = 1 ∨ x = 2 := by simpa [isP] using hp
  obtain ⟨m, rfl⟩ : ∃ m : Nat, x = (m : Int) := ⟨x.toNat, by omega⟩
  have HM : Hid (m = 1 ∨ m = 2) := hide (by omega)
  have HGY := hide (fun g c0 W0 (ht : Tab W0) (hrd : Rd W0 (some ⟨g, 0, none⟩) N c0 zs) => Groups_yes n g 0 N c0 m zs W0 (hF_ok hmay HM.out) ⟨hn1, hn10⟩ hN ht hrd)
  have HGX := hide (fun W0 (hrd : Rd W0 (some ⟨cb, co, none⟩) N c zs) => HexGroups_any n cb co N c m zs W0 ⟨hn1, hn10⟩ hN hrd)
  obtain ⟨GN, hGN⟩ : ∃ GN, (grps n zs m).length = GN := ⟨_, rfl⟩
  obtain ⟨GL, hGL⟩ : ∃ GL, toL (grps n zs m) = GL := ⟨_, rfl⟩
  rw [hGN, hGL] at HGY HGX
  have HSR := hide (fun xa xc ya yc W0 (O O' : Nat → Prop) (h1 : Fr O W0 xa GN xc GL) (h2 : Fr O' W0 ya GN yc GL) => sameRows_eq O O' xa ya GN xc yc GL W0 h1 h2)
  clear hp hp2 hGN hGL hmay hN
  obtain ⟨w1, hw1⟩ : ∃ w1, w.alloc (.cells (gdA n n (some ⟨cb, co, none⟩) N c) 24) = w1 := ⟨_, rfl⟩
  obtain ⟨s1, h1, B1⟩ := alloc_facts hw1
  have G1 : Gd w1 w.heap.size n n (some ⟨cb, co, none⟩) N c := h1
  have HG1 := hide G1
  have HR1 := hide (h.mono B1)
  have HT1 := hide (hT.mono B1)
  have HB1 := hide B1
  clear hT h h1 s1 B1
  go_enter Tryd.func3, Tryd.ntmps3
  go_upto_region 1 with fail
  clear hw1
  go_wp2_with (first | (refine wpList_load_gd rfl (.tmp 2) rfl w.heap.size rfl G1 ?_) | fail)
  refine (HGR.out _ HR1.out).mono ?_
  rintro e w2 ⟨a2, c2, rfl, hO2, hb2⟩
  have G2 := HG1.out.below hb2 HG1.out.lt
  have HG2 := hide G2
  have HR2 := hide (HR1.out.mono hb2)
  have HT2 := hide (HT1.out.mono hb2)
  have HB2 := hide (HB1.out.trans (hb2.mono HB1.out.size))
  obtain ⟨g2, c2', hv, -⟩ := own_some hO2 (by omega)
  simp only [Value.slice.injEq] at hv
  obtain ⟨rfl, -, rfl⟩ := hv
  have HC2 := hide (HGY.out g2 c2 w2 HT2.out (Rd.of_own hO2))
  clear hO2 G1
  clear hb2 HG1 HR1 HT1 HB1
  go_wp2_with fail
  refine HC2.out.mono ?_
  rintro e w3 ⟨la, lc, rfl, hF3, hb3⟩
  have G3 := HG2.out.below hb3 HG2.out.lt
  have HG3 := hide G3
  have HR3 := hide (HR2.out.mono hb3)
  have HT3 := hide (HT2.out.mono hb3)
  have HB3 := hide (HB2.out.trans (hb3.mono HB2.out.size))
  clear hb3 HG2 HR2 HT2 HB2
  clear HC2 G2
  have HF3 := hide hF3.fr
  clear hF3
  go_wp2_with (first | (refine wpList_load_gd rfl (.tmp 2) rfl w.heap.size rfl G3 ?_) | fail)
  refine (HGR.out _ HR3.out).mono ?_
  rintro e w4 ⟨a4, c4, rfl, hO4, hb4⟩
  have G4 := HG3.out.below hb4 HG3.out.lt
  have HG4 := hide G4
  have HR4 := hide (HR3.out.mono hb4)
  have HT4 := hide (HT3.out.mono hb4)
  have HB4 := hide (HB3.out.trans (hb4.mono HB3.out.size))
  have HF4 := hide (HF3.out.mono hb4)
  clear HF3
  obtain ⟨g4, c4', hv, -⟩ := own_some hO4 (by omega)
  simp only [Value.slice.injEq] at hv
  obtain ⟨rfl, -, rfl⟩ := hv
  have HC4 := hide (HJY.out g4 c4 w4 HT4.out (Rd.of_own hO4))
  clear hO4 G3
  clear hb4 HG3 HR3 HT3 HB3
  go_wp2_with fail
  refine HC4.out.mono ?_
  rintro e w5 ⟨xa, xc, rfl, hO5, hb5⟩
  have G5 := HG4.out.below hb5 HG4.out.lt
  have HG5 := hide G5
  have HR5 := hide (HR4.out.mono hb5)
  have HT5 := hide (HT4.out.mono hb5)
  have HB5 := hide (HB4.out.trans (hb5.mono HB4.out.size))
  have HF5 := hide (HF4.out.mono hb5)
  clear HF4
  clear hb5 HG4 HR4 HT4 HB4
  have HX5 := hide (Rd.of_own hO5)
  clear hO5 HC4 G4
  go_wp2_with (first | (refine wpList_load_gd rfl (.tmp 2) rfl w.heap.size rfl G5 ?_) | fail)
  refine (HMN.out _ HR5.out).mono ?_
  rintro e w6 ⟨rfl, hb6⟩
  have G6 := HG5.out.below hb6 HG5.out.lt
  have HG6 := hide G6
  have HR6 := hide (HR5.out.mono hb6)
  have HT6 := hide (HT5.out.mono hb6)
  have HB6 := hide (HB5.out.trans (hb6.mono HB5.out.size))
  have HX6 := hide (HX5.out.mono hb6)
  have HF6 := hide (HF5.out.mono hb6)
  clear HF5
  clear hb6 HG5 HR5 HT5 HB5
  clear HX5 G5
  go_wp2_with (first | (refine wpList_load_gd rfl (.tmp 2) rfl w.heap.size rfl G6 ?_) | fail)
  refine (HJX.out _ HR6.out).mono ?_
  rintro e w7 ⟨ya, yc, rfl, hO7, hb7⟩
  have G7 := HG6.out.below hb7 HG6.out.lt
  have HG7 := hide G7
  have HR7 := hide (HR6.out.mono hb7)
  have HT7 := hide (HT6.out.mono hb7)
  have HB7 := hide (HB6.out.trans (hb7.mono HB6.out.size))
  have HX7 := hide (HX6.out.mono hb7)
  have HF7 := hide (HF6.out.mono hb7)
  clear HF6
  clear hb7 HG6 HR6 HT6 HB6
  have HS7 := hide (HSI.out xa xc ya yc w7 HX7.out (Rd.of_own hO7))
  clear hO7 HX6 HX7 G6
  go_wp2_with fail
  refine HS7.out.mono ?_
  rintro e w8 ⟨rfl, hb8⟩
  have G8 := HG7.out.below hb8 HG7.out.lt
  have HG8 := hide G8
  have HR8 := hide (HR7.out.mono hb8)
  have HT8 := hide (HT7.out.mono hb8)
  have HB8 := hide (HB7.out.trans (hb8.mono HB7.out.size))
  have HF8 := hide (HF7.out.mono hb8)
  clear HF7
  clear hb8 HG7 HR7 HT7 HB7
  clear HS7 G7
  rcases HM.out with hm | hm
  · have y1 : ((m : Int) != 1) = false := by simp; omega
    clear hm
    go_wp2_with (first | (refine wpList_load_gd rfl (.tmp 2) rfl w.heap.size rfl G8 ?_) | fail)
    refine (HGX.out _ HR8.out).mono ?_
    rintro e w9 ⟨ma, mc, rfl, hF9, hb9⟩
    have HB9 := hide (HB8.out.trans (hb9.mono HB8.out.size))
    have HC9 := hide (HSR.out la lc ma mc w9 _ _ (HF8.out.mono hb9) hF9.fr)
    clear hb9 hF9 HF8 G8
    go_wp2_with fail
    refine HC9.out.mono ?_
    rintro e w10 ⟨rfl, hb10⟩
    have HB10 := hide (HB9.out.trans (hb10.mono HB9.out.size))
    clear hb10 HC9
    go_wp2_with fail
    go_ret
    exact ⟨rfl, HB10.out⟩
  · have y1 : ((m : Int) != 1) = true := by simp; omega
    have y2 : ((m : Int) != 2) = false := by simp; omega
    clear hm
    go_wp2_with (first | (refine wpList_load_gd rfl (.tmp 2) rfl w.heap.size rfl G8 ?_) | fail)
    refine (HGX.out _ HR8.out).mono ?_
    rintro e w9 ⟨ma, mc, rfl, hF9, hb9⟩
    have HB9 := hide (HB8.out.trans (hb9.mono HB8.out.size))
    have HC9 := hide (HSR.out la lc ma mc w9 _ _ (HF8.out.mono hb9) hF9.fr)
    clear hb9 hF9 HF8 G8
    go_wp2_with fail
    refine HC9.out.mono ?_
    rintro e w10 ⟨rfl, hb10⟩
    have HB10 := hide (HB9.out.trans (hb10.mono HB9.out.size))
    clear hb10 HC9
    go_wp2_with fail
    go_ret
    exact ⟨rfl, HB10.out⟩

end Go.Proofs.YtldgikinmmkhiaaDoor
