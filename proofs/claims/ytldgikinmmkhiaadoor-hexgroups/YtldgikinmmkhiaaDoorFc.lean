/-
  The faces Shortest and Joined. No conditions beyond those that each theorem bears.
-/
import Derived.Test.YtldgikinmmkhiaaDoorSr
namespace Go.Proofs.YtldgikinmmkhiaaDoor
open Go.RowKit Go.Shelf

theorem hF_zero {W H : Int} {zs : List Int} {x : Int} (h : hF W H zs x = 0) : hMay W H zs = true ∧ isP x = true := by
  unfold hF at h
  by_cases h1 : hMay W H zs = true
  · by_cases h2 : isP x = true
    · exact ⟨h1, h2⟩
    · rw [if_pos h1, if_neg h2] at h; omega
  · rw [if_neg h1] at h; omega

theorem isP_nat {x : Int} (h : isP x = true) : ∃ m : Nat, x = m ∧ (m = 1 ∨ m = 2) := by
  unfold isP at h
  rcases of_decide_eq_true h with rfl | rfl
  · exact ⟨1, rfl, Or.inl rfl⟩
  · exact ⟨2, rfl, Or.inr rfl⟩

attribute [local irreducible] toI shr jw jl

set_option maxHeartbeats 4000000 in
theorem Shortest_no (W H : Int) (a : Option Addr) (N c : Nat) (zs : List Int) (x : Int) (w : World) (hf : hF W H zs x ≠ 0) (h : Rd w a N c zs) :
    Calls Tryd.prog 17 #[.agg (gdA W H a N c), .int .i64 x] w fun e w' => e = .returned (.tuple #[.int .i64 0, .int .i64 (hF W H zs x)]) ∧ Below w.heap.size w w' := by
  obtain ⟨w1, hw1⟩ : ∃ w1, w.alloc (.cells (gdA W H a N c) 24) = w1 := ⟨_, rfl⟩
  have B1 : Below w.heap.size w w1 := by rw [← hw1]; exact (Below.refl _ _).alloc (Nat.le_refl _) _
  have G1 : Gd w1 w.heap.size W H a N c := by rw [← hw1]; exact Gd.new _ _ _ _ _ _
  have HM := hide (fault_any W H a N c zs x w1 (h.mono B1))
  have HB1 := hide B1
  generalize hF W H zs x = V at *
  have hv : (V != 0) = true := by simpa using hf
  clear h B1 hf
  go_enter Tryd.func17, Tryd.ntmps17
  go_upto_region 1 with fail
  clear hw1
  go_wp2_with (first | (refine wpList_load_gd rfl (.tmp 2) rfl w.heap.size rfl G1 ?_) | fail)
  refine HM.out.mono ?_
  rintro e w2 ⟨rfl, hb⟩
  have HB2 := hide (HB1.out.trans (hb.mono HB1.out.size))
  clear hb G1 HM
  go_wp2_with fail
  go_ret2
  exact ⟨rfl, HB2.out⟩

set_option maxHeartbeats 4000000 in
theorem Shortest_yes (n cb co N bc m : Nat) (Z : List Int) (w : World) (hf : hF n n Z m = 0) (hn : 1 ≤ n ∧ n ≤ 10) (hN : n * n = N) (hm : m = 1 ∨ m = 2) (hT : Tab w) (h : Rd w (some ⟨cb, co, none⟩) N bc Z) :
    Calls Tryd.prog 17 #[.agg (gdA n n (some ⟨cb, co, none⟩) N bc), .int .i64 m] w fun e w' => e = .returned (.tuple #[.int .i64 (shr n Z m), .int .i64 0]) ∧ Below w.heap.size w w' := by
  obtain ⟨w1, hw1⟩ : ∃ w1, w.alloc (.cells (gdA n n (some ⟨cb, co, none⟩) N bc) 24) = w1 := ⟨_, rfl⟩
  have B1 : Below w.heap.size w w1 := by rw [← hw1]; exact (Below.refl _ _).alloc (Nat.le_refl _) _
  have G1 : Gd w1 w.heap.size n n (some ⟨cb, co, none⟩) N bc := by rw [← hw1]; exact Gd.new _ _ _ _ _ _
  have HM := hide (fault_any n n (some ⟨cb, co, none⟩) N bc Z m w1 (h.mono B1))
  rw [hf] at HM
  have HS := hide (fun W hb => shortest_any n cb co N bc m Z W hn hN hm ((hT.mono B1).mono hb) ((h.mono B1).mono hb))
  have HB1 := hide B1
  have HG1 := hide G1
  clear h hT B1 hf hm
  go_enter Tryd.func17, Tryd.ntmps17
  go_upto_region 1 with fail
  clear hw1
  go_wp2_with (first | (refine wpList_load_gd rfl (.tmp 2) rfl w.heap.size rfl G1 ?_) | fail)
  refine HM.out.mono ?_
  rintro e w2 ⟨rfl, hb⟩
  have HB2 := hide (HB1.out.trans (hb.mono HB1.out.size))
  have G2 := HG1.out.below hb HG1.out.lt
  have HS2 := hide (HS.out w2 hb)
  clear hb G1 HM HS
  go_wp2_with (first | (refine wpList_load_gd rfl (.tmp 2) rfl w.heap.size rfl G2 ?_) | fail)
  refine HS2.out.mono ?_
  rintro e w3 ⟨rfl, hb⟩
  have HB3 := hide (HB2.out.trans (hb.mono HB2.out.size))
  clear hb G2 HS2
  go_wp2_with fail
  go_ret2
  exact ⟨rfl, HB3.out⟩

set_option maxHeartbeats 4000000 in
theorem Joined_no (W H : Int) (a : Option Addr) (N c : Nat) (zs : List Int) (w : World) (hf : hMay W H zs = false) (h : Rd w a N c zs) :
    Calls Tryd.prog 10 #[.agg (gdA W H a N c)] w fun e w' => e = .returned (.tuple #[.int .i64 0, .slice none 0 0, .int .i64 12]) ∧ Below w.heap.size w w' := by
  obtain ⟨w1, hw1⟩ : ∃ w1, w.alloc (.cells (gdA W H a N c) 24) = w1 := ⟨_, rfl⟩
  have B1 : Below w.heap.size w w1 := by rw [← hw1]; exact (Below.refl _ _).alloc (Nat.le_refl _) _
  have G1 : Gd w1 w.heap.size W H a N c := by rw [← hw1]; exact Gd.new _ _ _ _ _ _
  have HM := hide (mayBe_any W H a N c zs w1 (h.mono B1))
  have HB1 := hide B1
  rw [hf] at HM
  clear h B1 hf
  go_enter Tryd.func10, Tryd.ntmps10
  go_upto_region 1 with fail
  clear hw1
  go_wp2_with (first | (refine wpList_load_gd rfl (.tmp 1) rfl w.heap.size rfl G1 ?_) | fail)
  refine HM.out.mono ?_
  rintro e w2 ⟨rfl, hb⟩
  have HB2 := hide (HB1.out.trans (hb.mono HB1.out.size))
  clear hb G1 HM
  go_wp2_with fail
  refine bodyPost_ret (results_tmp3 rfl _ _ _) rfl ?_
  exact ⟨rfl, HB2.out⟩

set_option maxHeartbeats 4000000 in
theorem Joined_yes (n cb co N bc : Nat) (Z : List Int) (w : World) (hf : hMay n n Z = true) (hn : 1 ≤ n ∧ n ≤ 10) (hN : n * n = N) (hT : Tab w) (h : Rd w (some ⟨cb, co, none⟩) N bc Z) :
    Calls Tryd.prog 10 #[.agg (gdA n n (some ⟨cb, co, none⟩) N bc)] w fun e w' => ∃ a c, e = .returned (.tuple #[.int .i64 (jw n Z : Nat), .slice a (jl n Z).length c, .int .i64 0]) ∧ w'.ownsRow w.heap.size 3 1 (.slice a (jl n Z).length c) (jl n Z).length ((toI (jl n Z)).map (Value.int .i64)) ∧ Below w.heap.size w w' := by
  obtain ⟨w1, hw1⟩ : ∃ w1, w.alloc (.cells (gdA n n (some ⟨cb, co, none⟩) N bc) 24) = w1 := ⟨_, rfl⟩
  have B1 : Below w.heap.size w w1 := by rw [← hw1]; exact (Below.refl _ _).alloc (Nat.le_refl _) _
  have G1 : Gd w1 w.heap.size n n (some ⟨cb, co, none⟩) N bc := by rw [← hw1]; exact Gd.new _ _ _ _ _ _
  have HM := hide (mayBe_any n n (some ⟨cb, co, none⟩) N bc Z w1 (h.mono B1))
  rw [hf] at HM
  have HS := hide (fun W hb => joined_any n cb co N bc Z W hn hN ((hT.mono B1).mono hb) ((h.mono B1).mono hb))
  have HB1 := hide B1
  have HG1 := hide G1
  obtain ⟨JL, hJL⟩ : ∃ JL, jl n Z = JL := ⟨_, rfl⟩
  rw [hJL] at HS ⊢
  obtain ⟨jn, hjn⟩ : ∃ jn, JL.length = jn := ⟨_, rfl⟩
  rw [hjn] at HS ⊢
  clear h hT B1 hf hJL hjn
  go_enter Tryd.func10, Tryd.ntmps10
  go_upto_region 1 with fail
  clear hw1
  go_wp2_with (first | (refine wpList_load_gd rfl (.tmp 1) rfl w.heap.size rfl G1 ?_) | fail)
  refine HM.out.mono ?_
  rintro e w2 ⟨rfl, hb⟩
  have HB2 := hide (HB1.out.trans (hb.mono HB1.out.size))
  have G2 := HG1.out.below hb HG1.out.lt
  have HS2 := hide (HS.out w2 hb)
  clear hb G1 HM HS
  go_wp2_with (first | (refine wpList_load_gd rfl (.tmp 1) rfl w.heap.size rfl G2 ?_) | fail)
  refine HS2.out.mono ?_
  rintro e w3 ⟨a, c, rfl, hO, hb⟩
  have HB3 := hide (HB2.out.trans (hb.mono HB2.out.size))
  have HO := hide (own_base hO HB2.out.size)
  clear hb hO G2 HS2
  go_wp2_with fail
  refine bodyPost_ret (results_tmp3 rfl _ _ _) rfl ?_
  exact ⟨a, c, rfl, HO.out, HB3.out⟩

end Go.Proofs.YtldgikinmmkhiaaDoor
