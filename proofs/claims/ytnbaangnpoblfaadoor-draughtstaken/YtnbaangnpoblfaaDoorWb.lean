/-
  Ways that go on, numbers of places, crowning: walked. No conditions beyond those that each theorem bears.
-/
import Derived.Test.YtnbaangnpoblfaaDoorWa
namespace Go.Proofs.YtnbaangnpoblfaaDoor
open Go.RowKit

/-- The bit of a place's number, and back. -/
def bitn (n : Nat) : Nat := (n - 1) + (n - 1) / 8
def numb (k : Nat) : Nat := k - k / 9 + 1

set_option maxHeartbeats 2000000 in
theorem on_any (W : List Nat) (ov tz nw : Nat) (h2 : W.length ≤ 12) (hov : ov < 2 ^ 64) (hnw : nw < 2 ^ 64) (w : World) :
    Calls Tryd.prog 82 #[.agg (wyL W ov).toArray, .int .u64 (tz : Nat), .int .u64 (nw : Nat)] w fun e w' => e = .returned (.agg (wyL (W ++ [tz]) (ov ||| nw)).toArray) ∧ Below w.heap.size w w' := by
  have h13 : W.length ≤ 13 := by omega
  obtain ⟨w1, hw1⟩ : ∃ w1, (w.alloc (.cells (wyL W ov).toArray 65)).alloc (.cells #[.int .u64 0, .int .u64 0, .int .u64 0, .int .u64 0, .int .u64 0, .int .u64 0, .int .u64 0, .int .u64 0, .int .u64 0, .int .u64 0, .int .u64 0, .int .u64 0, .int .u64 0, .int .i64 0, .int .u64 0] 65) = w1 := ⟨_, rfl⟩
  have hs1 : w1.heap.size = w.heap.size + 2 := by rw [← hw1]; simp
  have B1 : Below w.heap.size w w1 := by rw [← hw1]; exact ((Below.refl _ _).alloc (Nat.le_refl _) _).alloc (by simp) _
  have V : Vb w1 w.heap.size 65 (wyL W ov) := by rw [← hw1]; exact (Vb.new _ _ _).old _
  have V2 : Vb w1 (w.heap.size + 1) 65 (wyL [] 0) := by
    rw [← hw1]
    have := Vb.new (w.alloc (.cells (wyL W ov).toArray 65)) 65 (wyL [] 0)
    rw [World.size_alloc] at this
    exact this
  have HN : Hid ((W ++ [tz]).length ≤ 13) := hide (by simp; omega)
  have HL : Hid ((wyL (W ++ [tz]) (ov ||| nw)).length = 15) := hide (wyL_len HN.out)
  have HON : Hid ((((wyL W ov).set W.length (.int .u64 (tz : Nat))).set 13 (.int .i64 ((W.length + 1 : Nat) : Int))).set 14 (.int .u64 (ov ||| nw : Nat)) = wyL (W ++ [tz]) (ov ||| nw)) := hide (wy_on h2)
  obtain ⟨m0, hm0⟩ := wy_at0 (W := W) (ov := ov) (i := W.length) h13 (by omega)
  have c13 := V.cell (wy_long (ov := ov) h13)
  have cn := V.cell hm0
  have fn := V.frozen W.length
  have l13 := wy_long (ov := ov) h13
  have l14 := wy_over (ov := ov) h13
  have eor := or_nat hov hnw
  have V0 := wyL_one (W ++ [tz]) (ov ||| nw)
  obtain ⟨n, hn⟩ : ∃ n, W.length = n := ⟨_, rfl⟩
  rw [hn] at c13 cn fn HON h2 l13
  obtain ⟨OV, hOV⟩ : ∃ OV, ov ||| nw = OV := ⟨_, rfl⟩
  rw [hOV] at eor HON HL V0 ⊢
  have HV0 := hide V0
  have HL13 := hide l13
  have HL14 := hide l14
  generalize hLL : wyL W ov = LL at *
  have HV := hide V
  have HV2 := hide V2
  have HB1 := hide B1
  have hn12 : (n : Int) ≤ 12 := by omega
  have K1 : (n : Int) + 1 = ((n + 1 : Nat) : Int) := by omega
  generalize hM : n + 1 = M at *
  have HM : Hid (n ≠ 13 ∧ n ≠ 14) := hide (by omega)
  clear V V2 B1 V0 l13 l14 hm0 hLL hn hOV hov hnw hM
  go_enter Tryd.func82, Tryd.ntmps82
  go_upto_region 1 with fail
  skip
  clear hw1
  go_upto_region 2 with fail
  have V3 := HV.out.set n (.int .u64 (tz : Nat))
  have V3b := HV2.out.other (show w.heap.size + 1 ≠ w.heap.size by omega) n (.int .u64 (tz : Nat))
  have HB3 := hide (HB1.out.setCell (p := ⟨w.heap.size, n, none⟩) (Nat.le_refl _) (.int .u64 (tz : Nat)))
  generalize w1.setCell ⟨w.heap.size, n, none⟩ (.int .u64 (tz : Nat)) = w3 at *
  have c3 := V3.cell (i := 13) (v := .int .i64 (n : Nat)) (by rw [List.getElem?_set_ne HM.out.1]; exact HL13.out)
  have f3 := V3.frozen 13
  have HV3 := hide V3
  have HV3b := hide V3b
  clear V3 V3b c13 cn fn HV HV2 HB1
  go_upto_region 3 with fail
  have V4 := HV3.out.set 13 (.int .i64 (M : Nat))
  have V4b := HV3b.out.other (show w.heap.size + 1 ≠ w.heap.size by omega) 13 (.int .i64 (M : Nat))
  have HB4 := hide (HB3.out.setCell (p := ⟨w.heap.size, 13, none⟩) (Nat.le_refl _) (.int .i64 (M : Nat)))
  generalize w3.setCell ⟨w.heap.size, 13, none⟩ (.int .i64 (M : Nat)) = w4 at *
  have c4 := V4.cell (i := 14) (v := .int .u64 (ov : Nat)) (by rw [List.getElem?_set_ne (by decide), List.getElem?_set_ne HM.out.2]; exact HL14.out)
  have f4 := V4.frozen 14
  have HV4 := hide V4
  have HV4b := hide V4b
  clear V4 V4b c3 f3 HV3 HV3b HB3
  go_upto_region 4 with fail
  have V5 := HV4.out.set 14 (.int .u64 (OV : Nat))
  rw [HON.out] at V5
  have V5b := HV4b.out.other (show w.heap.size + 1 ≠ w.heap.size by omega) 14 (.int .u64 (OV : Nat))
  have HB5 := hide (HB4.out.setCell (p := ⟨w.heap.size, 14, none⟩) (Nat.le_refl _) (.int .u64 (OV : Nat)))
  generalize w4.setCell ⟨w.heap.size, 14, none⟩ (.int .u64 (OV : Nat)) = w5 at *
  clear c4 f4 HV4 HV4b HB4
  go_wp2_with (first
    | refine wpList_load_wy rfl (.tmp 3) rfl w.heap.size rfl HN.out V5 ?_
    | (refine wpList_store_vb rfl 65 (.tmp 6) (.tmp 21) rfl (w.heap.size + 1) _ _ rfl rfl V5b (by rw [HL.out]; rfl) (by rw [HL.out]; exact size65) HV0.out ?_; intro w6 k6 kk6))
  refine bodyPost_ret (results_wy rfl _ _ (w.heap.size + 1) rfl HN.out k6) rfl ⟨rfl, ?_⟩
  exact HB5.out.trans ((kk6.mono (Y := fun k => w.heap.size ≤ k) (fun k _ e => by omega)).below HB5.out.size (fun k hk e => by omega))

theorem wy_begun (f : Nat) : (wyL [] 0).set 0 (.int .u64 (f : Nat)) = (wyL [f] 0).set 13 (.int .i64 0) := rfl

set_option maxHeartbeats 2000000 in
theorem begun_any (f : Nat) (w : World) :
    Calls Tryd.prog 65 #[.int .u64 (f : Nat)] w fun e w' => e = .returned (.agg (wyL [f] 0).toArray) ∧ Below w.heap.size w w' := by
  obtain ⟨w1, hw1⟩ : ∃ w1, w.alloc (.cells #[.int .u64 0, .int .u64 0, .int .u64 0, .int .u64 0, .int .u64 0, .int .u64 0, .int .u64 0, .int .u64 0, .int .u64 0, .int .u64 0, .int .u64 0, .int .u64 0, .int .u64 0, .int .i64 0, .int .u64 0] 65) = w1 := ⟨_, rfl⟩
  have hs1 : w1.heap.size = w.heap.size + 1 := by rw [← hw1]; simp
  have B1 : Below w.heap.size w w1 := by rw [← hw1]; exact (Below.refl _ _).alloc (Nat.le_refl _) _
  have V1 : Vb w1 w.heap.size 65 (wyL [] 0) := by rw [← hw1]; exact Vb.new _ _ _
  have HB1 := hide B1
  have HV1 := hide V1
  have HS := hide hs1
  clear B1 V1 hs1
  go_enter Tryd.func65, Tryd.ntmps65
  go_upto_region 1 with fail
  skip
  clear hw1
  go_upto_region 2 with fail
  obtain ⟨w2, hw2⟩ : ∃ w2, w1.alloc (.cells #[.int .u64 0, .int .u64 0, .int .u64 0, .int .u64 0, .int .u64 0, .int .u64 0, .int .u64 0, .int .u64 0, .int .u64 0, .int .u64 0, .int .u64 0, .int .u64 0, .int .u64 0, .int .i64 1, .int .u64 0] 65) = w2 := ⟨_, rfl⟩
  have V2 : Vb w2 w1.heap.size 65 (wyL [0] 0) := by rw [← hw2]; exact Vb.new _ _ _
  have V1 : Vb w2 w.heap.size 65 (wyL [] 0) := by rw [← hw2]; exact HV1.out.old _
  have HB2 := hide (HB1.out.alloc HB1.out.size (.cells #[.int .u64 0, .int .u64 0, .int .u64 0, .int .u64 0, .int .u64 0, .int .u64 0, .int .u64 0, .int .u64 0, .int .u64 0, .int .u64 0, .int .u64 0, .int .u64 0, .int .u64 0, .int .i64 1, .int .u64 0] 65))
  rw [hw2] at HB2 ⊢
  clear hw2 HB1 HV1
  have c0 := V2.cell (i := 0) (v := .int .u64 0) rfl
  have f0 := V2.frozen 0
  have HV2 := hide V2
  have HV1 := hide V1
  clear V1 V2
  go_upto_region 3 with fail
  have V3 : Vb _ w1.heap.size 65 (wyL [f] 0) := HV2.out.set 0 (.int .u64 (f : Nat))
  have V3b := HV1.out.other (show w.heap.size ≠ w1.heap.size by have := HS.out; omega) 0 (.int .u64 (f : Nat))
  have HB3 := hide (HB2.out.setCell (p := ⟨w1.heap.size, 0, none⟩) (by show w.heap.size ≤ w1.heap.size; have := HS.out; omega) (.int .u64 (f : Nat)))
  generalize w2.setCell ⟨w1.heap.size, 0, none⟩ (.int .u64 (f : Nat)) = w3 at *
  clear c0 f0 HB2 HV1 HV2
  have HV0 := hide (wyL_one [f] 0)
  have HN1 : Hid ([f].length ≤ 13) := hide (by simp)
  go_wp2_with (first
    | refine wpList_load_wy rfl (.tmp 3) rfl w1.heap.size rfl HN1.out V3 ?_
    | (refine wpList_store_vb rfl 65 (.tmp 2) (.tmp 8) rfl w.heap.size _ _ rfl rfl V3b rfl size65 HV0.out ?_; intro w6 k6 kk6))
  refine bodyPost_ret (results_wy rfl _ _ w.heap.size rfl HN1.out k6) rfl ⟨rfl, ?_⟩
  exact HB3.out.trans ((kk6.mono (Y := fun k => w.heap.size ≤ k) (fun k _ e => by omega)).below HB3.out.size (fun k hk e => by omega))

set_option maxHeartbeats 1000000 in
theorem number_any (k : Nat) (hk : k < 64) (w : World) (hT : TzT w) :
    Calls Tryd.prog 66 #[.int .u64 (2 ^ k : Nat)] w fun e w' => e = .returned (.int .i64 (numb k : Nat)) ∧ w' = w := by
  have HC := hide (tz_any k hk w hT)
  obtain ⟨m, hm⟩ : ∃ m, 2 ^ k = m := ⟨_, rfl⟩
  rw [hm] at HC ⊢
  have hq2 : (k : Int) / 9 = ((k / 9 : Nat) : Int) := by omega
  have hq1 : Int.tdiv (k : Int) 9 = ((k / 9 : Nat) : Int) := by rw [Int.tdiv_eq_ediv_of_nonneg (by omega)]; omega
  have hy : k / 9 ≤ k := by omega
  have e1 : (numb k : Int) = (k : Int) - ((k / 9 : Nat) : Int) + 1 := by unfold numb; omega
  generalize numb k = R at *
  generalize k / 9 = y at *
  clear hm hT
  go_enter Tryd.func66, Tryd.ntmps66
  go_wp2_with fail
  refine HC.out.mono ?_
  rintro e w1 ⟨rfl, hw1⟩
  subst w1
  go_wp2
  go_ret
  exact ⟨by first | rfl | exact ret_int (by omega), rfl⟩

set_option maxHeartbeats 1000000 in
theorem placeOf_any (n : Nat) (h1 : 1 ≤ n) (h2 : n ≤ 32) (w : World) :
    Calls Tryd.prog 59 #[.int .i64 (n : Nat)] w fun e w' => e = .returned (.int .u64 (2 ^ bitn n : Nat)) ∧ w' = w := by
  obtain ⟨a, ha⟩ : ∃ a, n - 1 = a := ⟨_, rfl⟩
  have ha1 : (n : Int) - 1 = (a : Int) := by omega
  have hq2 : (a : Int) / 8 = ((a / 8 : Nat) : Int) := by omega
  have hq1 : Int.tdiv (a : Int) 8 = ((a / 8 : Nat) : Int) := by rw [Int.tdiv_eq_ediv_of_nonneg (by omega)]; omega
  obtain ⟨K, hK⟩ : ∃ K, bitn n = K := ⟨_, rfl⟩
  have e0 : (a : Int) + ((a / 8 : Nat) : Int) = (K : Int) := by rw [← hK]; unfold bitn; rw [ha]; omega
  have hK64 : K ≤ 35 := by rw [← hK]; unfold bitn; omega
  rw [hK]
  have hy : a / 8 ≤ 4 := by omega
  have ha2 : a ≤ 32 := by omega
  generalize a / 8 = y at *
  clear hK ha
  have e2 : IntKind.u64.wrap (2 ^ K : Int) = ((2 ^ K : Nat) : Int) := by
    rw [show ((2 : Int) ^ K) = ((2 ^ K : Nat) : Int) by rw [Int.natCast_pow]; rfl]
    exact wrap_nat (by rw [← p64]; exact Nat.pow_lt_pow_right (by omega) (by omega))
  have hK3 : (K : Int) ≤ 64 := by omega
  obtain ⟨R, hR⟩ : ∃ R, (2 ^ K : Nat) = R := ⟨_, rfl⟩
  rw [hR] at e2 ⊢
  clear hR
  go_enter Tryd.func59, Tryd.ntmps59
  go_wp2
  go_ret
  refine ⟨?_, rfl⟩
  first | rfl | (rw [← e2]; rfl) | (rw [← e2]; simp)

/-- Whose a piece is. -/
def own3 (x : Int) : Nat := if 0 < x then 1 else if x < 0 then 2 else 0

theorem owner_any (x : Int) (w : World) : Calls Tryd.prog 32 #[.int .i64 x] w fun e w' => e = .returned (.int .i64 (own3 x : Nat)) ∧ w' = w := by
  by_cases h1 : 0 < x
  · have e : own3 x = 1 := by unfold own3; rw [if_pos h1]
    rw [e]
    go_enter Tryd.func32, Tryd.ntmps32
    go_wp2
    go_ret
    exact ⟨rfl, rfl⟩
  · by_cases h2 : x < 0
    · have e : own3 x = 2 := by unfold own3; rw [if_neg h1, if_pos h2]
      rw [e]
      go_enter Tryd.func32, Tryd.ntmps32
      go_wp2
      go_ret
      exact ⟨rfl, rfl⟩
    · have e : own3 x = 0 := by unfold own3; rw [if_neg h1, if_neg h2]
      rw [e]
      go_enter Tryd.func32, Tryd.ntmps32
      go_wp2
      go_ret
      exact ⟨rfl, rfl⟩

theorem crowning_any (b : Bm) (hm : b.mov = 1 ∨ b.mov = 2) (w : World) : Calls Tryd.prog 71 #[.agg (bdL b).toArray] w fun e w' => e = .returned (.int .u64 (b.crw : Nat)) ∧ Below w.heap.size w w' := by
  rw [bdL_arr]
  obtain ⟨o, t, k, m⟩ := b
  dsimp only at hm ⊢
  have HB : Hid (Below w.heap.size w (w.alloc (.cells (bdA o t k m) 60))) := hide ((Below.refl _ _).alloc (Nat.le_refl _) _)
  obtain ⟨G, hG⟩ : ∃ G, Bm.crw ⟨o, t, k, m⟩ = G := ⟨_, rfl⟩
  rw [hG]
  rcases hm with rfl | rfl
  · obtain rfl : 15 = G := by rw [← hG]; rfl
    clear hG
    go_enter Tryd.func71, Tryd.ntmps71
    go_wp2
    go_ret
    exact ⟨rfl, HB.out⟩
  · obtain rfl : 32212254720 = G := by rw [← hG]; rfl
    clear hG
    go_enter Tryd.func71, Tryd.ntmps71
    go_wp2
    go_ret
    exact ⟨rfl, HB.out⟩

end Go.Proofs.YtnbaangnpoblfaaDoor
