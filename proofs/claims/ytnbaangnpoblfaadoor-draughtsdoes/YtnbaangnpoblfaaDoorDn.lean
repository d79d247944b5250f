/-
  The start of the game as the document says it. No conditions beyond those that each theorem bears.
-/
import Derived.Test.YtnbaangnpoblfaaDoorNe
import Derived.Test.YtnbaangnpoblfaaDoorDy
namespace Go.Proofs.YtnbaangnpoblfaaDoor
open Go.RowKit Go.Shelf

/-- What lies at a place at the start. -/
def stv (p : Nat) : Int := if 20 < p then 1 else if 1 ≤ p ∧ p ≤ 12 then -1 else 0
def dnL (j : Nat) : List Int := (List.range j).map stv
theorem dnL_zero : dnL 0 = [] := rfl
theorem dnL_succ (j : Nat) : dnL (j + 1) = dnL j ++ [stv j] := by
  unfold dnL
  rw [List.range_succ, List.map_append, List.map_cons, List.map_nil]
theorem dnL_all : dnL 33 = st0 := by decide +kernel

theorem build24e (t : Int) (w : World) : (Instr.build 24 #[(1, .int .i64 t)]).run Tryd.prog w = .ok (.agg (dgA none 0 0 t)) w := by
  simp [Instr.build, go_sem, run_underlying Tryd.underlying24]

attribute [local go_sem] build24e
attribute [local irreducible] dnL stv st0

set_option maxRecDepth 100000 in
set_option maxHeartbeats 8000000 in
theorem DraughtsNew_any (w : World) : Calls Tryd.prog 13 #[] w fun e w' => ∃ a c, e = .returned (.agg (dgA a 33 c 1)) ∧ Rd w' a 33 c st0 ∧ Below w.heap.size w w' := by
  have HALL := hide dnL_all
  obtain ⟨w1, hw1⟩ : ∃ w1, (w.alloc (.cells #[.slice none 0 0, .int .i64 0] 24)).alloc (.cells #[.slice none 0 0, .int .i64 0] 24) = w1 := ⟨_, rfl⟩
  have HB1 : Hid (Below w.heap.size w w1) := hide (by rw [← hw1]; exact ((Below.refl _ _).alloc (Nat.le_refl _) _).alloc (by simp) _)
  have Z1 : Dg w1 w.heap.size none 0 0 0 := by rw [← hw1]; exact (Dg.new _ _ _ _ _).old _
  have KZ : Dg w1 (w.heap.size + 1) none 0 0 0 := by
    rw [← hw1]
    have := Dg.new (w.alloc (.cells #[.slice none 0 0, .int .i64 0] 24)) none 0 0 0
    rw [World.size_alloc] at this
    exact this
  have hs1 : w.heap.size + 2 ≤ w1.heap.size ∧ w1.heap.size ≤ w.heap.size + 2 := by rw [← hw1]; simp
  have HZ1 := hide Z1
  clear Z1
  go_enter Tryd.func13, Tryd.ntmps13
  go_upto_region 2 with (refine wpList_store_dg rfl (.tmp 1) (.tmp 4) rfl (w.heap.size + 1) rfl rfl KZ ?_; intro w2 G2 kk2)
  clear hw1 KZ
  obtain ⟨gb, hgb⟩ : ∃ gb, w.heap.size + 1 = gb := ⟨_, rfl⟩
  rw [hgb] at G2 kk2 ⊢
  have HK2 : Hid (Keeps (fun k => k = gb ∨ w1.heap.size ≤ k) w1 w2) := hide (kk2.mono (fun _ _ e => Or.inl e))
  have HG2 := hide G2
  clear kk2 G2
  go_wp2_with fail
  go_loopw [2] (fun u wr => ∃ (j cp : Nat) (ad : Option Addr), u = .int .i64 j ∧ j ≤ 33 ∧ Hid (Dg wr gb ad j cp 1) ∧ Hid (wr.ownsRow w1.heap.size 3 1 (.slice ad j cp) j ((dnL j).map (Value.int .i64))) ∧ Hid (Keeps (fun k => k = gb ∨ w1.heap.size ≤ k) w1 wr)) (fun u _ => 33 - (intOf u).toNat)
  case atStart => exact ⟨0, 0, none, rfl, by omega, HG2, hide (by rw [dnL_zero]; exact World.ownsRow_nil _ _ _ _), HK2⟩
  case round =>
    obtain ⟨j, cp, ad, rfl, hj, hG, hL, hK⟩ := hrel
    by_cases hlt : j < 33
    · have hlt' : (j : Int) < 33 := by omega
      have HS0 := hide (dnL_succ j)
      have hcase : (20 < j) ∨ (1 ≤ j ∧ j ≤ 12) ∨ (¬ 20 < j ∧ ¬ (1 ≤ j ∧ j ≤ 12)) := by omega
      rcases hcase with hq | hq | hq
      · have HW : Hid (∀ W, Calls Tryd.prog 38 #[.int .i64 (j : Nat), .int .i64 1, .int .i64 12] W fun e w' => e = .returned (.bool false) ∧ w' = W) := hide (fun W => within_eq (by rw [decide_eq_false_iff_not]; omega) W)
        have hg20 : (j : Int) > 20 := by omega
        have HV : Hid (stv j = 1) := hide (by unfold stv; rw [if_pos hq])
        rw [HV.out] at HS0
        have HS := HS0
        clear hq HS0
        have hR1 : Rd (World.alloc wr (.cells #[.int .i64 (1)] 3)) (some ⟨wr.heap.size, 0, none⟩) 1 1 [1] := Rd.of_blk (Blk.new wr 3 [1] _ rfl) rfl (by decide)
        have hOa := hL.out.alloc (.cells #[.int .i64 (1)] 3)
        have hsz : w1.heap.size ≤ (World.alloc wr (.cells #[.int .i64 (1)] 3)).heap.size := by have := hK.out.size; rw [World.size_alloc]; exact Nat.le_succ_of_le this
        have KA := hK.out.alloc (.cells #[.int .i64 (1)] 3)
        have GA := hG.out.old (.cells #[.int .i64 (1)] 3)
        obtain ⟨g0, -⟩ := hG.out.cells
        have HL := hide hL.out
        clear hK hG hL
        go_wp2_with fail
        refine (HW.out _).mono ?_
        rintro e w3 ⟨rfl, hw3⟩
        subst w3
        go_wp2_with (at_builtin; refine wpList_append_rd _ rfl _ _ rfl w1.heap.size _ j (dnL j) rfl hOa (some ⟨wr.heap.size, 0, none⟩) 1 1 [1] rfl hR1 (by omega) hsz ?_)
        intro v' w6 hO6 hg6
        obtain ⟨ad6, cp6, rfl⟩ := slice_form hO6
        have K6 : Keeps (fun k => k = gb ∨ w1.heap.size ≤ k) w1 w6 := KA.trans ⟨hg6.os, hg6.tape, hg6.output, hg6.size, fun i hi hx => hg6.block i hi (fun e => hx (Or.inr (by first | exact (HL.out.lt _ e).1 | exact (HL.out.lt _ e.symm).1)))⟩
        have G6 : Dg w6 gb ad j cp 1 := (hg6.block _ GA.lt (fun e => by have h6 : w1.heap.size ≤ gb := (by first | exact (HL.out.lt _ e).1 | exact (HL.out.lt _ e.symm).1); omega)).trans GA
        have HO6 := hide hO6
        have HK6 := hide K6
        have HG6 := hide G6
        obtain ⟨k2, -⟩ := G6.cells
        have f2 := G6.frozen 0
        clear hO6 hg6 hR1 hOa KA GA K6 G6 g0 HL hsz
        go_wp2_with fail
        refine ⟨⟨j + 1, cp6, ad6, by go_num, by omega, ?_, ?_, ?_⟩, by simp [intOf]; omega⟩
        · exact hide (HG6.out.setP _ _ _)
        · rw [HS.out, List.map_append]
          exact hide (own_blk HO6.out (fun g hg => by
            have hgl := (HO6.out.lt g hg).1
            exact (Keeps.set1 w6 gb 0 _).block _ (HO6.out.lt g hg).2 (by show ¬ g = gb; omega)))
        · exact hide (HK6.out.setCell (p := ⟨gb, 0, none⟩) (Or.inl rfl) _)
      · have HW : Hid (∀ W, Calls Tryd.prog 38 #[.int .i64 (j : Nat), .int .i64 1, .int .i64 12] W fun e w' => e = .returned (.bool true) ∧ w' = W) := hide (fun W => within_eq (by rw [decide_eq_true_iff]; omega) W)
        have hg20 : ¬ (j : Int) > 20 := by omega
        have HV : Hid (stv j = -1) := hide (by unfold stv; rw [if_neg (by omega), if_pos hq])
        rw [HV.out] at HS0
        have HS := HS0
        clear hq HS0
        have hR1 : Rd (World.alloc wr (.cells #[.int .i64 (-1)] 3)) (some ⟨wr.heap.size, 0, none⟩) 1 1 [-1] := Rd.of_blk (Blk.new wr 3 [-1] _ rfl) rfl (by decide)
        have hOa := hL.out.alloc (.cells #[.int .i64 (-1)] 3)
        have hsz : w1.heap.size ≤ (World.alloc wr (.cells #[.int .i64 (-1)] 3)).heap.size := by have := hK.out.size; rw [World.size_alloc]; exact Nat.le_succ_of_le this
        have KA := hK.out.alloc (.cells #[.int .i64 (-1)] 3)
        have GA := hG.out.old (.cells #[.int .i64 (-1)] 3)
        obtain ⟨g0, -⟩ := hG.out.cells
        have HL := hide hL.out
        clear hK hG hL
        go_wp2_with fail
        refine (HW.out _).mono ?_
        rintro e w3 ⟨rfl, hw3⟩
        subst w3
        go_wp2_with (at_builtin; refine wpList_append_rd _ rfl _ _ rfl w1.heap.size _ j (dnL j) rfl hOa (some ⟨wr.heap.size, 0, none⟩) 1 1 [-1] rfl hR1 (by omega) hsz ?_)
        intro v' w6 hO6 hg6
        obtain ⟨ad6, cp6, rfl⟩ := slice_form hO6
        have K6 : Keeps (fun k => k = gb ∨ w1.heap.size ≤ k) w1 w6 := KA.trans ⟨hg6.os, hg6.tape, hg6.output, hg6.size, fun i hi hx => hg6.block i hi (fun e => hx (Or.inr (by first | exact (HL.out.lt _ e).1 | exact (HL.out.lt _ e.symm).1)))⟩
        have G6 : Dg w6 gb ad j cp 1 := (hg6.block _ GA.lt (fun e => by have h6 : w1.heap.size ≤ gb := (by first | exact (HL.out.lt _ e).1 | exact (HL.out.lt _ e.symm).1); omega)).trans GA
        have HO6 := hide hO6
        have HK6 := hide K6
        have HG6 := hide G6
        obtain ⟨k2, -⟩ := G6.cells
        have f2 := G6.frozen 0
        clear hO6 hg6 hR1 hOa KA GA K6 G6 g0 HL hsz
        go_wp2_with fail
        refine ⟨⟨j + 1, cp6, ad6, by go_num, by omega, ?_, ?_, ?_⟩, by simp [intOf]; omega⟩
        · exact hide (HG6.out.setP _ _ _)
        · rw [HS.out, List.map_append]
          exact hide (own_blk HO6.out (fun g hg => by
            have hgl := (HO6.out.lt g hg).1
            exact (Keeps.set1 w6 gb 0 _).block _ (HO6.out.lt g hg).2 (by show ¬ g = gb; omega)))
        · exact hide (HK6.out.setCell (p := ⟨gb, 0, none⟩) (Or.inl rfl) _)
      · have HW : Hid (∀ W, Calls Tryd.prog 38 #[.int .i64 (j : Nat), .int .i64 1, .int .i64 12] W fun e w' => e = .returned (.bool false) ∧ w' = W) := hide (fun W => within_eq (by rw [decide_eq_false_iff_not]; omega) W)
        have hg20 : ¬ (j : Int) > 20 := by omega
        have HV : Hid (stv j = 0) := hide (by unfold stv; rw [if_neg hq.1, if_neg hq.2])
        rw [HV.out] at HS0
        have HS := HS0
        clear hq HS0
        have hR1 : Rd (World.alloc wr (.cells #[.int .i64 (0)] 3)) (some ⟨wr.heap.size, 0, none⟩) 1 1 [0] := Rd.of_blk (Blk.new wr 3 [0] _ rfl) rfl (by decide)
        have hOa := hL.out.alloc (.cells #[.int .i64 (0)] 3)
        have hsz : w1.heap.size ≤ (World.alloc wr (.cells #[.int .i64 (0)] 3)).heap.size := by have := hK.out.size; rw [World.size_alloc]; exact Nat.le_succ_of_le this
        have KA := hK.out.alloc (.cells #[.int .i64 (0)] 3)
        have GA := hG.out.old (.cells #[.int .i64 (0)] 3)
        obtain ⟨g0, -⟩ := hG.out.cells
        have HL := hide hL.out
        clear hK hG hL
        go_wp2_with fail
        refine (HW.out _).mono ?_
        rintro e w3 ⟨rfl, hw3⟩
        subst w3
        go_wp2_with (at_builtin; refine wpList_append_rd _ rfl _ _ rfl w1.heap.size _ j (dnL j) rfl hOa (some ⟨wr.heap.size, 0, none⟩) 1 1 [0] rfl hR1 (by omega) hsz ?_)
        intro v' w6 hO6 hg6
        obtain ⟨ad6, cp6, rfl⟩ := slice_form hO6
        have K6 : Keeps (fun k => k = gb ∨ w1.heap.size ≤ k) w1 w6 := KA.trans ⟨hg6.os, hg6.tape, hg6.output, hg6.size, fun i hi hx => hg6.block i hi (fun e => hx (Or.inr (by first | exact (HL.out.lt _ e).1 | exact (HL.out.lt _ e.symm).1)))⟩
        have G6 : Dg w6 gb ad j cp 1 := (hg6.block _ GA.lt (fun e => by have h6 : w1.heap.size ≤ gb := (by first | exact (HL.out.lt _ e).1 | exact (HL.out.lt _ e.symm).1); omega)).trans GA
        have HO6 := hide hO6
        have HK6 := hide K6
        have HG6 := hide G6
        obtain ⟨k2, -⟩ := G6.cells
        have f2 := G6.frozen 0
        clear hO6 hg6 hR1 hOa KA GA K6 G6 g0 HL hsz
        go_wp2_with fail
        refine ⟨⟨j + 1, cp6, ad6, by go_num, by omega, ?_, ?_, ?_⟩, by simp [intOf]; omega⟩
        · exact hide (HG6.out.setP _ _ _)
        · rw [HS.out, List.map_append]
          exact hide (own_blk HO6.out (fun g hg => by
            have hgl := (HO6.out.lt g hg).1
            exact (Keeps.set1 w6 gb 0 _).block _ (HO6.out.lt g hg).2 (by show ¬ g = gb; omega)))
        · exact hide (HK6.out.setCell (p := ⟨gb, 0, none⟩) (Or.inl rfl) _)
    · obtain rfl : j = 33 := by omega
      have G5 := hG.out
      have Z5 := HZ1.out.keeps hK.out (by show ¬ (w.heap.size = gb ∨ w1.heap.size ≤ w.heap.size); omega)
      go_wp2_with (first
        | refine wpList_load_dg rfl (.tmp 1) rfl gb rfl G5 ?_
        | (refine wpList_store_dg rfl (.tmp 0) (.tmp 19) rfl w.heap.size rfl rfl Z5 ?_; intro w7 k7 kk7))
      refine bodyPost_ret (results_dg rfl _ _ w.heap.size rfl k7) rfl ⟨ad, cp, rfl, ?_, ?_⟩
      · rw [← HALL.out]
        exact Rd.of_own (own_blk hL.out (fun g hg => by
          have hgl := (hL.out.lt g hg).1
          exact kk7.block _ (hL.out.lt g hg).2 (by show ¬ g = w.heap.size; omega)))
      · exact HB1.out.trans (((hK.out.mono (Y := fun q => w.heap.size ≤ q) (fun q _ e => by omega)).trans (kk7.mono (fun q _ e => by omega))).below (B := w.heap.size) HB1.out.size (fun q hq e => by omega))

end Go.Proofs.YtnbaangnpoblfaaDoor
