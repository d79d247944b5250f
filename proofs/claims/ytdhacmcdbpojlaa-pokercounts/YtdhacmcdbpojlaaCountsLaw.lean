/-
  PokerCounts: the program's counts are the reference's. No conditions beyond those that each theorem bears.
-/
import Derived.Test.YtdhacmcdbpojlaaRanks
namespace Go.Proofs.Ytdhacmcdbpojlaa
open Go.RowKit Go.Shelf

set_option maxHeartbeats 1000000 in
theorem ClassCounts_any (w : World) :
    Calls Try.prog 16 #[] w fun e w' => ∃ b, ∃ T : List Nat, e = .returned (.slice (some ⟨b, 0, none⟩) 9 9) ∧ Ow w' b 9 T ∧ (∀ c, T.getD c 0 = cntC ((comb 5 (List.range 52)).map (pick (List.range 52))) c) ∧ Below w.heap.size w w' := by
  obtain ⟨i0, hi, hz0, hz1, hz2⟩ := info_parts Try.info3
  have hmm : 9 ≤ maxLen := by unfold maxLen; omega
  have hby : i0.bytes * 9 ≤ 281474976710656 := by rw [hz2]; omega
  go_enter Try.func16, Try.ntmps16
  go_wp2_with (at_make; refine wpList_make_full w rfl _ _ 22 rfl w.heap.size 3 i0 (.int .i64 0) 1 Try.underlying22 hi hz0 hz1 _ _ _ _ 9 rfl rfl (by omega) (by omega) hby hmm (Nat.le_refl _) ?_)
  intro w1 hown hgrow
  have hb1 : Below w.heap.size w w1 := (Below.refl _ _).grown hgrow (Nat.le_refl _) (fun k hk => by simp at hk)
  rw [made_ints] at hown
  have hr0 : List.replicate 9 (0 : Int) = toI (List.replicate 9 0) := rfl
  rw [hr0] at hown
  have HO1 : Hid (Ow w1 w.heap.size 9 (List.replicate 9 0)) := hide hown
  have HB1 := hide hb1
  clear hgrow hown hb1 hr0 hmm hby hi hz0 hz1 hz2
  go_wp2_with fail
  refine (ranks_any w.heap.size 0 5 0 rfl [] (List.replicate 9 0) 13 rfl (fun x hx => by simp at hx) (Nat.le_refl _) (fun _ => rfl) (fun h => absurd h (by omega)) rfl w1 none 0 (Rd.of_nil _) HO1.out (fun b off e => by simp at e) (fun x => by rw [rep0, fr_many]; decide)).mono ?_
  rintro e w2 ⟨rfl, hK, hO⟩
  have HB2 : Hid (Below w.heap.size w w2) := hide (HB1.out.trans (hK.below HB1.out.size (fun k hk => by omega)))
  have HO2 := hide hO
  clear hK hO
  go_wp2
  go_ret
  exact ⟨_, _, rfl, HO2.out, fold_all, HB2.out⟩

set_option maxRecDepth 100000 in
set_option maxHeartbeats 8000000 in
theorem counts_any (x : Int) (h1 : -9223372036854775808 ≤ x) (h2 : x ≤ 9223372036854775807) (w : World) :
    Calls Try.prog 4 #[.int .i64 x] w fun e w' => e = .returned (.bool true) ∧ Below w.heap.size w w' := by
  by_cases hx0 : x < 0
  · go_enter Try.func4, Try.ntmps4
    go_wp2
    go_ret
    exact ⟨rfl, Below.refl _ _⟩
  · by_cases hx8 : 8 < x
    · go_enter Try.func4, Try.ntmps4
      go_wp2
      go_ret
      exact ⟨rfl, Below.refl _ _⟩
    · obtain ⟨c, rfl⟩ : ∃ c : Nat, x = (c : Int) := ⟨x.toNat, by omega⟩
      have hc9 : c < 9 := by omega
      have hx0' : (0 : Int) ≤ (c : Int) := by omega
      have hx8' : (c : Int) ≤ 8 := by omega
      have hx9' : (c : Int) < 9 := by omega
      clear hx0 hx8 h1 h2
      go_enter Try.func4, Try.ntmps4
      go_wp2_with fail
      refine (Counts_any w).mono ?_
      rintro e w1 ⟨T, hTl, hT, rfl, hB1⟩
      have hTc := hT c hc9
      match T, hTl with
      | [t0, t1, t2, t3, t4, t5, t6, t7, t8], _ =>
        simp only [toI, List.map_cons, List.map_nil]
        obtain ⟨N, hN⟩ : ∃ N, cntC ((comb 5 (List.range 52)).map (pick (List.range 52))) c = N := ⟨_, rfl⟩
        rw [hN] at hTc
        obtain ⟨W2, hW2⟩ : ∃ W2, w1.alloc (Obj.cells #[Value.int IntKind.i64 t0, Value.int IntKind.i64 t1, Value.int IntKind.i64 t2, Value.int IntKind.i64 t3, Value.int IntKind.i64 t4, Value.int IntKind.i64 t5, Value.int IntKind.i64 t6, Value.int IntKind.i64 t7, Value.int IntKind.i64 t8] 35) = W2 := ⟨_, rfl⟩
        have hblk : Blk W2 w1.heap.size 35 [t0, t1, t2, t3, t4, t5, t6, t7, t8] := by rw [← hW2]; exact Blk.new w1 35 _ _ rfl
        have hcell := hblk.cell (i := c) (by simpa using hc9)
        rw [hTc] at hcell
        have hlt2 := hblk.lt
        have hB2 : Below w.heap.size w W2 := by rw [← hW2]; exact hB1.alloc hB1.size _
        have HN := hide hN
        have HW2 := hide hW2
        have HC := hide hcell
        have HLT := hide hlt2
        have HB2 := hide hB2
        clear hT hTc hB1 hN hblk hcell hlt2 hB2 hW2
        go_wp2_with fail
        rw [HW2.out]
        refine wp_region_held (S := fun W' => Below W2.heap.size W2 W') (by kernel_rfl) ?_
        change wpAnyH _ _ _ _ _ _ _ _ (World.drew _)
        have SW : Below W2.heap.size W2 W2.drew := (Below.refl _ W2).drew
        refine wpAnyH_take (i := 0) (v := .int .i64 c) rfl (by kernel_rfl) (by kernel_rfl) (by kernel_rfl) (fun _ _ _ h => h) (Or.inl ⟨by rfl, ?_⟩) SW ?_
        · intro W' hW
          go_simp
        go_simp
        refine wpAnyH_take (i := 4) (v := .int .i64 c) rfl (by kernel_rfl) (by kernel_rfl) (by kernel_rfl) (fun _ _ _ h => h) (Or.inl ⟨by rfl, ?_⟩) SW ?_
        · intro W' hW
          go_simp
        go_simp
        refine wpAnyH_take (i := 1) (v := .pointer (some ⟨w1.heap.size, c, none⟩)) rfl (by kernel_rfl) (by kernel_rfl) (by kernel_rfl) (fun _ _ _ h => h) (Or.inl ⟨by rfl, ?_⟩) SW ?_
        · intro W' hW
          go_simp
        go_simp
        refine wpAnyH_take (i := 2) (v := .int .i64 N) rfl (by kernel_rfl) (by kernel_rfl) (by kernel_rfl) (fun _ _ _ h => h) (Or.inl ⟨by rfl, ?_⟩) SW ?_
        · intro W' hW
          have f0 : W'.cell? ⟨w1.heap.size, c, none⟩ = some (.int .i64 N) := (hW.cell (p := ⟨w1.heap.size, c, none⟩) HLT.out).trans HC.out
          go_simp
        go_simp
        refine wpAnyH_ready (rs := [3]) (by kernel_rfl) (by simp) ?_
        refine AllReadyH.cons rfl (fun K1 hK1 => ?_) AllReadyH.nil
        go_simp
        refine (ClassCounts_any W2.drew).mono ?_
        rintro e w3 ⟨b, T', rfl, hO3, hT3, hB3⟩
        have SW3 : Below W2.heap.size W2 w3 := SW.trans hB3
        have c3 := hO3.cell (i := c) hc9
        rw [hT3 c, HN.out] at c3
        refine hK1.out _ _ SW3 (fun SW => ?_)
        clear hK1 K1 SW3 hO3 hT3 hB3
        go_simp
        refine wpAnyH_take (i := 5) (v := .pointer (some ⟨b, c, none⟩)) rfl (by kernel_rfl) (by kernel_rfl) (by kernel_rfl) (fun _ _ _ h => h) (Or.inl ⟨by rfl, ?_⟩) SW ?_
        · intro W' hW
          go_simp
        go_simp
        refine wpAnyH_ready (rs := [6]) (by kernel_rfl) (by simp) ?_
        refine AllReadyH.cons rfl (fun K1 hK1 => ?_) AllReadyH.nil
        go_simp
        refine hK1.out _ _ SW (fun SW => ?_)
        clear hK1 K1
        refine wpAnyH_take (i := 7) (v := .bool true) rfl (by kernel_rfl) (by kernel_rfl) (by kernel_rfl) (fun _ _ _ h => h) (Or.inl ⟨by rfl, ?_⟩) SW ?_
        · intro W' hW
          go_simp
        go_simp
        refine wpAnyH_take (i := 8) (v := .bool true) rfl (by kernel_rfl) (by kernel_rfl) (by kernel_rfl) (fun _ _ _ h => h) (Or.inl ⟨by rfl, ?_⟩) SW ?_
        · intro W' hW
          go_simp
        go_simp
        have HBE : Hid (Below w.heap.size w w3) := hide (HB2.out.trans (SW.mono HB2.out.size))
        refine wpAnyH_done (by kernel_rfl) ?_ _
        go_wp2
        go_ret
        exact ⟨rfl, HBE.out⟩

end Go.Proofs.Ytdhacmcdbpojlaa
