/-
  Are two boards, or two lists of lists, the same? No conditions beyond those that each theorem bears.
-/
import Derived.Test.YtnbaangnpoblfaaDoorSm
import Derived.Test.YtnbaangnpoblfaaDoorFl
namespace Go.Proofs.YtnbaangnpoblfaaDoor
open Go.RowKit Go.Shelf

set_option maxRecDepth 100000 in
set_option maxHeartbeats 4000000 in
theorem sameD_any (t s : Int) (a : Option Addr) (n c : Nat) (xs : List Int) (b : Option Addr) (m d : Nat) (ys : List Int) (w : World) (hx : Rd w a n c xs) (hy : Rd w b m d ys) :
    Calls Tryd.prog 11 #[.agg (dgA a n c t), .agg (dgA b m d s)] w fun e w' => e = .returned (.bool (decide (t = s) && decide (xs = ys))) ∧ Below w.heap.size w w' := by
  obtain ⟨w1, hw1⟩ : ∃ w1, (w.alloc (.cells (dgA a n c t) 24)).alloc (.cells (dgA b m d s) 24) = w1 := ⟨_, rfl⟩
  have HB1 : Hid (Below w.heap.size w w1) := hide (by rw [← hw1]; exact ((Below.refl _ _).alloc (Nat.le_refl _) _).alloc (by simp) _)
  have G1 : Dg w1 w.heap.size a n c t := by rw [← hw1]; exact (Dg.new _ _ _ _ _).old _
  have G2 : Dg w1 (w.heap.size + 1) b m d s := by
    rw [← hw1]
    have := Dg.new (w.alloc (.cells (dgA a n c t) 24)) b m d s
    rw [World.size_alloc] at this
    exact this
  obtain ⟨g0, g1⟩ := G1.cells
  obtain ⟨k0, k1⟩ := G2.cells
  have HS := hide (sameInts_any a b n c m d xs ys w1 (hx.mono HB1.out) (hy.mono HB1.out))
  clear hx hy G1 G2
  by_cases hts : t = s
  · subst hts
    have ht : (t == t) = true := by simp
    rw [show decide (t = t) = true by simp, Bool.true_and]
    go_enter Tryd.func11, Tryd.ntmps11
    go_upto_region 1 with fail
    clear hw1
    go_wp2_with fail
    refine HS.out.mono ?_
    rintro e w2 ⟨rfl, q, hw2⟩
    subst w2
    go_wp2_with fail
    go_ret
    exact ⟨rfl, HB1.out.trans (drewN_below _ _ _)⟩
  · have ht : (t == s) = false := by simpa using hts
    rw [show decide (t = s) = false by simpa using hts, Bool.false_and]
    clear hts
    go_enter Tryd.func11, Tryd.ntmps11
    go_upto_region 1 with fail
    clear hw1
    go_wp2_with fail
    go_ret
    exact ⟨rfl, HB1.out⟩

set_option maxRecDepth 100000 in
set_option maxHeartbeats 4000000 in
theorem sameRows_eq (O O' : Nat → Prop) (a b : Option Addr) (n c d : Nat) (L : List (List Int)) (w : World) (hx : Fr O w a n c L) (hy : Fr O' w b n d L) :
    Calls Tryd.prog 15 #[.slice a n c, .slice b n d] w fun e w' => e = .returned (.bool true) ∧ Below w.heap.size w w' := by
  have hmx := hx.max
  have hcx := hx.cap
  have hmy := hy.max
  have hcy := hy.cap
  unfold maxLen at hmx hmy
  have hne : ((n : Int) != (n : Int)) = false := by simp
  by_cases h0 : n = 0
  · subst h0
    clear hx hy
    go_enter Tryd.func15, Tryd.ntmps15
    go_wp2
    refine wp_loop_rounds 1 ?_
    rw [rounds_succ]
    go_wp2
    go_ret
    exact ⟨rfl, Below.refl _ _⟩
  · have HX := hide hx
    have HY := hide hy
    obtain ⟨b1, o1, rfl, -⟩ := hx.cells (by omega)
    obtain ⟨b2, o2, rfl, -⟩ := hy.cells (by omega)
    clear hx hy
    go_enter Tryd.func15, Tryd.ntmps15
    go_wp2_with fail
    go_loopw [5] (fun i wr => ∃ k : Nat, k ≤ n ∧ i = .int .i64 k ∧ Hid (Below w.heap.size w wr)) (fun i _ => n - (intOf i).toNat)
    case atStart => exact ⟨0, by omega, rfl, hide (Below.refl _ _)⟩
    case round =>
      obtain ⟨k, hk, rfl, hB⟩ := hrel
      by_cases hlt : k < n
      · obtain ⟨b1', o1', eb1, hc1⟩ := (HX.out.mono hB.out).cells (by omega)
        obtain ⟨b2', o2', eb2, hc2⟩ := (HY.out.mono hB.out).cells (by omega)
        simp only [Option.some.injEq, Addr.mk.injEq, and_true] at eb1 eb2
        obtain ⟨rfl, rfl⟩ := eb1
        obtain ⟨rfl, rfl⟩ := eb2
        obtain ⟨a1, c1, e1, r1⟩ := hc1 k hlt
        obtain ⟨a2, c2, e2, r2⟩ := hc2 k hlt
        have HR1 := hide r1.rd
        have HR2 := hide r2.rd
        have HFC : Hid (∀ W4, Below wr.heap.size wr W4 → W4.cell? ⟨b1, o1 + k, none⟩ = some (.slice a1 (L.getD k []).length c1) ∧ W4.cell? ⟨b2, o2 + k, none⟩ = some (.slice a2 (L.getD k []).length c2)) := hide (fun W4 h4 => ⟨(h4.cell (World.block_lt_of_cell? wr _ e1)).trans e1, (h4.cell (World.block_lt_of_cell? wr _ e2)).trans e2⟩)
        have HS : Hid (∀ W, Below wr.heap.size wr W → Calls Tryd.prog 21 #[.slice a1 (L.getD k []).length c1, .slice a2 (L.getD k []).length c2] W fun e w' => e = .returned (.bool true) ∧ Below W.heap.size W w') := hide (fun W hW => by
          refine (sameIntsL_any a1 a2 (L.getD k []).length c1 (L.getD k []).length c2 (L.getD k []) (L.getD k []) W (HR1.out.mono hW) (HR2.out.mono hW)).mono ?_
          rintro e w' ⟨he, q, rfl⟩
          rw [show decide (L.getD k [] = L.getD k []) = true by simp] at he
          exact ⟨he, drewN_below _ _ _⟩)
        generalize (L.getD k []).length = m at *
        have hlt' : (k : Int) < (n : Int) := by omega
        clear hc1 hc2 r1 r2 e1 e2
        go_wp2_with fail
        refine wp_region_held (S := fun W4 => Below wr.heap.size wr W4) (by kernel_rfl) ?_
        change wpAnyH _ _ _ _ _ _ _ _ (World.drew _)
        have SW : Below wr.heap.size wr wr.drew := (Below.refl _ wr).drew
        refine wpAnyH_take (i := 0) (v := .slice (some ⟨b1, o1, none⟩) n c) rfl (by kernel_rfl) (by kernel_rfl) (by kernel_rfl) (fun _ _ _ h => h) (Or.inl ⟨by rfl, ?_⟩) SW ?_
        · intro W4 hW4
          go_simp <;> first | done | rfl | (rw [IntKind.wrap_i64]; omega) | omega
        go_simp
        refine wpAnyH_take (i := 1) (v := .int .i64 (k : Nat)) rfl (by kernel_rfl) (by kernel_rfl) (by kernel_rfl) (fun _ _ _ h => h) (Or.inl ⟨by rfl, ?_⟩) SW ?_
        · intro W4 hW4
          go_simp <;> first | done | rfl | (rw [IntKind.wrap_i64]; omega) | omega
        go_simp
        refine wpAnyH_take (i := 2) (v := .pointer (some ⟨b1, o1 + k, none⟩)) rfl (by kernel_rfl) (by kernel_rfl) (by kernel_rfl) (fun _ _ _ h => h) (Or.inl ⟨by rfl, ?_⟩) SW ?_
        · intro W4 hW4
          go_simp <;> first | done | rfl | (rw [IntKind.wrap_i64]; omega) | omega
        go_simp
        refine wpAnyH_take (i := 3) (v := .slice a1 m c1) rfl (by kernel_rfl) (by kernel_rfl) (by kernel_rfl) (fun _ _ _ h => h) (Or.inl ⟨by rfl, ?_⟩) SW ?_
        · intro W4 hW4
          have x0 := (HFC.out W4 hW4).1
          go_simp <;> first | done | rfl | (rw [IntKind.wrap_i64]; omega) | omega
        go_simp
        refine wpAnyH_take (i := 4) (v := .slice (some ⟨b2, o2, none⟩) n d) rfl (by kernel_rfl) (by kernel_rfl) (by kernel_rfl) (fun _ _ _ h => h) (Or.inl ⟨by rfl, ?_⟩) SW ?_
        · intro W4 hW4
          go_simp <;> first | done | rfl | (rw [IntKind.wrap_i64]; omega) | omega
        go_simp
        refine wpAnyH_take (i := 5) (v := .int .i64 (k : Nat)) rfl (by kernel_rfl) (by kernel_rfl) (by kernel_rfl) (fun _ _ _ h => h) (Or.inl ⟨by rfl, ?_⟩) SW ?_
        · intro W4 hW4
          go_simp <;> first | done | rfl | (rw [IntKind.wrap_i64]; omega) | omega
        go_simp
        refine wpAnyH_take (i := 6) (v := .pointer (some ⟨b2, o2 + k, none⟩)) rfl (by kernel_rfl) (by kernel_rfl) (by kernel_rfl) (fun _ _ _ h => h) (Or.inl ⟨by rfl, ?_⟩) SW ?_
        · intro W4 hW4
          go_simp <;> first | done | rfl | (rw [IntKind.wrap_i64]; omega) | omega
        go_simp
        refine wpAnyH_take (i := 7) (v := .slice a2 m c2) rfl (by kernel_rfl) (by kernel_rfl) (by kernel_rfl) (fun _ _ _ h => h) (Or.inl ⟨by rfl, ?_⟩) SW ?_
        · intro W4 hW4
          have x0 := (HFC.out W4 hW4).2
          go_simp <;> first | done | rfl | (rw [IntKind.wrap_i64]; omega) | omega
        go_simp
        refine wpAnyH_ready (rs := [8]) (by kernel_rfl) (by simp) ?_
        refine AllReadyH.cons rfl (fun K1 hK1 => ?_) AllReadyH.nil
        go_simp
        refine (HS.out _ SW).mono ?_
        rintro r w5 ⟨rfl, hb5⟩
        have B5 := SW.trans (hb5.mono SW.size)
        refine hK1.out _ _ B5 (fun SW => ?_)
        clear hK1 K1 hb5
        go_simp
        refine wpAnyH_ready (rs := [9]) (by kernel_rfl) (by simp) ?_
        refine AllReadyH.cons rfl (fun K1 hK1 => ?_) AllReadyH.nil
        go_simp
        refine hK1.out _ _ SW (fun SW => ?_)
        clear hK1 K1
        go_simp
        refine wpAnyH_done (by kernel_rfl) ?_ _
        have HB5 := hide (hB.out.trans (SW.mono hB.out.size))
        clear SW B5
        go_wp2_with fail
        refine ⟨⟨k + 1, by omega, by go_num, HB5⟩, by simp [intOf]; omega⟩
      · obtain rfl : k = n := by omega
        have hlt' : ¬ (k : Int) < (k : Int) := by omega
        go_wp2_with fail
        go_ret
        exact ⟨rfl, hB.out⟩

end Go.Proofs.YtnbaangnpoblfaaDoor
