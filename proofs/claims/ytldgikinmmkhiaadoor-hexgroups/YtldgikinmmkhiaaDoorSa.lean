/-
  Are two lists of lists the same? No conditions beyond those that each theorem bears.
-/
import Derived.Test.YtldgikinmmkhiaaDoorSm
import Derived.Test.YtldgikinmmkhiaaDoorFl
namespace Go.Proofs.YtldgikinmmkhiaaDoor
open Go.RowKit Go.Shelf

set_option maxRecDepth 100000 in
set_option maxHeartbeats 4000000 in
theorem sameRows_eq (O O' : Nat → Prop) (a b : Option Addr) (n c d : Nat) (L : List (List Int)) (w : World) (hx : Fr O w a n c L) (hy : Fr O' w b n d L) :
    Calls Tryd.prog 14 #[.slice a n c, .slice b n d] w fun e w' => e = .returned (.bool true) ∧ Below w.heap.size w w' := by
  have hmx := hx.max
  have hcx := hx.cap
  have hmy := hy.max
  have hcy := hy.cap
  unfold maxLen at hmx hmy
  have hne : ((n : Int) != (n : Int)) = false := by simp
  by_cases h0 : n = 0
  · subst h0
    clear hx hy
    go_enter Tryd.func14, Tryd.ntmps14
    go_wp2
    refine wp_loop_rounds 1 ?_
    rw [rounds_succ]
    go_wp2
    go_ret
    exact ⟨rfl, Below.refl _ _⟩
  · have HX := hide hx
    have HY := hide hy
    obtain ⟨b1, o1, rfl, -⟩ := hx.cells (by omega)
    obtain ⟨b2, o2, rfl, -⟩ := hy.cells (by omega)
    clear hx hy
    go_enter Tryd.func14, Tryd.ntmps14
    go_wp2_with fail
    go_loopw [5] (fun i wr => ∃ k : Nat, k ≤ n ∧ i = .int .i64 k ∧ Hid (Below w.heap.size w wr)) (fun i _ => n - (intOf i).toNat)
    case atStart => exact ⟨0, by omega, rfl, hide (Below.refl _ _)⟩
    case round =>
      obtain ⟨k, hk, rfl, hB⟩ := hrel
      by_cases hlt : k < n
      · obtain ⟨b1', o1', eb1, hc1⟩ := (HX.out.mono hB.out).cells (by omega)
        obtain ⟨b2', o2', eb2, hc2⟩ := (HY.out.mono hB.out).cells (by omega)
        simp only [Option.some.injEq, Addr.mk.injEq, and_true] at eb1 eb2
        obtain ⟨rfl, rfl⟩ := eb1
        obtain ⟨rfl, rfl⟩ := eb2
        obtain ⟨a1, c1, e1, r1⟩ := hc1 k hlt
        obtain ⟨a2, c2, e2, r2⟩ := hc2 k hlt
        have HR1 := hide r1.rd
        have HR2 := hide r2.rd
        have HFC : Hid (∀ W4, Below wr.heap.size wr W4 → W4.cell? ⟨b1, o1 + k, none⟩ = some (.slice a1 (L.getD k []).length c1) ∧ W4.cell? ⟨b2, o2 + k, none⟩ = some (.slice a2 (L.getD k []).length c2)) := hide (fun W4 h4 => ⟨(h4.cell (World.block_lt_of_cell? wr _ e1)).trans e1, (h4.cell (World.block_lt_of_cell? wr _ e2)).trans e2⟩)
        have HS : Hid (∀ W, Below wr.heap.size wr W → Calls Tryd.prog 13 #[.slice a1 (L.getD k []).length c1, .slice a2 (L.getD k []).length c2] W fun e w' => e = .returned (.bool true) ∧ Below W.heap.size W w') := hide (fun W hW => by
          refine (sameInts_any a1 a2 (L.getD k []).length c1 (L.getD k []).length c2 (L.getD k []) (L.getD k []) W (HR1.out.mono hW) (HR2.out.mono hW)).mono ?_
          rintro e w' ⟨he, q, rfl⟩
          rw [show decide (L.getD k [] = L.getD k []) = true by simp] at he
          exact ⟨he, drewN_below _ _ _⟩)
        generalize (L.getD k []).length = m at *
        have hlt' : (k : Int) < (n : Int) := by omega
        clear hc1 hc2 r1 r2 e1 e2
        go_wp2_with fail
        refine wp_region_held (S := fun W4 => Below wr.heap.size wr W4) (by kernel_rfl) ?_
        change wpAnyH _ _ _ _ _ _ _ _ (World.drew _)
        have SW : Below wr.heap.size wr wr.drew := (Below.refl _ wr).drew
        refine wpAnyH_take (i := 0) (v := .slice (some ⟨b1, o1, none⟩) n c) rfl (by kernel_rfl) (by kernel_rfl) (by kernel_rfl) (fun _ _ _ h => h) (Or.inl ⟨by rfl, ?_⟩) SW ?_
        · intro W4 hW4
          go_simp <;> first | done | rfl | (rw [IntKind.wrap_i64]; omega) | omega
        go_simp
        refine wpAnyH_take (i := 1) (v := .int .i64 (k : Nat)) rfl (by kernel_rfl) (by kernel_rfl) (by kernel_rfl) (fun _ _ _ h => h) (Or.inl ⟨by rfl, ?_⟩) SW ?_
        · intro W4 hW4
          go_simp <;> first | done | rfl | (rw [IntKind.wrap_i64]; omega) | omega
        go_simp
        refine wpAnyH_take (i := 2) (v := .pointer (some ⟨b1, o1 + k, none⟩)) rfl (by kernel_rfl) (by kernel_rfl) (by kernel_rfl) (fun _ _ _ h => h) (Or.inl ⟨by rfl, ?_⟩) SW ?_
        · intro W4 hW4
          go_simp <;> first | done | rfl | (rw [IntKind.wrap_i64]; omega) | omega
        go_simp
        refine wpAnyH_take (i := 3) (v := .slice a1 m c1) rfl (by kernel_rfl) (by kernel_rfl) (by kernel_rfl) (fun _ _ _ h => h) (Or.inl ⟨by rfl, ?_⟩) SW ?_
        · intro W4 hW4
          have x0 := (HFC.out W4 hW4).1
          go_simp <;> first | done | rfl | (rw [IntKind.wrap_i64]; omega) | omega
        go_simp
        refine wpAnyH_take (i := 4) (v := .slice (some ⟨b2, o2, none⟩) n d) rfl (by kernel_rfl) (by kernel_rfl) (by kernel_rfl) (fun _ _ _ h => h) (Or.inl ⟨by rfl, ?_⟩) SW ?_
        · intro W4 hW4
          go_simp <;> first | done | rfl | (rw [IntKind.wrap_i64]; omega) | omega
        go_simp
        refine wpAnyH_take (i := 5) (v := .int .i64 (k : Nat)) rfl (by kernel_rfl) (by kernel_rfl) (by kernel_rfl) (fun _ _ _ h => h) (Or.inl ⟨by rfl, ?_⟩) SW ?_
        · intro W4 hW4
          go_simp <;> first | done | rfl | (rw [IntKind.wrap_i64]; omega) | omega
        go_simp
        refine wpAnyH_take (i := 6) (v := .pointer (some ⟨b2, o2 + k, none⟩)) rfl (by kernel_rfl) (by kernel_rfl) (by kernel_rfl) (fun _ _ _ h => h) (Or.inl ⟨by rfl, ?_⟩) SW ?_
        · intro W4 hW4
          go_simp <;> first | done | rfl | (rw [IntKind.wrap_i64]; omega) | omega
        go_simp
        refine wpAnyH_take (i := 7) (v := .slice a2 m c2) rfl (by kernel_rfl) (by kernel_rfl) (by kernel_rfl) (fun _ _ _ h => h) (Or.inl ⟨by rfl, ?_⟩) SW ?_
        · intro W4 hW4
          have x0 := (HFC.out W4 hW4).2
          go_simp <;> first | done | rfl | (rw [IntKind.wrap_i64]; omega) | omega
        go_simp
        refine wpAnyH_ready (rs := [8]) (by kernel_rfl) (by simp) ?_
        refine AllReadyH.cons rfl (fun K1 hK1 => ?_) AllReadyH.nil
        go_simp
        refine (HS.out _ SW).mono ?_
        rintro r w5 ⟨rfl, hb5⟩
        have B5 := SW.trans (hb5.mono SW.size)
        refine hK1.out _ _ B5 (fun SW => ?_)
        clear hK1 K1 hb5
        go_simp
        refine wpAnyH_ready (rs := [9]) (by kernel_rfl) (by simp) ?_
        refine AllReadyH.cons rfl (fun K1 hK1 => ?_) AllReadyH.nil
        go_simp
        refine hK1.out _ _ SW (fun SW => ?_)
        clear hK1 K1
        go_simp
        refine wpAnyH_done (by kernel_rfl) ?_ _
        have HB5 := hide (hB.out.trans (SW.mono hB.out.size))
        clear SW B5
        go_wp2_with fail
        refine ⟨⟨k + 1, by omega, by go_num, HB5⟩, by simp [intOf]; omega⟩
      · obtain rfl : k = n := by omega
        have hlt' : ¬ (k : Int) < (k : Int) := by omega
        go_wp2_with fail
        go_ret
        exact ⟨rfl, hB.out⟩

end Go.Proofs.YtldgikinmmkhiaaDoor
