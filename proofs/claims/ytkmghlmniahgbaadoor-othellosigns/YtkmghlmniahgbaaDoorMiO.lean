/-
  The mirrored board. No conditions beyond those that each theorem bears.
-/
import Derived.Test.YtkmghlmniahgbaaDoorSgM
import Derived.Test.YtkmghlmniahgbaaDoorOn
namespace Go.Proofs.YtkmghlmniahgbaaDoor
open Go.RowKit

theorem allocs_below : ∀ (l : List Obj) (w : World), Below w.heap.size w (l.foldl World.alloc w) ∧ (l.foldl World.alloc w).heap.size = w.heap.size + l.length
  | [], w => ⟨Below.refl _ _, rfl⟩
  | o :: l, w => by
    obtain ⟨h1, h2⟩ := allocs_below l (w.alloc o)
    rw [World.size_alloc] at h1 h2
    exact ⟨((Below.refl _ w).alloc (Nat.le_refl _) o).trans (h1.mono (by omega)), by rw [List.foldl_cons, h2, List.length_cons]; omega⟩

theorem allocs_at : ∀ (l : List Obj) (w : World) (i : Nat) (o : Obj), l[i]? = some o → (l.foldl World.alloc w).heap[w.heap.size + i]? = some o
  | [], _, _, _, h => by simp at h
  | p :: l, w, 0, o, h => by
    obtain ⟨h1, -⟩ := allocs_below l (w.alloc p)
    rw [World.size_alloc] at h1
    simp only [List.getElem?_cons_zero, Option.some.injEq] at h
    subst h
    exact (h1.block w.heap.size (by omega)).trans (heap_alloc_new w p)
  | p :: l, w, i + 1, o, h => by
    have := allocs_at l (w.alloc p) i o (by simpa using h)
    rw [World.size_alloc] at this
    rw [List.foldl_cons, show w.heap.size + (i + 1) = w.heap.size + 1 + i by omega]
    exact this

attribute [local irreducible] mir mirL
attribute [local go_sem] build24w

set_option maxRecDepth 100000 in
set_option maxHeartbeats 4000000 in
theorem mirrored_any (gW gH : Nat) (a : Option Addr) (n c : Nat) (zs : List Int) (w : World) (h : Rd w a n c zs) (hgW : 1 ≤ gW ∧ gW ≤ 10) (hgH : 1 ≤ gH ∧ gH ≤ 10) (hm : gW * gH = n) :
    Calls Tryd.prog 26 #[.agg (gdA gW gH a n c)] w fun e w' => ∃ a' c', e = .returned (.agg (gdA gW gH a' n c')) ∧ Rd w' a' n c' (mirL gW zs) ∧ Below w.heap.size w w' := by
  have hcm := h.max
  unfold maxLen at hcm
  have hcc := h.cap
  have hlen := h.len
  have hn1 : 0 < n := by
    have : 1 * 1 ≤ gW * gH := Nat.mul_le_mul hgW.1 hgH.1
    omega
  have hnq : n ≤ 100 := by
    have : gW * gH ≤ 10 * 10 := Nat.mul_le_mul hgW.2 hgH.2
    omega
  obtain ⟨b, off, rfl, hc⟩ := h.cells hn1
  have hgb : b < w.heap.size := World.block_lt_of_cell? w _ (hc 0 hn1)
  have hA := allocs_at [.cells (gdA gW gH (some ⟨b, off, none⟩) n c) 24, .cells (gdA 0 0 none 0 0) 24, .cells (gdA 0 0 none 0 0) 24] w
  obtain ⟨B0, hs0⟩ := allocs_below [.cells (gdA gW gH (some ⟨b, off, none⟩) n c) 24, .cells (gdA 0 0 none 0 0) 24, .cells (gdA 0 0 none 0 0) 24] w
  simp only [List.foldl_cons, List.foldl_nil, List.length_cons, List.length_nil, Nat.zero_add, Nat.reduceAdd] at hA B0 hs0
  have G0 := hA 0 _ rfl
  rw [Nat.add_zero] at G0
  have Z1 := hA 1 _ rfl
  have Z2 : Gd (((w.alloc (.cells (gdA gW gH (some ⟨b, off, none⟩) n c) 24)).alloc (.cells (gdA 0 0 none 0 0) 24)).alloc (.cells (gdA 0 0 none 0 0) 24)) (w.heap.size + 2) 0 0 none 0 0 := hA 2 _ rfl
  have HG0 : Hid (Gd (((w.alloc (.cells (gdA gW gH (some ⟨b, off, none⟩) n c) 24)).alloc (.cells (gdA 0 0 none 0 0) 24)).alloc (.cells (gdA 0 0 none 0 0) 24)) w.heap.size gW gH (some ⟨b, off, none⟩) n c) := hide G0
  have HZ1 : Hid (Gd (((w.alloc (.cells (gdA gW gH (some ⟨b, off, none⟩) n c) 24)).alloc (.cells (gdA 0 0 none 0 0) 24)).alloc (.cells (gdA 0 0 none 0 0) 24)) (w.heap.size + 1) 0 0 none 0 0) := hide Z1
  have HB0 := hide B0
  have HS0 := hide hs0
  have HC0 : Hid (∀ i, i < n → (((w.alloc (.cells (gdA gW gH (some ⟨b, off, none⟩) n c) 24)).alloc (.cells (gdA 0 0 none 0 0) 24)).alloc (.cells (gdA 0 0 none 0 0) 24)).cell? ⟨b, off + i, none⟩ = some (.int .i64 (zs.getD i 0))) := hide (fun i hi => (B0.cell (p := ⟨b, off + i, none⟩) hgb).trans (hc i hi))
  have HML : Hid (∀ i, i < n → (mirL gW zs).getD i 0 = zs.getD (mir gW i) 0) := hide (fun i hi => mirL_getD (by rw [hlen]; exact hi))
  have HMN := hide (mirL_len gW zs)
  rw [hlen] at HMN
  have HMI : Hid (∀ i, i < n → mir gW i < n) := hide (fun i hi => by rw [← hm] at hi ⊢; exact mir_lt (by omega) hi)
  have HMU : Hid (∀ i, mir gW i = i / gW * gW + (gW - 1 - i % gW)) := hide (fun i => by rw [mir])
  have HW0 : Hid ((gW : Int) ≠ 0) := hide (by omega)
  clear h hc hA B0 hs0 hm hlen G0 Z1
  go_enter Tryd.func26, Tryd.ntmps26
  go_upto_region 2 with ((refine wpList_store_gd rfl (.tmp 3) (.tmp 9) rfl (w.heap.size + 2) rfl rfl Z2 ?_; intro w1 k1 kk1))
  have hs1 : w.heap.size + 3 ≤ w1.heap.size := Nat.le_trans (Nat.le_of_eq HS0.out.symm) kk1.size
  have HG1 := hide (HG0.out.keeps kk1 (by omega))
  have HZ11 := hide (HZ1.out.keeps kk1 (by omega))
  have HO1 := hide k1
  have HB1 : Hid (Below w.heap.size w w1) := hide (HB0.out.trans ((kk1.mono (Y := fun q => w.heap.size ≤ q) (fun q _ e => by omega)).below (B := w.heap.size) HB0.out.size (fun q hq e => by omega)))
  have HC : Hid (∀ i, i < n → w1.cell? ⟨b, off + i, none⟩ = some (.int .i64 (zs.getD i 0))) := hide (fun i hi => kk1.cell (HC0.out i hi) (by show ¬ b = w.heap.size + 2; omega))
  clear k1 kk1 Z2 HG0 HZ1 HB0 HS0 HC0
  simp only [Nat.add_assoc, Nat.reduceAdd]
  go_wp2_with fail
  go_loopw [4] (fun v wr => ∃ (j cp : Nat) (ad : Option Addr), v = .int .i64 j ∧ j ≤ n ∧ Hid (Gd wr (w.heap.size + 2) gW gH ad j cp) ∧ Hid (wr.ownsRow w1.heap.size 3 1 (.slice ad j cp) j (((mirL gW zs).take j).map (Value.int .i64))) ∧ Hid (Keeps (fun k => k = w.heap.size + 2 ∨ w1.heap.size ≤ k) w1 wr)) (fun v _ => n - (intOf v).toNat)
  case atStart => exact ⟨0, 0, none, rfl, by omega, HO1, hide (by rw [List.take_zero]; exact World.ownsRow_nil _ _ _ _), hide (Keeps.refl _ _)⟩
  case round =>
    obtain ⟨j, cp, ad, rfl, hj, hO, hL, hK⟩ := hrel
    have Gr := HG1.out.keeps hK.out (by omega)
    obtain ⟨g0, g1, g2⟩ := Gr.cells
    by_cases hlt : j < n
    · have hlt' : (j : Int) < (n : Int) := by omega
      have hP := HMI.out j hlt
      have HMj := hide (HML.out j hlt)
      have HU := hide (HMU.out j)
      have hmod := Nat.mod_lt j (show 0 < gW by omega)
      obtain ⟨P, hPe⟩ : ∃ P, mir gW j = P := ⟨_, rfl⟩
      rw [hPe] at hP HMj HU
      have cx := HC.out P hP
      obtain ⟨x, hx⟩ : ∃ x, zs.getD P 0 = x := ⟨_, rfl⟩
      rw [hx] at cx HMj
      obtain ⟨Q, hQe⟩ : ∃ Q, j / gW = Q := ⟨_, rfl⟩
      obtain ⟨Rm, hRe⟩ : ∃ R, j % gW = R := ⟨_, rfl⟩
      obtain ⟨A, hAe⟩ : ∃ A, Q * gW = A := ⟨_, rfl⟩
      have HQ : Hid (Int.tdiv (j : Int) (gW : Int) = (Q : Int)) := hide (by rw [Int.tdiv_eq_ediv_of_nonneg (by omega), ← hQe]; simp)
      have HQ2 : Hid ((j : Int) / (gW : Int) = (Q : Int)) := hide (by rw [← hQe]; simp)
      have HRm : Hid (Int.tmod (j : Int) (gW : Int) = (Rm : Int)) := hide (by rw [Int.tmod_eq_emod_of_nonneg (by omega), ← hRe]; simp)
      have HA : Hid ((Q : Int) * (gW : Int) = (A : Int)) := hide (by rw [← hAe]; simp)
      rw [hRe] at hmod
      have hU2 : P = A + (gW - 1 - Rm) := by have := HU.out; rw [hQe, hRe, hAe] at this; exact this
      have HP : Hid (((A + gW : Nat) : Int) - 1 - (Rm : Int) = (P : Int)) := hide (by omega)
      have HTS : Hid ((mirL gW zs).take (j + 1) = (mirL gW zs).take j ++ [x]) := hide (by rw [take_snoc _ _ (by rw [HMN.out]; exact hlt), HMj.out])
      have hAb : A ≤ 100 := by omega
      have hQb : Q ≤ 100 := by rw [← hQe]; exact Nat.le_trans (Nat.div_le_self _ _) (by omega)
      clear hPe hx hQe hRe hAe hU2 HU HMj Gr
      go_upto_region 5 with fail
      clear g0 g1 g2
      refine wp_region_held (S := fun W4 => Gd W4 w.heap.size gW gH (some ⟨b, off, none⟩) n c ∧ W4.cell? ⟨b, off + P, none⟩ = some (.int .i64 x)) (by kernel_rfl) ?_
      change wpAnyH _ _ _ _ _ _ _ _ (World.drew _)
      have SF : Hid (∀ W4, Keeps (fun k => k = w.heap.size + 2 ∨ w1.heap.size ≤ k) w1 W4 → Gd W4 w.heap.size gW gH (some ⟨b, off, none⟩) n c ∧ W4.cell? ⟨b, off + P, none⟩ = some (.int .i64 x)) := hide (fun W4 hk => ⟨HG1.out.keeps hk (by omega), hk.cell cx (by show ¬ (b = w.heap.size + 2 ∨ w1.heap.size ≤ b); omega)⟩)
      have KD : Keeps (fun k => k = w.heap.size + 2 ∨ w1.heap.size ≤ k) w1 wr.drew := hK.out.drew
      have SW := SF.out wr.drew KD
      clear cx
      refine wpAnyH_take (i := 2) (v := .pointer (some ⟨w.heap.size, 2, none⟩)) rfl (by kernel_rfl) (by kernel_rfl) (by kernel_rfl) (fun _ _ _ h => h) (Or.inl ⟨by rfl, ?_⟩) SW ?_
      · intro W4 hW4
        go_simp <;> first | done | rfl | (rw [IntKind.wrap_i64]; omega) | omega
      go_simp
      refine wpAnyH_take (i := 3) (v := .slice (some ⟨b, off, none⟩) n c) rfl (by kernel_rfl) (by kernel_rfl) (by kernel_rfl) (fun _ _ _ h => h) (Or.inl ⟨by rfl, ?_⟩) SW ?_
      · intro W4 hW4
        obtain ⟨x0, x1, x2⟩ := hW4.1.cells
        go_simp <;> first | done | rfl | (rw [IntKind.wrap_i64]; omega) | omega
      go_simp
      refine wpAnyH_take (i := 4) (v := .int .i64 j) rfl (by kernel_rfl) (by kernel_rfl) (by kernel_rfl) (fun _ _ _ h => h) (Or.inl ⟨by rfl, ?_⟩) SW ?_
      · intro W4 hW4
        go_simp <;> first | done | rfl | (rw [IntKind.wrap_i64]; omega) | omega
      go_simp
      refine wpAnyH_take (i := 5) (v := .pointer (some ⟨w.heap.size, 0, none⟩)) rfl (by kernel_rfl) (by kernel_rfl) (by kernel_rfl) (fun _ _ _ h => h) (Or.inl ⟨by rfl, ?_⟩) SW ?_
      · intro W4 hW4
        go_simp <;> first | done | rfl | (rw [IntKind.wrap_i64]; omega) | omega
      go_simp
      refine wpAnyH_take (i := 6) (v := .int .i64 (gW : Nat)) rfl (by kernel_rfl) (by kernel_rfl) (by kernel_rfl) (fun _ _ _ h => h) (Or.inl ⟨by rfl, ?_⟩) SW ?_
      · intro W4 hW4
        obtain ⟨x0, x1, x2⟩ := hW4.1.cells
        go_simp <;> first | done | rfl | (rw [IntKind.wrap_i64]; omega) | omega
      go_simp
      refine wpAnyH_take (i := 7) (v := .int .i64 (Q : Nat)) rfl (by kernel_rfl) (by kernel_rfl) (by kernel_rfl) (fun _ _ _ h => h) (Or.inl ⟨by rfl, ?_⟩) SW ?_
      · intro W4 hW4
        have e1 := HQ.out; have e3 := HQ2.out; have e2 : ¬ gW = 0 := by omega
        go_simp <;> first | done | rfl | (rw [IntKind.wrap_i64]; omega) | omega
      go_simp
      refine wpAnyH_take (i := 8) (v := .pointer (some ⟨w.heap.size, 0, none⟩)) rfl (by kernel_rfl) (by kernel_rfl) (by kernel_rfl) (fun _ _ _ h => h) (Or.inl ⟨by rfl, ?_⟩) SW ?_
      · intro W4 hW4
        go_simp <;> first | done | rfl | (rw [IntKind.wrap_i64]; omega) | omega
      go_simp
      refine wpAnyH_take (i := 9) (v := .int .i64 (gW : Nat)) rfl (by kernel_rfl) (by kernel_rfl) (by kernel_rfl) (fun _ _ _ h => h) (Or.inl ⟨by rfl, ?_⟩) SW ?_
      · intro W4 hW4
        obtain ⟨x0, x1, x2⟩ := hW4.1.cells
        go_simp <;> first | done | rfl | (rw [IntKind.wrap_i64]; omega) | omega
      go_simp
      refine wpAnyH_take (i := 10) (v := .int .i64 (A : Nat)) rfl (by kernel_rfl) (by kernel_rfl) (by kernel_rfl) (fun _ _ _ h => h) (Or.inl ⟨by rfl, ?_⟩) SW ?_
      · intro W4 hW4
        have e1 := HA.out
        go_simp <;> first | done | rfl | (rw [IntKind.wrap_i64]; omega) | omega
      go_simp
      refine wpAnyH_take (i := 11) (v := .pointer (some ⟨w.heap.size, 0, none⟩)) rfl (by kernel_rfl) (by kernel_rfl) (by kernel_rfl) (fun _ _ _ h => h) (Or.inl ⟨by rfl, ?_⟩) SW ?_
      · intro W4 hW4
        go_simp <;> first | done | rfl | (rw [IntKind.wrap_i64]; omega) | omega
      go_simp
      refine wpAnyH_take (i := 12) (v := .int .i64 (gW : Nat)) rfl (by kernel_rfl) (by kernel_rfl) (by kernel_rfl) (fun _ _ _ h => h) (Or.inl ⟨by rfl, ?_⟩) SW ?_
      · intro W4 hW4
        obtain ⟨x0, x1, x2⟩ := hW4.1.cells
        go_simp <;> first | done | rfl | (rw [IntKind.wrap_i64]; omega) | omega
      go_simp
      refine wpAnyH_take (i := 13) (v := .int .i64 ((A + gW : Nat) : Int)) rfl (by kernel_rfl) (by kernel_rfl) (by kernel_rfl) (fun _ _ _ h => h) (Or.inl ⟨by rfl, ?_⟩) SW ?_
      · intro W4 hW4
        go_simp <;> first | done | rfl | (rw [IntKind.wrap_i64]; omega) | omega
      go_simp
      refine wpAnyH_take (i := 14) (v := .int .i64 ((A + gW : Nat) - 1 : Int)) rfl (by kernel_rfl) (by kernel_rfl) (by kernel_rfl) (fun _ _ _ h => h) (Or.inl ⟨by rfl, ?_⟩) SW ?_
      · intro W4 hW4
        go_simp <;> first | done | rfl | (rw [IntKind.wrap_i64]; omega) | omega
      go_simp
      refine wpAnyH_take (i := 15) (v := .int .i64 j) rfl (by kernel_rfl) (by kernel_rfl) (by kernel_rfl) (fun _ _ _ h => h) (Or.inl ⟨by rfl, ?_⟩) SW ?_
      · intro W4 hW4
        go_simp <;> first | done | rfl | (rw [IntKind.wrap_i64]; omega) | omega
      go_simp
      refine wpAnyH_take (i := 16) (v := .pointer (some ⟨w.heap.size, 0, none⟩)) rfl (by kernel_rfl) (by kernel_rfl) (by kernel_rfl) (fun _ _ _ h => h) (Or.inl ⟨by rfl, ?_⟩) SW ?_
      · intro W4 hW4
        go_simp <;> first | done | rfl | (rw [IntKind.wrap_i64]; omega) | omega
      go_simp
      refine wpAnyH_take (i := 17) (v := .int .i64 (gW : Nat)) rfl (by kernel_rfl) (by kernel_rfl) (by kernel_rfl) (fun _ _ _ h => h) (Or.inl ⟨by rfl, ?_⟩) SW ?_
      · intro W4 hW4
        obtain ⟨x0, x1, x2⟩ := hW4.1.cells
        go_simp <;> first | done | rfl | (rw [IntKind.wrap_i64]; omega) | omega
      go_simp
      refine wpAnyH_take (i := 18) (v := .int .i64 (Rm : Nat)) rfl (by kernel_rfl) (by kernel_rfl) (by kernel_rfl) (fun _ _ _ h => h) (Or.inl ⟨by rfl, ?_⟩) SW ?_
      · intro W4 hW4
        have e1 := HRm.out; have e2 : ¬ gW = 0 := by omega
        go_simp <;> first | done | rfl | (rw [IntKind.wrap_i64]; omega) | omega
      go_simp
      refine wpAnyH_take (i := 19) (v := .int .i64 (P : Nat)) rfl (by kernel_rfl) (by kernel_rfl) (by kernel_rfl) (fun _ _ _ h => h) (Or.inl ⟨by rfl, ?_⟩) SW ?_
      · intro W4 hW4
        have e1 := HP.out
        go_simp <;> first | done | rfl | (rw [IntKind.wrap_i64]; omega) | omega
      go_simp
      refine wpAnyH_take (i := 20) (v := .pointer (some ⟨b, off + P, none⟩)) rfl (by kernel_rfl) (by kernel_rfl) (by kernel_rfl) (fun _ _ _ h => h) (Or.inl ⟨by rfl, ?_⟩) SW ?_
      · intro W4 hW4
        go_simp <;> first | done | rfl | (rw [IntKind.wrap_i64]; omega) | omega
      go_simp
      refine wpAnyH_take (i := 21) (v := .int .i64 x) rfl (by kernel_rfl) (by kernel_rfl) (by kernel_rfl) (fun _ _ _ h => h) (Or.inl ⟨by rfl, ?_⟩) SW ?_
      · intro W4 hW4
        have e1 := hW4.2
        go_simp <;> first | done | rfl | (rw [IntKind.wrap_i64]; omega) | omega
      go_simp
      refine wpAnyH_take (i := 0) (v := .pointer (some ⟨w.heap.size + 2, 2, none⟩)) rfl (by kernel_rfl) (by kernel_rfl) (by kernel_rfl) (fun _ _ _ h => h) (Or.inl ⟨by rfl, ?_⟩) SW ?_
      · intro W4 hW4
        go_simp <;> first | done | rfl | (rw [IntKind.wrap_i64]; omega) | omega
      go_simp
      refine wpAnyH_ready (rs := [1, 22]) (by kernel_rfl) (by simp) ?_
      refine AllReadyH.cons rfl (fun K1 hK1 => ?_) (AllReadyH.cons rfl (fun K1 hK1 => ?_) AllReadyH.nil)
      · obtain ⟨-, -, o2⟩ := ((hO.out.below (Below.refl _ wr).drew hO.out.lt)).cells
        go_simp
        refine hK1.out _ _ SW (fun SW => ?_)
        clear hK1 K1 o2
        go_simp
        refine wpAnyH_ready (rs := [22]) (by kernel_rfl) (by simp) ?_
        refine AllReadyH.cons rfl (fun K1 hK1 => ?_) AllReadyH.nil
        go_simp
        refine hK1.out _ _ (SF.out _ (KD.alloc _)) (fun SW => ?_)
        clear hK1 K1
        go_simp
        have hR1 : Rd (World.alloc wr.drew (.cells #[.int .i64 x] 3)) (some ⟨wr.heap.size, 0, none⟩) 1 1 [x] := Rd.of_blk (Blk.new wr.drew 3 [x] _ rfl) rfl (by decide)
        have hOa := (own_below hL.out (Below.refl _ wr).drew).alloc (.cells #[.int .i64 x] 3)
        have hsz : w1.heap.size ≤ (World.alloc wr.drew (.cells #[.int .i64 x] 3)).heap.size := by have := hK.out.size; rw [World.size_alloc]; exact Nat.le_succ_of_le this
        refine wpAnyH_ready (rs := [23]) (by kernel_rfl) (by simp) ?_
        refine AllReadyH.cons rfl (fun K1 hK1 => ?_) AllReadyH.nil
        rw [if_pos (by rfl)]
        refine wp_append_rd _ _ _ rfl w1.heap.size _ j ((mirL gW zs).take j) rfl hOa (some ⟨wr.heap.size, 0, none⟩) 1 1 [x] rfl hR1 (by omega) hsz ?_
        intro v' w6 hO6 hg6
        obtain ⟨ad6, cp6, rfl⟩ := slice_form hO6
        have K6 : Keeps (fun k => k = w.heap.size + 2 ∨ w1.heap.size ≤ k) w1 w6 := (KD.alloc _).trans ⟨hg6.os, hg6.tape, hg6.output, hg6.size, fun i hi hx => hg6.block i hi (fun e => hx (Or.inr (by first | exact (hL.out.lt _ e).1 | exact (hL.out.lt _ e.symm).1)))⟩
        have HO6 := hide hO6
        have O6g : Gd w6 (w.heap.size + 2) gW gH ad j cp := (hg6.block _ (by have := hO.out.lt; simp; omega) (fun e => by have h6 : w1.heap.size ≤ w.heap.size + 2 := (by first | exact (hL.out.lt _ e).1 | exact (hL.out.lt _ e.symm).1); omega)).trans ((hO.out.below (Below.refl _ wr).drew hO.out.lt).old _)
        refine hK1.out _ _ (SF.out _ K6) (fun SW => ?_)
        clear hK1 K1 hO6 hg6 hR1 hOa
        go_simp
        refine wpAnyH_take (i := 24) (v := .pointer (some ⟨w.heap.size + 2, 2, none⟩)) rfl (by kernel_rfl) (by kernel_rfl) (by kernel_rfl) (fun _ _ _ h => h) (Or.inl ⟨by rfl, ?_⟩) SW ?_
        · intro W4 hW4
          go_simp <;> first | done | rfl | (rw [IntKind.wrap_i64]; omega) | omega
        go_simp
        refine wpAnyH_ready (rs := [25]) (by kernel_rfl) (by simp) ?_
        refine AllReadyH.cons rfl (fun K1 hK1 => ?_) AllReadyH.nil
        go_simp
        obtain ⟨-, -, o2⟩ := O6g.cells
        have o3 := O6g.frozen 2
        go_simp
        have K7 := K6.setCell (p := ⟨w.heap.size + 2, 2, none⟩) (Or.inl rfl) (.slice ad6 (j + 1) cp6)
        refine hK1.out _ _ (SF.out _ K7) (fun SW => ?_)
        clear hK1 K1
        go_simp
        refine wpAnyH_done (by kernel_rfl) ?_ _
        have HG7 := hide (O6g.setP ad6 (j + 1) cp6)
        have HL7 : Hid ((w6.setCell ⟨w.heap.size + 2, 2, none⟩ (.slice ad6 (j + 1) cp6)).ownsRow w1.heap.size 3 1 (.slice ad6 (j + 1) cp6) (j + 1) (((mirL gW zs).take (j + 1)).map (Value.int .i64))) := hide (by rw [HTS.out]; exact own_keeps HO6.out (Keeps.set1 w6 (w.heap.size + 2) 2 _) (by omega))
        have HK7 := hide K7
        clear K7 K6 O6g SW o2 o3
        go_wp2_with fail
        exact ⟨⟨j + 1, cp6, ad6, by go_num, by omega, HG7, HL7, HK7⟩, by simp [intOf]; omega⟩
      · go_simp
        refine hK1.out _ _ (SF.out _ (KD.alloc _)) (fun SW => ?_)
        clear hK1 K1
        go_simp
        refine wpAnyH_ready (rs := [1]) (by kernel_rfl) (by simp) ?_
        refine AllReadyH.cons rfl (fun K1 hK1 => ?_) AllReadyH.nil
        obtain ⟨-, -, o2⟩ := (((hO.out.old (.cells #[.int .i64 x] 3)).below (Below.refl _ _).drew (hO.out.old (.cells #[.int .i64 x] 3)).lt)).cells
        go_simp
        refine hK1.out _ _ SW (fun SW => ?_)
        clear hK1 K1 o2
        go_simp
        have hR1 : Rd (World.alloc wr.drew (.cells #[.int .i64 x] 3)) (some ⟨wr.heap.size, 0, none⟩) 1 1 [x] := Rd.of_blk (Blk.new wr.drew 3 [x] _ rfl) rfl (by decide)
        have hOa := (own_below hL.out (Below.refl _ wr).drew).alloc (.cells #[.int .i64 x] 3)
        have hsz : w1.heap.size ≤ (World.alloc wr.drew (.cells #[.int .i64 x] 3)).heap.size := by have := hK.out.size; rw [World.size_alloc]; exact Nat.le_succ_of_le this
        refine wpAnyH_ready (rs := [23]) (by kernel_rfl) (by simp) ?_
        refine AllReadyH.cons rfl (fun K1 hK1 => ?_) AllReadyH.nil
        rw [if_pos (by rfl)]
        refine wp_append_rd _ _ _ rfl w1.heap.size _ j ((mirL gW zs).take j) rfl hOa (some ⟨wr.heap.size, 0, none⟩) 1 1 [x] rfl hR1 (by omega) hsz ?_
        intro v' w6 hO6 hg6
        obtain ⟨ad6, cp6, rfl⟩ := slice_form hO6
        have K6 : Keeps (fun k => k = w.heap.size + 2 ∨ w1.heap.size ≤ k) w1 w6 := (KD.alloc _).trans ⟨hg6.os, hg6.tape, hg6.output, hg6.size, fun i hi hx => hg6.block i hi (fun e => hx (Or.inr (by first | exact (hL.out.lt _ e).1 | exact (hL.out.lt _ e.symm).1)))⟩
        have HO6 := hide hO6
        have O6g : Gd w6 (w.heap.size + 2) gW gH ad j cp := (hg6.block _ (by have := hO.out.lt; simp; omega) (fun e => by have h6 : w1.heap.size ≤ w.heap.size + 2 := (by first | exact (hL.out.lt _ e).1 | exact (hL.out.lt _ e.symm).1); omega)).trans ((hO.out.below (Below.refl _ wr).drew hO.out.lt).old _)
        refine hK1.out _ _ (SF.out _ K6) (fun SW => ?_)
        clear hK1 K1 hO6 hg6 hR1 hOa
        go_simp
        refine wpAnyH_take (i := 24) (v := .pointer (some ⟨w.heap.size + 2, 2, none⟩)) rfl (by kernel_rfl) (by kernel_rfl) (by kernel_rfl) (fun _ _ _ h => h) (Or.inl ⟨by rfl, ?_⟩) SW ?_
        · intro W4 hW4
          go_simp <;> first | done | rfl | (rw [IntKind.wrap_i64]; omega) | omega
        go_simp
        refine wpAnyH_ready (rs := [25]) (by kernel_rfl) (by simp) ?_
        refine AllReadyH.cons rfl (fun K1 hK1 => ?_) AllReadyH.nil
        go_simp
        obtain ⟨-, -, o2⟩ := O6g.cells
        have o3 := O6g.frozen 2
        go_simp
        have K7 := K6.setCell (p := ⟨w.heap.size + 2, 2, none⟩) (Or.inl rfl) (.slice ad6 (j + 1) cp6)
        refine hK1.out _ _ (SF.out _ K7) (fun SW => ?_)
        clear hK1 K1
        go_simp
        refine wpAnyH_done (by kernel_rfl) ?_ _
        have HG7 := hide (O6g.setP ad6 (j + 1) cp6)
        have HL7 : Hid ((w6.setCell ⟨w.heap.size + 2, 2, none⟩ (.slice ad6 (j + 1) cp6)).ownsRow w1.heap.size 3 1 (.slice ad6 (j + 1) cp6) (j + 1) (((mirL gW zs).take (j + 1)).map (Value.int .i64))) := hide (by rw [HTS.out]; exact own_keeps HO6.out (Keeps.set1 w6 (w.heap.size + 2) 2 _) (by omega))
        have HK7 := hide K7
        clear K7 K6 O6g SW o2 o3
        go_wp2_with fail
        exact ⟨⟨j + 1, cp6, ad6, by go_num, by omega, HG7, HL7, HK7⟩, by simp [intOf]; omega⟩
    · have hlt' : ¬ (j : Int) < (n : Int) := by omega
      have hje : j = n := by omega
      subst hje
      have O' := hO.out
      have Z' := HZ11.out.keeps hK.out (by omega)
      have HLt : Hid (wr.ownsRow w1.heap.size 3 1 (.slice ad j cp) j ((mirL gW zs).map (Value.int .i64))) := hide (by have := hL.out; rwa [List.take_of_length_le (by rw [HMN.out]; exact Nat.le_refl _)] at this)
      have HBr : Hid (Below w.heap.size w wr) := hide (HB1.out.trans ((hK.out.mono (Y := fun q => w.heap.size ≤ q) (fun q _ e => by omega)).below (B := w.heap.size) HB1.out.size (fun q hq e => by omega)))
      go_wp2_with (first
        | refine wpList_load_gd rfl (.tmp 3) rfl (w.heap.size + 2) rfl O' ?_
        | (refine wpList_store_gd rfl (.tmp 2) (.tmp 42) rfl (w.heap.size + 1) rfl rfl Z' ?_; intro w6 k6 kk6))
      refine bodyPost_ret (results_gd rfl _ _ (w.heap.size + 1) rfl k6) rfl ⟨ad, cp, rfl, ?_, ?_⟩
      · exact Rd.of_own (own_keeps HLt.out kk6 (by omega))
      · exact HBr.out.trans ((kk6.mono (Y := fun q => w.heap.size ≤ q) (fun q _ e => by omega)).below (B := w.heap.size) HBr.out.size (fun q hq e => by omega))

end Go.Proofs.YtkmghlmniahgbaaDoor
