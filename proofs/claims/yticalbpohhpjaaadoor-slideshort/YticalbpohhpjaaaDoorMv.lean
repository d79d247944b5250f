/-
  A stone moved into the gap. No conditions beyond those that each theorem bears.
-/
import Derived.Test.YticalbpohhpjaaaDoorTy
namespace Go.Proofs.YticalbpohhpjaaaDoor
open Go.RowKit

abbrev stab : List Int := dtab

theorem stab_row {w : World} (h : Tab w) {d : Nat} (hd : d < 4) : w.rangeAt 0 (d * 2) [.int .i64 (stab.getD (2 * d) 0), .int .i64 (stab.getD (2 * d + 1) 0)] := by
  intro j v hv
  match j, hv with
  | 0, hv => simp at hv; subst hv; have := h (2 * d) (by omega); rw [show d * 2 + 0 = 2 * d by omega]; exact this
  | 1, hv => simp at hv; subst hv; have := h (2 * d + 1) (by omega); rw [show d * 2 + 1 = 2 * d + 1 by omega]; exact this
  | j + 2, hv => simp at hv

theorem stab_bd {d : Nat} (hd : d < 4) : (-1 ≤ stab.getD (2 * d) 0 ∧ stab.getD (2 * d) 0 ≤ 1) ∧ (-1 ≤ stab.getD (2 * d + 1) 0 ∧ stab.getD (2 * d + 1) 0 ≤ 1) := by
  match d, hd with
  | 0, _ => decide
  | 1, _ => decide
  | 2, _ => decide
  | 3, _ => decide
  | d + 4, h => omega

/-- Where the stone is that moves so. -/
abbrev frm (W H g d : Nat) : Int := stq W H g (stab.getD (2 * d) 0) (stab.getD (2 * d + 1) 0)
/-- Is there one? -/
abbrev cmv (W H g d : Nat) : Bool := decide (inb W H g (stab.getD (2 * d) 0) (stab.getD (2 * d + 1) 0))

/-- What a row reads behind a move. -/
def mvl (zs : List Int) (g q : Nat) : List Int := (zs.set g (zs.getD q 0)).set q 0

theorem stq_nat {W H p : Nat} {dx dy : Int} (h : inb W H p dx dy) : ∃ q : Nat, stq W H p dx dy = q ∧ q < W * H := by
  unfold stq
  rw [if_pos h]
  obtain ⟨h1, h2, h3, h4⟩ := h
  obtain ⟨x, hx⟩ := Int.eq_ofNat_of_zero_le h1
  obtain ⟨y, hy⟩ := Int.eq_ofNat_of_zero_le h3
  rw [hx] at h2 ⊢
  rw [hy] at h4 ⊢
  refine ⟨y * W + x, by push_cast; rfl, ?_⟩
  have : (y + 1) * W ≤ H * W := Nat.mul_le_mul_right _ (by omega)
  rw [Nat.add_mul, Nat.mul_comm H W] at this
  omega

set_option maxHeartbeats 8000000 in
theorem move_row (b : Nat) (W H g d cb N c : Nat) (zs : List Int) (dx dy : Int) (w : World) (hrow : ∀ W4, Keeps (fun _ => False) w W4 → W4.rangeAt 0 (d * 2) [.int .i64 dx, .int .i64 dy]) (T3 : Ty w b W H (some ⟨cb, 0, none⟩) N c g) (hB : Bw w cb N c zs) (hW : 2 ≤ W ∧ W ≤ 5) (hH : 2 ≤ H ∧ H ≤ 5) (hN : W * H = N) (hg : g < N) (hd : d < 4) (hdx : -1 ≤ dx ∧ dx ≤ 1) (hdy : -1 ≤ dy ∧ dy ≤ 1) :
    Calls Tryd.prog 30 #[.pointer (some ⟨b, 0, none⟩), .int .i64 d] w fun e w' => e = .returned (.bool (decide (inb W H g dx dy))) ∧ Keeps (fun k => k = b ∨ k = cb) w w' ∧
      (¬ inb W H g dx dy → Ty w' b W H (some ⟨cb, 0, none⟩) N c g ∧ Bw w' cb N c zs) ∧ (inb W H g dx dy → ∀ q : Nat, stq W H g dx dy = q → Ty w' b W H (some ⟨cb, 0, none⟩) N c q ∧ Bw w' cb N c (mvl zs g q)) := by
  have hbc : b ≠ cb := fun e => hB.notCells T3 (by decide) e.symm
  have hN25 : N ≤ 25 := by rw [← hN]; exact Nat.mul_le_mul hW.2 hH.2
  have hcap := hB.rd.cap
  have hmax := hB.rd.max
  unfold maxLen at hmax
  have HB := hide hB
  clear hB
  go_enter Tryd.func30, Tryd.ntmps30
  go_upto_region 3 with fail
  refine wp_region_held (S := fun W4 => Keeps (fun _ => False) w W4) (by kernel_rfl) ?_
  change wpAnyH _ _ _ _ _ _ _ _ (World.drew _)
  have SW : Keeps (fun _ => False) w w.drew := (Keeps.refl _ w).drew
  refine wpAnyH_take (i := 0) (v := .pointer (some ⟨b, 0, none⟩)) rfl (by kernel_rfl) (by kernel_rfl) (by kernel_rfl) (fun _ _ _ h => h) (Or.inl ⟨by rfl, ?_⟩) SW ?_
  · intro W4 hW4
    go_simp <;> first | done | rfl | (rw [IntKind.wrap_i64]; omega) | omega
  go_simp
  refine wpAnyH_take (i := 1) (v := .pointer (some ⟨b, 0, none⟩)) rfl (by kernel_rfl) (by kernel_rfl) (by kernel_rfl) (fun _ _ _ h => h) (Or.inl ⟨by rfl, ?_⟩) SW ?_
  · intro W4 hW4
    go_simp <;> first | done | rfl | (rw [IntKind.wrap_i64]; omega) | omega
  go_simp
  refine wpAnyH_take (i := 2) (v := .pointer (some ⟨b, 0, none⟩)) rfl (by kernel_rfl) (by kernel_rfl) (by kernel_rfl) (fun _ _ _ h => h) (Or.inl ⟨by rfl, ?_⟩) SW ?_
  · intro W4 hW4
    go_simp <;> first | done | rfl | (rw [IntKind.wrap_i64]; omega) | omega
  go_simp
  refine wpAnyH_take (i := 3) (v := .agg (gdA W H (some ⟨cb, 0, none⟩) N c)) rfl (by kernel_rfl) (by kernel_rfl) (by kernel_rfl) (fun _ _ _ h => h) (yieldsIf_load_mid (by rfl) 24 _ rfl b 0 (by rfl) (gdA W H (some ⟨cb, 0, none⟩) N c).toList _ (fun W4 hW4 => (T3.keeps hW4 (fun h => h)).range0) Tryd.underlying24 rfl (by exact size24)) SW ?_
  go_simp
  refine wpAnyH_take (i := 4) (v := .pointer (some ⟨b, 0, none⟩)) rfl (by kernel_rfl) (by kernel_rfl) (by kernel_rfl) (fun _ _ _ h => h) (Or.inl ⟨by rfl, ?_⟩) SW ?_
  · intro W4 hW4
    go_simp <;> first | done | rfl | (rw [IntKind.wrap_i64]; omega) | omega
  go_simp
  refine wpAnyH_take (i := 5) (v := .pointer (some ⟨b, 0, none⟩)) rfl (by kernel_rfl) (by kernel_rfl) (by kernel_rfl) (fun _ _ _ h => h) (Or.inl ⟨by rfl, ?_⟩) SW ?_
  · intro W4 hW4
    go_simp <;> first | done | rfl | (rw [IntKind.wrap_i64]; omega) | omega
  go_simp
  refine wpAnyH_take (i := 6) (v := .pointer (some ⟨b, 3, none⟩)) rfl (by kernel_rfl) (by kernel_rfl) (by kernel_rfl) (fun _ _ _ h => h) (Or.inl ⟨by rfl, ?_⟩) SW ?_
  · intro W4 hW4
    go_simp <;> first | done | rfl | (rw [IntKind.wrap_i64]; omega) | omega
  go_simp
  refine wpAnyH_take (i := 7) (v := .int .i64 g) rfl (by kernel_rfl) (by kernel_rfl) (by kernel_rfl) (fun _ _ _ h => h) (Or.inl ⟨by rfl, ?_⟩) SW ?_
  · intro W4 hW4
    have hc := (T3.keeps hW4 (fun h => h)).cells.2.2.2
    go_simp <;> first | done | rfl | (rw [IntKind.wrap_i64]; omega) | omega
  go_simp
  refine wpAnyH_take (i := 8) (v := .int .i64 d) rfl (by kernel_rfl) (by kernel_rfl) (by kernel_rfl) (fun _ _ _ h => h) (Or.inl ⟨by rfl, ?_⟩) SW ?_
  · intro W4 hW4
    go_simp <;> first | done | rfl | (rw [IntKind.wrap_i64]; omega) | omega
  go_simp
  refine wpAnyH_take (i := 9) (v := .pointer (some ⟨0, d * 2, none⟩)) rfl (by kernel_rfl) (by kernel_rfl) (by kernel_rfl) (fun _ _ _ h => h) (Or.inl ⟨by rfl, ?_⟩) SW ?_
  · intro W4 hW4
    go_simp <;> first | done | rfl | (rw [IntKind.wrap_i64]; omega) | omega
  go_simp
  refine wpAnyH_take (i := 10) (v := .agg #[.int .i64 dx, .int .i64 dy]) rfl (by kernel_rfl) (by kernel_rfl) (by kernel_rfl) (fun _ _ _ h => h) (yieldsIf_load_mid (by rfl) 80 _ rfl 0 (d * 2) (by rfl) [.int .i64 dx, .int .i64 dy] _ (fun W4 hW4 => hrow W4 hW4) Tryd.underlying80 rfl (by exact size80)) SW ?_
  go_simp
  refine wpAnyH_ready (rs := [11]) (by kernel_rfl) (by simp) ?_
  refine AllReadyH.cons rfl (fun K1 hK1 => ?_) AllReadyH.nil
  go_simp
  refine (Step_any W H g _ _ _ dx dy _ hW hH (by omega) hdx hdy).mono ?_
  rintro e w2 ⟨rfl, hB2⟩
  refine hK1.out _ _ (SW.trans (Keeps.of_all hB2)) (fun SW => ?_)
  clear hK1 K1 hB2
  generalize hqq : stq W H g dx dy = q at *
  generalize hii : decide (inb W H g dx dy) = ok at *
  go_simp
  refine wpAnyH_take (i := 12) (v := .tuple #[.int .i64 q, .bool ok]) rfl (by kernel_rfl) (by kernel_rfl) (by kernel_rfl) (fun _ _ _ h => h) (Or.inl ⟨by rfl, ?_⟩) SW ?_
  · intro W4 hW4
    go_simp <;> first | done | rfl | (rw [IntKind.wrap_i64]; omega) | omega
  go_simp
  refine wpAnyH_take (i := 13) (v := .int .i64 q) rfl (by kernel_rfl) (by kernel_rfl) (by kernel_rfl) (fun _ _ _ h => h) (Or.inl ⟨by rfl, ?_⟩) SW ?_
  · intro W4 hW4
    go_simp <;> first | done | rfl | (rw [IntKind.wrap_i64]; omega) | omega
  go_simp
  refine wpAnyH_take (i := 14) (v := .bool ok) rfl (by kernel_rfl) (by kernel_rfl) (by kernel_rfl) (fun _ _ _ h => h) (Or.inl ⟨by rfl, ?_⟩) SW ?_
  · intro W4 hW4
    go_simp <;> first | done | rfl | (rw [IntKind.wrap_i64]; omega) | omega
  go_simp
  refine wpAnyH_ready (rs := [15]) (by kernel_rfl) (by simp) ?_
  refine AllReadyH.cons rfl (fun K1 hK1 => ?_) AllReadyH.nil
  go_simp
  refine hK1.out _ _ SW (fun SW => ?_)
  clear hK1 K1
  go_simp
  refine wpAnyH_ready (rs := [16]) (by kernel_rfl) (by simp) ?_
  refine AllReadyH.cons rfl (fun K1 hK1 => ?_) AllReadyH.nil
  go_simp
  refine hK1.out _ _ SW (fun SW => ?_)
  clear hK1 K1
  go_simp
  refine wpAnyH_done (by kernel_rfl) ?_ _
  have T4 := T3.keeps SW (fun h => h)
  have HB4 := hide (HB.out.keeps SW (fun h => h))
  have HK4 := hide SW
  clear T3 HB SW hrow
  by_cases hin : inb W H g dx dy
  rotate_left
  · obtain rfl : ok = false := by rw [← hii]; exact decide_eq_false hin
    clear hii
    go_wp2_with fail
    go_ret
    refine ⟨ret_bool (a := false) (decide_eq_false hin).symm, ?_, ?_, ?_⟩
    · exact HK4.out.mono (fun k _ h => h.elim)
    · exact fun _ => ⟨T4, HB4.out⟩
    · exact fun h => absurd h hin
  obtain rfl : ok = true := by rw [← hii]; exact decide_eq_true hin
  clear hii
  obtain ⟨r, hr, hrN⟩ := stq_nat hin
  obtain rfl : q = (r : Int) := by rw [← hqq]; exact hr
  rw [hN] at hrN
  have HRQ := hide hqq
  clear hqq hr
  go_upto_region 6 with fail
  generalize hv : zs.getD r 0 = v
  have hcr : w2.cell? ⟨cb, 0 + r, none⟩ = some (.int .i64 v) := by rw [← hv]; exact (HB4.out.rd.cell hrN).2
  rw [Nat.zero_add] at hcr
  have hcg : w2.cell? ⟨cb, 0 + g, none⟩ = some (.int .i64 (zs.getD g 0)) := (HB4.out.rd.cell hg).2
  rw [Nat.zero_add] at hcg
  have hfz : ∀ j, w2.frozen? ⟨cb, j, none⟩ = false := fun j => HB4.out.frozen j
  refine wp_region_held (S := fun W4 => Keeps (fun k => k = cb) w2 W4) (by kernel_rfl) ?_
  change wpAnyH _ _ _ _ _ _ _ _ (World.drew _)
  have SW : Keeps (fun k => k = cb) w2 w2.drew := (Keeps.refl _ w2).drew
  refine wpAnyH_take (i := 0) (v := .pointer (some ⟨b, 0, none⟩)) rfl (by kernel_rfl) (by kernel_rfl) (by kernel_rfl) (fun _ _ _ h => h) (Or.inl ⟨by rfl, ?_⟩) SW ?_
  · intro W4 hW4
    go_simp <;> first | done | rfl | (rw [IntKind.wrap_i64]; omega) | omega
  go_simp
  refine wpAnyH_take (i := 1) (v := .pointer (some ⟨b, 0, none⟩)) rfl (by kernel_rfl) (by kernel_rfl) (by kernel_rfl) (fun _ _ _ h => h) (Or.inl ⟨by rfl, ?_⟩) SW ?_
  · intro W4 hW4
    go_simp <;> first | done | rfl | (rw [IntKind.wrap_i64]; omega) | omega
  go_simp
  refine wpAnyH_take (i := 2) (v := .pointer (some ⟨b, 0, none⟩)) rfl (by kernel_rfl) (by kernel_rfl) (by kernel_rfl) (fun _ _ _ h => h) (Or.inl ⟨by rfl, ?_⟩) SW ?_
  · intro W4 hW4
    go_simp <;> first | done | rfl | (rw [IntKind.wrap_i64]; omega) | omega
  go_simp
  refine wpAnyH_take (i := 3) (v := .pointer (some ⟨b, 2, none⟩)) rfl (by kernel_rfl) (by kernel_rfl) (by kernel_rfl) (fun _ _ _ h => h) (Or.inl ⟨by rfl, ?_⟩) SW ?_
  · intro W4 hW4
    go_simp <;> first | done | rfl | (rw [IntKind.wrap_i64]; omega) | omega
  go_simp
  refine wpAnyH_take (i := 4) (v := .slice (some ⟨cb, 0, none⟩) N c) rfl (by kernel_rfl) (by kernel_rfl) (by kernel_rfl) (fun _ _ _ h => h) (Or.inl ⟨by rfl, ?_⟩) SW ?_
  · intro W4 hW4
    have hc := (T4.keeps hW4 hbc).cells.2.2.1
    go_simp <;> first | done | rfl | (rw [IntKind.wrap_i64]; omega) | omega
  go_simp
  refine wpAnyH_take (i := 5) (v := .pointer (some ⟨b, 0, none⟩)) rfl (by kernel_rfl) (by kernel_rfl) (by kernel_rfl) (fun _ _ _ h => h) (Or.inl ⟨by rfl, ?_⟩) SW ?_
  · intro W4 hW4
    go_simp <;> first | done | rfl | (rw [IntKind.wrap_i64]; omega) | omega
  go_simp
  refine wpAnyH_take (i := 6) (v := .pointer (some ⟨b, 0, none⟩)) rfl (by kernel_rfl) (by kernel_rfl) (by kernel_rfl) (fun _ _ _ h => h) (Or.inl ⟨by rfl, ?_⟩) SW ?_
  · intro W4 hW4
    go_simp <;> first | done | rfl | (rw [IntKind.wrap_i64]; omega) | omega
  go_simp
  refine wpAnyH_take (i := 7) (v := .pointer (some ⟨b, 3, none⟩)) rfl (by kernel_rfl) (by kernel_rfl) (by kernel_rfl) (fun _ _ _ h => h) (Or.inl ⟨by rfl, ?_⟩) SW ?_
  · intro W4 hW4
    go_simp <;> first | done | rfl | (rw [IntKind.wrap_i64]; omega) | omega
  go_simp
  refine wpAnyH_take (i := 8) (v := .int .i64 g) rfl (by kernel_rfl) (by kernel_rfl) (by kernel_rfl) (fun _ _ _ h => h) (Or.inl ⟨by rfl, ?_⟩) SW ?_
  · intro W4 hW4
    have hc := (T4.keeps hW4 hbc).cells.2.2.2
    go_simp <;> first | done | rfl | (rw [IntKind.wrap_i64]; omega) | omega
  go_simp
  refine wpAnyH_take (i := 9) (v := .pointer (some ⟨b, 0, none⟩)) rfl (by kernel_rfl) (by kernel_rfl) (by kernel_rfl) (fun _ _ _ h => h) (Or.inl ⟨by rfl, ?_⟩) SW ?_
  · intro W4 hW4
    go_simp <;> first | done | rfl | (rw [IntKind.wrap_i64]; omega) | omega
  go_simp
  refine wpAnyH_take (i := 10) (v := .pointer (some ⟨b, 0, none⟩)) rfl (by kernel_rfl) (by kernel_rfl) (by kernel_rfl) (fun _ _ _ h => h) (Or.inl ⟨by rfl, ?_⟩) SW ?_
  · intro W4 hW4
    go_simp <;> first | done | rfl | (rw [IntKind.wrap_i64]; omega) | omega
  go_simp
  refine wpAnyH_take (i := 11) (v := .pointer (some ⟨b, 0, none⟩)) rfl (by kernel_rfl) (by kernel_rfl) (by kernel_rfl) (fun _ _ _ h => h) (Or.inl ⟨by rfl, ?_⟩) SW ?_
  · intro W4 hW4
    go_simp <;> first | done | rfl | (rw [IntKind.wrap_i64]; omega) | omega
  go_simp
  refine wpAnyH_take (i := 12) (v := .pointer (some ⟨b, 2, none⟩)) rfl (by kernel_rfl) (by kernel_rfl) (by kernel_rfl) (fun _ _ _ h => h) (Or.inl ⟨by rfl, ?_⟩) SW ?_
  · intro W4 hW4
    go_simp <;> first | done | rfl | (rw [IntKind.wrap_i64]; omega) | omega
  go_simp
  refine wpAnyH_take (i := 13) (v := .slice (some ⟨cb, 0, none⟩) N c) rfl (by kernel_rfl) (by kernel_rfl) (by kernel_rfl) (fun _ _ _ h => h) (Or.inl ⟨by rfl, ?_⟩) SW ?_
  · intro W4 hW4
    have hc := (T4.keeps hW4 hbc).cells.2.2.1
    go_simp <;> first | done | rfl | (rw [IntKind.wrap_i64]; omega) | omega
  go_simp
  refine wpAnyH_take (i := 14) (v := .int .i64 r) rfl (by kernel_rfl) (by kernel_rfl) (by kernel_rfl) (fun _ _ _ h => h) (Or.inl ⟨by rfl, ?_⟩) SW ?_
  · intro W4 hW4
    go_simp <;> first | done | rfl | (rw [IntKind.wrap_i64]; omega) | omega
  go_simp
  refine wpAnyH_take (i := 15) (v := .pointer (some ⟨b, 0, none⟩)) rfl (by kernel_rfl) (by kernel_rfl) (by kernel_rfl) (fun _ _ _ h => h) (Or.inl ⟨by rfl, ?_⟩) SW ?_
  · intro W4 hW4
    go_simp <;> first | done | rfl | (rw [IntKind.wrap_i64]; omega) | omega
  go_simp
  refine wpAnyH_take (i := 16) (v := .pointer (some ⟨b, 0, none⟩)) rfl (by kernel_rfl) (by kernel_rfl) (by kernel_rfl) (fun _ _ _ h => h) (Or.inl ⟨by rfl, ?_⟩) SW ?_
  · intro W4 hW4
    go_simp <;> first | done | rfl | (rw [IntKind.wrap_i64]; omega) | omega
  go_simp
  refine wpAnyH_take (i := 17) (v := .pointer (some ⟨b, 0, none⟩)) rfl (by kernel_rfl) (by kernel_rfl) (by kernel_rfl) (fun _ _ _ h => h) (Or.inl ⟨by rfl, ?_⟩) SW ?_
  · intro W4 hW4
    go_simp <;> first | done | rfl | (rw [IntKind.wrap_i64]; omega) | omega
  go_simp
  refine wpAnyH_take (i := 18) (v := .pointer (some ⟨b, 2, none⟩)) rfl (by kernel_rfl) (by kernel_rfl) (by kernel_rfl) (fun _ _ _ h => h) (Or.inl ⟨by rfl, ?_⟩) SW ?_
  · intro W4 hW4
    go_simp <;> first | done | rfl | (rw [IntKind.wrap_i64]; omega) | omega
  go_simp
  refine wpAnyH_take (i := 19) (v := .slice (some ⟨cb, 0, none⟩) N c) rfl (by kernel_rfl) (by kernel_rfl) (by kernel_rfl) (fun _ _ _ h => h) (Or.inl ⟨by rfl, ?_⟩) SW ?_
  · intro W4 hW4
    have hc := (T4.keeps hW4 hbc).cells.2.2.1
    go_simp <;> first | done | rfl | (rw [IntKind.wrap_i64]; omega) | omega
  go_simp
  refine wpAnyH_take (i := 20) (v := .int .i64 r) rfl (by kernel_rfl) (by kernel_rfl) (by kernel_rfl) (fun _ _ _ h => h) (Or.inl ⟨by rfl, ?_⟩) SW ?_
  · intro W4 hW4
    go_simp <;> first | done | rfl | (rw [IntKind.wrap_i64]; omega) | omega
  go_simp
  refine wpAnyH_take (i := 21) (v := .pointer (some ⟨cb, r, none⟩)) rfl (by kernel_rfl) (by kernel_rfl) (by kernel_rfl) (fun _ _ _ h => h) (Or.inl ⟨by rfl, ?_⟩) SW ?_
  · intro W4 hW4
    go_simp <;> first | done | rfl | (rw [IntKind.wrap_i64]; omega) | omega
  go_simp
  refine wpAnyH_ready (rs := [22]) (by kernel_rfl) (by simp) ?_
  refine AllReadyH.cons rfl (fun K1 hK1 => ?_) AllReadyH.nil
  go_simp
  refine hK1.out _ _ SW (fun SW => ?_)
  clear hK1 K1
  go_simp
  refine wpAnyH_take (i := 23) (v := .pointer (some ⟨cb, g, none⟩)) rfl (by kernel_rfl) (by kernel_rfl) (by kernel_rfl) (fun _ _ _ h => h) (Or.inl ⟨by rfl, ?_⟩) SW ?_
  · intro W4 hW4
    go_simp <;> first | done | rfl | (rw [IntKind.wrap_i64]; omega) | omega
  go_simp
  refine wpAnyH_ready (rs := [24]) (by kernel_rfl) (by simp) ?_
  refine AllReadyH.cons rfl (fun K1 hK1 => ?_) AllReadyH.nil
  go_simp
  have T5 : Ty (w2.setCell ⟨cb, g, none⟩ (.int .i64 v)).drew b W H (some ⟨cb, 0, none⟩) N c g := T4.keeps (((Keeps.refl (fun k => k = cb) w2).setCell (p := ⟨cb, g, none⟩) rfl _).drew) hbc
  have B5 : Bw (w2.setCell ⟨cb, g, none⟩ (.int .i64 v)).drew cb N c (zs.set g v) := (HB4.out.set g v).mono ((Below.refl _ _).drew)
  have K5 : Keeps (fun k => k = cb) w2 (w2.setCell ⟨cb, g, none⟩ (.int .i64 v)).drew := ((Keeps.refl (fun k => k = cb) w2).setCell (p := ⟨cb, g, none⟩) rfl _).drew
  refine hK1.out _ _ K5 (fun SW => ?_)
  clear hK1 K1
  generalize (w2.setCell ⟨cb, g, none⟩ (.int .i64 v)).drew = w5 at *
  have hcr5 : w5.cell? ⟨cb, 0 + r, none⟩ = some (.int .i64 ((zs.set g v).getD r 0)) := (B5.rd.cell hrN).2
  rw [Nat.zero_add] at hcr5
  have hfz5 : ∀ j, w5.frozen? ⟨cb, j, none⟩ = false := fun j => B5.frozen j
  have HB5 := hide B5
  have HK5 := hide K5
  clear B5 K5 hcr hcg hfz
  go_simp
  refine wpAnyH_take (i := 25) (v := .pointer (some ⟨cb, r, none⟩)) rfl (by kernel_rfl) (by kernel_rfl) (by kernel_rfl) (fun _ _ _ h => h) (Or.inl ⟨by rfl, ?_⟩) SW ?_
  · intro W4 hW4
    go_simp <;> first | done | rfl | (rw [IntKind.wrap_i64]; omega) | omega
  go_simp
  refine wpAnyH_ready (rs := [26]) (by kernel_rfl) (by simp) ?_
  refine AllReadyH.cons rfl (fun K1 hK1 => ?_) AllReadyH.nil
  go_simp
  have T6 : Ty (w5.setCell ⟨cb, r, none⟩ (.int .i64 0)) b W H (some ⟨cb, 0, none⟩) N c g := T5.keeps ((Keeps.refl (fun k => k = cb) w5).setCell (p := ⟨cb, r, none⟩) rfl _) hbc
  have B6 : Bw (w5.setCell ⟨cb, r, none⟩ (.int .i64 0)) cb N c (mvl zs g r) := by
    have := HB5.out.set r 0
    unfold mvl
    rw [hv]
    exact this
  have K6 : Keeps (fun k => k = cb) w5 (w5.setCell ⟨cb, r, none⟩ (.int .i64 0)) := (Keeps.refl (fun k => k = cb) w5).setCell (p := ⟨cb, r, none⟩) rfl _
  refine hK1.out _ _ (SW.trans K6) (fun SW => ?_)
  clear hK1 K1
  generalize w5.setCell ⟨cb, r, none⟩ (.int .i64 0) = w6 at *
  go_simp
  refine wpAnyH_done (by kernel_rfl) ?_ _
  have HB6 := hide B6
  have HK6 := hide SW
  clear B6 K6 T5 hcr5 hfz5 HB5 HK5 SW T4 HB4
  obtain ⟨c0, c1, c2, c3⟩ := T6.cells
  have f3 := T6.frozen 3
  go_upto_region 8 with fail
  have T7 := hide (T6.setG r)
  have K7 : Keeps (fun k => k = b) w6 (w6.setCell ⟨b, 3, none⟩ (.int .i64 (r : Int))) := (Keeps.refl (fun k => k = b) w6).setCell (p := ⟨b, 3, none⟩) rfl _
  have HB7 := hide (HB6.out.keeps K7 (fun e => hbc e.symm))
  have HK7 : Hid (Keeps (fun k => k = b ∨ k = cb) w (w6.setCell ⟨b, 3, none⟩ (.int .i64 (r : Int)))) := hide (((HK4.out.mono (fun k _ h => h.elim)).trans (HK6.out.mono (fun k _ h => .inr h))).trans (K7.mono (fun k _ h => .inl h)))
  generalize w6.setCell ⟨b, 3, none⟩ (.int .i64 (r : Int)) = w7 at *
  clear T6 K7 c0 c1 c2 c3 f3 HB6 HK6 HK4
  go_wp2_with fail
  go_ret
  refine ⟨ret_bool (a := true) (decide_eq_true hin).symm, HK7.out, fun h => absurd hin h, fun _ q hq => ?_⟩
  obtain rfl : r = q := by have := HRQ.out; omega
  exact ⟨T7.out, HB7.out⟩

theorem move_any (b : Nat) (W H g d cb N c : Nat) (zs : List Int) (w : World) (hT : Tab w) (T3 : Ty w b W H (some ⟨cb, 0, none⟩) N c g) (hB : Bw w cb N c zs) (hW : 2 ≤ W ∧ W ≤ 5) (hH : 2 ≤ H ∧ H ≤ 5) (hN : W * H = N) (hg : g < N) (hd : d < 4) :
    Calls Tryd.prog 30 #[.pointer (some ⟨b, 0, none⟩), .int .i64 d] w fun e w' => e = .returned (.bool (cmv W H g d)) ∧ Keeps (fun k => k = b ∨ k = cb) w w' ∧
      (cmv W H g d = false → Ty w' b W H (some ⟨cb, 0, none⟩) N c g ∧ Bw w' cb N c zs) ∧ (cmv W H g d = true → ∀ q : Nat, frm W H g d = q → Ty w' b W H (some ⟨cb, 0, none⟩) N c q ∧ Bw w' cb N c (mvl zs g q)) :=
  (move_row b W H g d cb N c zs _ _ w (fun _ hW4 => stab_row (hT.keeps hW4 (fun h => h)) hd) T3 hB hW hH hN hg hd (stab_bd hd).1 (stab_bd hd).2).mono fun _ _ h =>
    ⟨h.1, h.2.1, fun hf => h.2.2.1 (of_decide_eq_false hf), fun ht => h.2.2.2 (of_decide_eq_true ht)⟩

theorem move_not (b : Nat) (d : Int) (w : World) (hd : d < 0 ∨ 4 ≤ d) : Calls Tryd.prog 30 #[.pointer (some ⟨b, 0, none⟩), .int .i64 d] w fun e w' => e = .returned (.bool false) ∧ w' = w := by
  by_cases h : d < 0
  · go_enter Tryd.func30, Tryd.ntmps30
    go_wp2
    go_ret
    exact ⟨rfl, rfl⟩
  · have h4 : 4 ≤ d := by omega
    go_enter Tryd.func30, Tryd.ntmps30
    go_wp2
    go_ret
    exact ⟨rfl, rfl⟩

end Go.Proofs.YticalbpohhpjaaaDoor
