/-
  Whether a tray can be brought home, and how many moves it needs at the least. No conditions beyond those that each theorem bears.
-/
import Derived.Test.YticalbpohhpjaaaDoorDi
namespace Go.Proofs.YticalbpohhpjaaaDoor
open Go.RowKit

/-- What may be, in natural numbers. -/
theorem may_nat {W H : Int} {zs : List Int} (h : mayS W H zs) : ∃ u v : Nat, W = u ∧ H = v ∧ (2 ≤ u ∧ u ≤ 5) ∧ (2 ≤ v ∧ v ≤ 5) ∧ u * v = zs.length ∧ IsOrd zs := by
  obtain ⟨h1, h2, h3, h4, h5, h6⟩ := h
  obtain ⟨u, rfl⟩ := Int.eq_ofNat_of_zero_le (show 0 ≤ W by omega)
  obtain ⟨v, rfl⟩ := Int.eq_ofNat_of_zero_le (show 0 ≤ H by omega)
  refine ⟨u, v, rfl, rfl, by omega, by omega, ?_, isOrd_of_all zs h6⟩
  have : ((u * v : Nat) : Int) = (zs.length : Int) := by rw [h5]; simp
  omega

theorem len_bd {u v n : Nat} (hu : 2 ≤ u ∧ u ≤ 5) (hv : 2 ≤ v ∧ v ≤ 5) (h : u * v = n) : 4 ≤ n ∧ n ≤ 25 := by
  have h1 := Nat.mul_le_mul hu.1 hv.1
  have h2 := Nat.mul_le_mul hu.2 hv.2
  omega

theorem IsOrd.rng {zs : List Int} (h : IsOrd zs) {n : Nat} (hn : zs.length = n) (p : Nat) (hp : p < n) : 0 ≤ zs.getD p 0 ∧ zs.getD p 0 < n := by
  have := h.range _ (getD_mem (zs := zs) (k := p) (by omega))
  rwa [hn] at this

theorem IsOrd.gap {zs : List Int} (h : IsOrd zs) {n : Nat} (hn : zs.length = n) (h0 : 0 < n) : ∃ g : Nat, ix zs 0 = g ∧ g < n ∧ zs.getD g 0 = 0 := by
  obtain ⟨g, e, hl, hz⟩ := ix_at (h.mem 0 (by omega))
  exact ⟨g, e, by omega, hz⟩

theorem dst_le {W p q : Nat} (hp : p < 25) (hq : q < 25) (hW : 2 ≤ W ∧ W ≤ 5) : dst W p q ≤ 30 := by
  have b1 : p % W < 5 := Nat.lt_of_lt_of_le (Nat.mod_lt _ (by omega)) hW.2
  have b2 : q % W < 5 := Nat.lt_of_lt_of_le (Nat.mod_lt _ (by omega)) hW.2
  have b3 : p / W < 13 := Nat.div_lt_of_lt_mul (by have := Nat.mul_le_mul_right 13 hW.1; omega)
  have b4 : q / W < 13 := Nat.div_lt_of_lt_mul (by have := Nat.mul_le_mul_right 13 hW.1; omega)
  unfold dst
  generalize p % W = x1 at *
  generalize q % W = x2 at *
  generalize p / W = y1 at *
  generalize q / W = y2 at *
  omega

set_option maxHeartbeats 2000000 in
theorem Can_no (W H : Int) (a : Option Addr) (n c : Nat) (zs : List Int) (w : World) (h : Rd w a n c zs) (hm : mayB W H zs = false) :
    Calls Tryd.prog 11 #[.agg (gdA W H a n c)] w fun e w' => e = .returned (.tuple #[.bool false, .int .i64 12]) ∧ Below w.heap.size w w' := by
  obtain ⟨w1, hw1⟩ : ∃ w1, w.alloc (.cells (gdA W H a n c) 24) = w1 := ⟨_, rfl⟩
  have B1 : Below w.heap.size w w1 := by rw [← hw1]; exact (Below.refl _ _).alloc (Nat.le_refl _) _
  have CALL := hide (May_any W H a n c zs w1 (h.mono B1))
  rw [hm] at CALL
  have HB := hide B1
  have K1 : Gd w1 w.heap.size W H a n c := by rw [← hw1]; exact Gd.new _ _ _ _ _ _
  clear h B1 hm
  go_enter Tryd.func11, Tryd.ntmps11
  go_upto_region 1 with fail
  clear hw1
  go_wp2_with (refine wpList_load_gd rfl (.tmp 1) rfl w.heap.size rfl K1 ?_)
  refine CALL.out.mono ?_
  rintro e w2 ⟨rfl, hb2⟩
  have HB2 := hide (HB.out.trans (hb2.mono HB.out.size))
  clear K1 HB CALL hb2
  go_wp2_with fail
  go_ret2
  exact ⟨rfl, HB2.out⟩

set_option maxHeartbeats 8000000 in
theorem Can_yes (W H : Nat) (a : Option Addr) (n c g : Nat) (zs : List Int) (w : World) (h : Rd w a n c zs) (hm : mayS W H zs) (hu : 2 ≤ W ∧ W ≤ 5) (hv : 2 ≤ H ∧ H ≤ 5) (hN : W * H = zs.length) (ho : IsOrd zs) (hg : ix zs 0 = g) (hgn : g < n) :
    Calls Tryd.prog 11 #[.agg (gdA W H a n c)] w fun e w' => e = .returned (.tuple #[.bool (decide (pairs (hms zs n) % 2 = dst W g (hom zs n g) % 2)), .int .i64 0]) ∧ Below w.heap.size w w' := by
  have hlen := h.len
  have hb := len_bd hu hv (hN.trans hlen)
  obtain ⟨w1, hw1⟩ : ∃ w1, w.alloc (.cells (gdA W H a n c) 24) = w1 := ⟨_, rfl⟩
  have B1 : Below w.heap.size w w1 := by rw [← hw1]; exact (Below.refl _ _).alloc (Nat.le_refl _) _
  have CALL := hide (May_any W H a n c zs w1 (h.mono B1))
  rw [mayB_yes hm] at CALL
  have HB := hide B1
  have K1 : Gd w1 w.heap.size W H a n c := by rw [← hw1]; exact Gd.new _ _ _ _ _ _
  have HH := hide (h.mono B1)
  have HO := hide ho
  have HS1 : Hid (w1.heap.size = w.heap.size + 1) := hide (by rw [← hw1]; simp)
  clear h B1 hm ho
  go_enter Tryd.func11, Tryd.ntmps11
  go_upto_region 1 with fail
  clear hw1
  go_wp2_with (refine wpList_load_gd rfl (.tmp 1) rfl w.heap.size rfl K1 ?_)
  refine CALL.out.mono ?_
  rintro e w2 ⟨rfl, hb2⟩
  have K2 := K1.below hb2 (by have := HS1.out; omega)
  have HB2 := hide (HB.out.trans (hb2.mono HB.out.size))
  have HR2 := hide (HH.out.mono hb2)
  clear K1 HB CALL hb2 HH
  go_wp2_with (refine wpList_load_gd rfl (.tmp 1) rfl w.heap.size rfl K2 ?_)
  refine (trayOf_any W H a n c zs g w2 HR2.out (by omega) hg).mono ?_
  rintro e w3 ⟨cb, c', rfl, hBw, hcb, hb3⟩
  have HB3 := hide (HB2.out.trans (hb3.mono HB2.out.size))
  have HW3 := hide hBw
  clear K2 HR2 hb3 hBw
  go_upto_region 4 with fail
  obtain ⟨w4, hw4⟩ : ∃ w4, w3.alloc (Obj.cells (trA W H (some ⟨cb, 0, none⟩) n c' g) 55) = w4 := ⟨_, rfl⟩
  rw [hw4]
  have T4 : Ty w4 w3.heap.size W H (some ⟨cb, 0, none⟩) n c' g := by rw [← hw4]; exact Ty.new _ _ _ _ _ _ _
  have B34 : Below w3.heap.size w3 w4 := by rw [← hw4]; exact (Below.refl _ w3).alloc (Nat.le_refl _) _
  have HB4 := hide (HB3.out.trans (B34.mono HB3.out.size))
  have HW4 := hide (HW3.out.mono B34)
  generalize hbt : w3.heap.size = bt at *
  have HBT : Hid (w.heap.size ≤ bt) := hide (by have := HB3.out.size; omega)
  clear hw4 HB3 HW3 B34 hbt
  have hz : ∀ p, p < n → 0 ≤ zs.getD p 0 ∧ zs.getD p 0 < n := fun p hp => HO.out.rng hlen p hp
  refine wp_region_held (S := fun W4 => Keeps (fun _ => False) w4 W4) (by kernel_rfl) ?_
  change wpAnyH _ _ _ _ _ _ _ _ (World.drew _)
  have SW : Keeps (fun _ => False) w4 w4.drew := (Keeps.refl _ w4).drew
  refine wpAnyH_take (i := 0) (v := .agg (trA W H (some ⟨cb, 0, none⟩) n c' g)) rfl (by kernel_rfl) (by kernel_rfl) (by kernel_rfl) (fun _ _ _ h => h) (yieldsIf_load_mid (by rfl) 55 _ rfl bt 0 (by rfl) (trA W H (some ⟨cb, 0, none⟩) n c' g).toList _ (fun W4 hW4 => World.rangeAt_of_block (T4.keeps hW4 (fun h => h)) 0 4) Tryd.underlying55 rfl (by exact size55)) SW ?_
  go_simp
  refine wpAnyH_take (i := 3) (v := .agg (trA W H (some ⟨cb, 0, none⟩) n c' g)) rfl (by kernel_rfl) (by kernel_rfl) (by kernel_rfl) (fun _ _ _ h => h) (yieldsIf_load_mid (by rfl) 55 _ rfl bt 0 (by rfl) (trA W H (some ⟨cb, 0, none⟩) n c' g).toList _ (fun W4 hW4 => World.rangeAt_of_block (T4.keeps hW4 (fun h => h)) 0 4) Tryd.underlying55 rfl (by exact size55)) SW ?_
  go_simp
  refine wpAnyH_take (i := 4) (v := .pointer (some ⟨bt, 3, none⟩)) rfl (by kernel_rfl) (by kernel_rfl) (by kernel_rfl) (fun _ _ _ h => h) (Or.inl ⟨by rfl, ?_⟩) SW ?_
  · intro W4 hW4
    go_simp <;> first | done | rfl | (rw [IntKind.wrap_i64]; omega) | omega
  go_simp
  refine wpAnyH_take (i := 5) (v := .int .i64 g) rfl (by kernel_rfl) (by kernel_rfl) (by kernel_rfl) (fun _ _ _ h => h) (Or.inl ⟨by rfl, ?_⟩) SW ?_
  · intro W4 hW4
    have hc := (T4.keeps hW4 (fun h => h)).cells.2.2.2
    go_simp <;> first | done | rfl | (rw [IntKind.wrap_i64]; omega) | omega
  go_simp
  refine wpAnyH_ready (rs := [1]) (by kernel_rfl) (by simp) ?_
  refine AllReadyH.cons rfl (fun K1 hK1 => ?_) AllReadyH.nil
  go_simp
  refine (disorder_any W H _ n c' g zs _ (HW4.out.keeps SW (fun h => h)).rd (by omega) hz).mono ?_
  rintro e w5 ⟨rfl, hb5⟩
  refine hK1.out _ _ (SW.trans (Keeps.of_all hb5)) (fun SW => ?_)
  clear hK1 K1 hb5
  have hpl : pairs (hms zs n) ≤ 650 := by rw [← metTo_end (hms zs n), hms_length]; exact metTo_le _ _ _ (by omega) (by omega)
  generalize hPP : pairs (hms zs n) = PP at *
  have HPP := hide hPP
  clear hPP
  go_simp
  refine wpAnyH_take (i := 2) (v := .int .i64 ((PP : Int) % 2)) rfl (by kernel_rfl) (by kernel_rfl) (by kernel_rfl) (fun _ _ _ h => h) (Or.inl ⟨by rfl, ?_⟩) SW ?_
  · intro W4 hW4
    go_simp <;> first | done | rfl | (rw [IntKind.wrap_i64]; omega) | omega
  go_simp
  refine wpAnyH_ready (rs := [6]) (by kernel_rfl) (by simp) ?_
  refine AllReadyH.cons rfl (fun K1 hK1 => ?_) AllReadyH.nil
  go_simp
  refine (distance_any W H _ n c' g g zs _ (HW4.out.keeps SW (fun h => h)).rd hgn (by omega) hu (hz g hgn)).mono ?_
  rintro e w6 ⟨rfl, hb6⟩
  refine hK1.out _ _ (SW.trans (Keeps.of_all hb6)) (fun SW => ?_)
  clear hK1 K1 hb6
  have hdl : dst W g (hom zs n g) ≤ 30 := dst_le (by omega) (by have := hom_lt (zs := zs) (n := n) (p := g) (by omega); omega) hu
  generalize hDD : dst W g (hom zs n g) = DD at *
  have HDD := hide hDD
  clear hDD
  go_simp
  obtain ⟨bb, hbb⟩ : ∃ bb, decide (PP % 2 = DD % 2) = bb := ⟨_, rfl⟩
  have HBB := hide hbb
  have hbe : ((PP : Int) % 2 == (DD : Int) % 2) = bb := by rw [← hbb, Bool.eq_iff_iff, beq_iff_eq, decide_eq_true_iff]; omega
  clear hbb
  refine wpAnyH_take (i := 7) (v := .int .i64 ((DD : Int) % 2)) rfl (by kernel_rfl) (by kernel_rfl) (by kernel_rfl) (fun _ _ _ h => h) (Or.inl ⟨by rfl, ?_⟩) SW ?_
  · intro W4 hW4
    go_simp <;> first | done | rfl | (rw [IntKind.wrap_i64]; omega) | omega
  go_simp
  refine wpAnyH_take (i := 8) (v := .bool bb) rfl (by kernel_rfl) (by kernel_rfl) (by kernel_rfl) (fun _ _ _ h => h) (Or.inl ⟨by rfl, ?_⟩) SW ?_
  · intro W4 hW4
    go_simp <;> first | done | rfl | (rw [IntKind.wrap_i64]; omega) | omega
  go_simp
  refine wpAnyH_ready (rs := [9]) (by kernel_rfl) (by simp) ?_
  refine AllReadyH.cons rfl (fun K1 hK1 => ?_) AllReadyH.nil
  go_simp
  refine hK1.out _ _ SW (fun SW => ?_)
  clear hK1 K1
  go_simp
  refine wpAnyH_ready (rs := [10]) (by kernel_rfl) (by simp) ?_
  refine AllReadyH.cons rfl (fun K1 hK1 => ?_) AllReadyH.nil
  go_simp
  refine hK1.out _ _ SW (fun SW => ?_)
  clear hK1 K1
  go_simp
  refine wpAnyH_done (by kernel_rfl) ?_ _
  have HB5 := hide (HB4.out.trans ((SW.mono (Y := fun k => w.heap.size ≤ k) (fun k _ h => h.elim)).below HB4.out.size (fun k hk e => by omega)))
  clear SW T4
  go_wp2_with fail
  go_ret2
  exact ⟨by rw [HPP.out, HDD.out, HBB.out]; rfl, HB5.out⟩


end Go.Proofs.YticalbpohhpjaaaDoor
