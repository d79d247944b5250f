/-
  How many moves a tray needs at the least. No conditions beyond those that each theorem bears.
-/
import Derived.Test.YticalbpohhpjaaaDoorCa
namespace Go.Proofs.YticalbpohhpjaaaDoor
open Go.RowKit

/-- The ways of the stones of the first places, added. -/
def lst (W : Nat) (zs : List Int) (n g k : Nat) : Nat := sumTo (fun p => if p = g then 0 else dst W p (hom zs n p)) k

theorem lst_le {W : Nat} {zs : List Int} {n g k : Nat} (hW : 2 ≤ W ∧ W ≤ 5) (hn : 0 < n ∧ n ≤ 25) (hk : k ≤ n) : lst W zs n g k ≤ 750 := by
  have := sumTo_le (fun p => if p = g then 0 else dst W p (hom zs n p)) k 30 (fun p hp => by
    split
    · omega
    · exact dst_le (by omega) (by have := hom_lt (zs := zs) (n := n) (p := p) hn.1; omega) hW)
  unfold lst
  omega

theorem lst_succ (W : Nat) (zs : List Int) (n g k : Nat) : lst W zs n g (k + 1) = lst W zs n g k + if k = g then 0 else dst W k (hom zs n k) := rfl

set_option maxHeartbeats 2000000 in
theorem Least_no (W H : Int) (a : Option Addr) (n c : Nat) (zs : List Int) (w : World) (h : Rd w a n c zs) (hm : mayB W H zs = false) :
    Calls Tryd.prog 12 #[.agg (gdA W H a n c)] w fun e w' => e = .returned (.tuple #[.int .i64 0, .int .i64 12]) ∧ Below w.heap.size w w' := by
  obtain ⟨w1, hw1⟩ : ∃ w1, w.alloc (.cells (gdA W H a n c) 24) = w1 := ⟨_, rfl⟩
  have B1 : Below w.heap.size w w1 := by rw [← hw1]; exact (Below.refl _ _).alloc (Nat.le_refl _) _
  have CALL := hide (May_any W H a n c zs w1 (h.mono B1))
  rw [hm] at CALL
  have HB := hide B1
  have K1 : Gd w1 w.heap.size W H a n c := by rw [← hw1]; exact Gd.new _ _ _ _ _ _
  clear h B1 hm
  go_enter Tryd.func12, Tryd.ntmps12
  go_upto_region 1 with fail
  clear hw1
  go_wp2_with (refine wpList_load_gd rfl (.tmp 1) rfl w.heap.size rfl K1 ?_)
  refine CALL.out.mono ?_
  rintro e w2 ⟨rfl, hb2⟩
  have HB2 := hide (HB.out.trans (hb2.mono HB.out.size))
  clear K1 HB CALL hb2
  go_wp2_with fail
  go_ret2
  exact ⟨rfl, HB2.out⟩

set_option maxHeartbeats 8000000 in
theorem Least_yes (W H : Nat) (a : Option Addr) (n c g : Nat) (zs : List Int) (w : World) (h : Rd w a n c zs) (hm : mayS W H zs) (hu : 2 ≤ W ∧ W ≤ 5) (hv : 2 ≤ H ∧ H ≤ 5) (hN : W * H = zs.length) (ho : IsOrd zs) (hg : ix zs 0 = g) (hgn : g < n) :
    Calls Tryd.prog 12 #[.agg (gdA W H a n c)] w fun e w' => e = .returned (.tuple #[.int .i64 (lst W zs n g n : Nat), .int .i64 0]) ∧ Below w.heap.size w w' := by
  have hlen := h.len
  have hb := len_bd hu hv (hN.trans hlen)
  obtain ⟨w1, hw1⟩ : ∃ w1, w.alloc (.cells (gdA W H a n c) 24) = w1 := ⟨_, rfl⟩
  have B1 : Below w.heap.size w w1 := by rw [← hw1]; exact (Below.refl _ _).alloc (Nat.le_refl _) _
  have CALL := hide (May_any W H a n c zs w1 (h.mono B1))
  rw [mayB_yes hm] at CALL
  have HB := hide B1
  have K1 : Gd w1 w.heap.size W H a n c := by rw [← hw1]; exact Gd.new _ _ _ _ _ _
  have HH := hide (h.mono B1)
  have HO := hide ho
  have HS1 : Hid (w1.heap.size = w.heap.size + 1) := hide (by rw [← hw1]; simp)
  clear h B1 hm ho
  go_enter Tryd.func12, Tryd.ntmps12
  go_upto_region 1 with fail
  clear hw1
  go_wp2_with (refine wpList_load_gd rfl (.tmp 1) rfl w.heap.size rfl K1 ?_)
  refine CALL.out.mono ?_
  rintro e w2 ⟨rfl, hb2⟩
  have K2 := K1.below hb2 (by have := HS1.out; omega)
  have HB2 := hide (HB.out.trans (hb2.mono HB.out.size))
  have HR2 := hide (HH.out.mono hb2)
  clear K1 HB CALL hb2 HH
  go_wp2_with (refine wpList_load_gd rfl (.tmp 1) rfl w.heap.size rfl K2 ?_)
  refine (trayOf_any W H a n c zs g w2 HR2.out (by omega) hg).mono ?_
  rintro e w3 ⟨cb, c', rfl, hBw, hcb, hb3⟩
  have HB3 := hide (HB2.out.trans (hb3.mono HB2.out.size))
  have HW3 := hide hBw
  clear K2 HR2 hb3 hBw
  go_upto_region 4 with fail
  obtain ⟨w4, hw4⟩ : ∃ w4, w3.alloc (Obj.cells (trA W H (some ⟨cb, 0, none⟩) n c' g) 55) = w4 := ⟨_, rfl⟩
  rw [hw4]
  have T4 : Ty w4 w3.heap.size W H (some ⟨cb, 0, none⟩) n c' g := by rw [← hw4]; exact Ty.new _ _ _ _ _ _ _
  have B34 : Below w3.heap.size w3 w4 := by rw [← hw4]; exact (Below.refl _ w3).alloc (Nat.le_refl _) _
  have HB4 := hide (HB3.out.trans (B34.mono HB3.out.size))
  have HW4 := hide (HW3.out.mono B34)
  generalize hbt : w3.heap.size = bt at *
  have HBT : Hid (w.heap.size ≤ bt) := hide (by have := HB3.out.size; omega)
  clear hw4 HB3 HW3 B34 hbt
  have hz : ∀ p, p < n → 0 ≤ zs.getD p 0 ∧ zs.getD p 0 < n := fun p hp => HO.out.rng hlen p hp
  have HT4 := hide T4
  obtain ⟨t0, t1, t2, t3⟩ := T4.cells
  have hcap := HW4.out.rd.cap
  have hmax := HW4.out.rd.max
  unfold maxLen at hmax
  go_wp2_with fail
  clear t0 t1 t2 t3 T4
  go_loopw [5, 16] (fun s i wr => ∃ k : Nat, k ≤ n ∧ i = .int .i64 k ∧ s = .int .i64 (lst W zs n g k : Nat) ∧ Hid (Keeps (fun _ => False) w4 wr)) (fun _ i _ => n - (intOf i).toNat)
  case atStart => exact ⟨0, by omega, rfl, rfl, hide (Keeps.refl _ _)⟩
  case round =>
    obtain ⟨k, hk, rfl, rfl, HK⟩ := hrel
    have T5 := HT4.out.keeps HK.out (fun h => h)
    have HW5 := hide (HW4.out.keeps HK.out (fun h => h))
    have hbl := lst_le (g := g) (zs := zs) hu (by omega) hk
    by_cases hkn : k < n
    · have hlt' : (k : Int) < (n : Int) := by omega
      have HSU := hide (lst_succ W zs n g k)
      generalize lst W zs n g k = M at *
      obtain ⟨t0, t1, t2, t3⟩ := T5.cells
      by_cases hkg : k = g
      · have hne : ((k : Int) != (g : Int)) = false := by rw [hkg]; simp
        rw [if_pos hkg, Nat.add_zero] at HSU
        go_wp2_with fail
        go_roundw
        case rel => exact ⟨k + 1, by omega, by go_num, by rw [HSU.out]; rfl, HK⟩
        case measure => simp [intOf]; omega
      · have hne : ((k : Int) != (g : Int)) = true := by rw [bne_iff_ne]; omega
        rw [if_neg hkg] at HSU
        have hdl : dst W k (hom zs n k) ≤ 30 := dst_le (by omega) (by have := hom_lt (zs := zs) (n := n) (p := k) (by omega); omega) hu
        go_wp2_with (refine wpList_load_ty rfl (.tmp 4) rfl bt rfl T5 ?_)
        refine (distance_any W H _ n c' k g zs _ HW5.out.rd hkn (by omega) hu (hz k hkn)).mono ?_
        rintro e w6 ⟨rfl, hb6⟩
        have HK6 := hide (HK.out.trans (Keeps.of_all hb6))
        generalize dst W k (hom zs n k) = D at *
        clear hb6 t0 t1 t2 t3 T5 HW5 HK
        go_wp2_with fail
        go_roundw
        case rel => exact ⟨k + 1, by omega, by go_num, by rw [HSU.out]; go_num, HK6⟩
        case measure => simp [intOf]; omega
    · obtain rfl : k = n := by omega
      have hlt' : ¬ (k : Int) < (k : Int) := by omega
      have HB5 := hide (HB4.out.trans ((HK.out.mono (Y := fun j => w.heap.size ≤ j) (fun j _ h => h.elim)).below HB4.out.size (fun j hj e => by omega)))
      go_wp2_with fail
      go_ret2
      exact ⟨rfl, HB5.out⟩


end Go.Proofs.YticalbpohhpjaaaDoor
