/-
  How far what is at a place is from its home; how many pairs stand the wrong way round. No conditions beyond those that each theorem bears.
-/
import Derived.Test.YticalbpohhpjaaaDoorTr
namespace Go.Proofs.YticalbpohhpjaaaDoor
open Go.RowKit

theorem hom_lt {zs : List Int} {n p : Nat} (hn : 0 < n) : hom zs n p < n := Nat.mod_lt _ hn

set_option maxHeartbeats 8000000 in
theorem distance_any (W : Nat) (H : Int) (a : Option Addr) (n c p : Nat) (g : Int) (zs : List Int) (w : World) (h : Rd w a n c zs) (hp : p < n) (hn : n ≤ 25) (hW : 2 ≤ W ∧ W ≤ 5) (hz : 0 ≤ zs.getD p 0 ∧ zs.getD p 0 < n) :
    Calls Tryd.prog 32 #[.agg (trA W H a n c g), .int .i64 p] w fun e w' => e = .returned (.int .i64 (dst W p (hom zs n p) : Nat)) ∧ Below w.heap.size w w' := by
  have hq : hom zs n p < n := hom_lt (by omega)
  obtain ⟨w1, hw1⟩ : ∃ w1, w.alloc (Obj.cells (trA W H a n c g) 55) = w1 := ⟨_, rfl⟩
  have B1 : Below w.heap.size w w1 := by rw [← hw1]; exact (Below.refl _ w).alloc (Nat.le_refl _) _
  have CALL := hide (home_any W H a n c p g zs w1 (h.mono B1) hp hn hz)
  have T1 : Ty w1 w.heap.size W H a n c g := by rw [← hw1]; exact Ty.new _ _ _ _ _ _ _
  have hs1 : w1.heap.size = w.heap.size + 1 := by rw [← hw1]; simp
  have HB1 := hide B1
  have hcap := h.cap
  have hmax := h.max
  unfold maxLen at hmax
  clear h B1
  generalize hom zs n p = q at *
  clear hz
  go_enter Tryd.func32, Tryd.ntmps32
  go_upto_region 1 with fail
  clear hw1
  go_wp2_with (refine wpList_load_ty rfl (.tmp 2) rfl w.heap.size rfl T1 ?_)
  refine CALL.out.mono ?_
  rintro e w2 ⟨rfl, hb2⟩
  have T2 := T1.below (C := w1.heap.size) hb2 (by omega)
  have HB2 := hide (HB1.out.trans (hb2.mono (by have := HB1.out.size; omega)))
  obtain ⟨t0, t1, t2, t3⟩ := T2.cells
  clear T1 T2 HB1 CALL hb2 hs1
  have hW0 : ¬ (W : Int) = 0 := by omega
  have hm1 : (p : Int) % (W : Int) = ((p % W : Nat) : Int) := by simp
  have hd1 : (p : Int) / (W : Int) = ((p / W : Nat) : Int) := by simp
  have hm2 : (q : Int) % (W : Int) = ((q % W : Nat) : Int) := by simp
  have hd2 : (q : Int) / (W : Int) = ((q / W : Nat) : Int) := by simp
  have b1 : p % W < 5 := Nat.lt_of_lt_of_le (Nat.mod_lt _ (by omega)) hW.2
  have b2 : q % W < 5 := Nat.lt_of_lt_of_le (Nat.mod_lt _ (by omega)) hW.2
  have b3 : p / W < 25 := Nat.lt_of_le_of_lt (Nat.div_le_self _ _) (by omega)
  have b4 : q / W < 25 := Nat.lt_of_le_of_lt (Nat.div_le_self _ _) (by omega)
  have HD : Hid (dst W p q = (((p % W : Nat) : Int) - (q % W : Nat)).natAbs + (((p / W : Nat) : Int) - (q / W : Nat)).natAbs) := hide rfl
  generalize hDd : dst W p q = D at *
  have HDD := hide hDd
  clear hDd
  generalize p % W = x1 at *
  generalize q % W = x2 at *
  generalize p / W = y1 at *
  generalize q / W = y2 at *
  go_upto_region 2 with fail
  go_quiet (fail)
  go_wp2_with fail
  go_ret
  refine ⟨ret_int ?_, HB2.out.trans (drewN_below _ _ _)⟩
  rw [HDD.out, HD.out]
  omega

/-- The homes of what stands at the places. -/
def hms (zs : List Int) (n : Nat) : List Int := (List.range n).map (fun p => (hom zs n p : Int))

theorem hms_length (zs : List Int) (n : Nat) : (hms zs n).length = n := by simp [hms]
theorem hms_at (zs : List Int) (n p : Nat) (h : p < n) : (hms zs n).getD p 0 = (hom zs n p : Int) := by simp [hms, List.getD, h]

theorem moreI_le (zs : List Int) (i k : Nat) : moreI zs i k ≤ 1 := by unfold moreI; split <;> omega
theorem metTo_le (zs : List Int) (i t : Nat) (hi : i ≤ 25) (ht : t ≤ 25) : metTo zs i t ≤ 650 := by
  unfold metTo
  have h1 : sumTo (fun j => sumTo (moreI zs j) j) i ≤ i * 25 := sumTo_le _ _ _ (fun j hj => by have := sumTo_le (moreI zs j) j 1 (fun k _ => moreI_le zs j k); omega)
  have h2 : sumTo (moreI zs i) t ≤ t * 1 := sumTo_le _ _ _ (fun k _ => moreI_le zs i k)
  omega

set_option maxHeartbeats 8000000 in
theorem disorder_any (W H : Int) (a : Option Addr) (n c : Nat) (g : Int) (zs : List Int) (w : World) (h : Rd w a n c zs) (hn : n ≤ 25) (hz : ∀ p, p < n → 0 ≤ zs.getD p 0 ∧ zs.getD p 0 < n) :
    Calls Tryd.prog 31 #[.agg (trA W H a n c g)] w fun e w' => e = .returned (.int .i64 (pairs (hms zs n) : Nat)) ∧ Below w.heap.size w w' := by
  obtain ⟨w1, hw1⟩ : ∃ w1, w.alloc (Obj.cells (trA W H a n c g) 55) = w1 := ⟨_, rfl⟩
  have B1 : Below w.heap.size w w1 := by rw [← hw1]; exact (Below.refl _ w).alloc (Nat.le_refl _) _
  have HB1 := hide B1
  have HT1 : Hid (Ty w1 w.heap.size W H a n c g) := hide (by rw [← hw1]; exact Ty.new _ _ _ _ _ _ _)
  have hs1 : w1.heap.size = w.heap.size + 1 := by rw [← hw1]; simp
  have hcap := h.cap
  have hmax := h.max
  unfold maxLen at hmax
  have HH := hide h
  have HZ := hide hz
  clear h hz B1
  go_enter Tryd.func31, Tryd.ntmps31
  go_upto_region 1 with fail
  clear hw1
  obtain ⟨t0, t1, t2, t3⟩ := HT1.out.cells
  go_wp2_with fail
  clear t0 t1 t2 t3
  go_loopw [3, 10] (fun s i wr => ∃ k : Nat, k ≤ n ∧ i = .int .i64 k ∧ s = .int .i64 (metTo (hms zs n) k 0 : Nat) ∧ Hid (Below w.heap.size w wr) ∧ Hid (Ty wr w.heap.size W H a n c g)) (fun _ i _ => n - (intOf i).toNat)
  case atStart => exact ⟨0, by omega, rfl, rfl, HB1, HT1⟩
  case round =>
    obtain ⟨i, hi, rfl, rfl, HB, HT⟩ := hrel
    by_cases hil : i < n
    · have hil' : (i : Int) < (n : Int) := by omega
      have hm0 := metTo_le (hms zs n) i 0 (by omega) (by omega)
      generalize hM0 : metTo (hms zs n) i 0 = M0 at *
      have HM0 := hide hM0
      clear hM0
      go_wp2_with fail
      go_loopw [3, 14] (fun s k wr => ∃ t : Nat, t ≤ i ∧ k = .int .i64 t ∧ s = .int .i64 (metTo (hms zs n) i t : Nat) ∧ Hid (Below w.heap.size w wr) ∧ Hid (Ty wr w.heap.size W H a n c g)) (fun _ k _ => i - (intOf k).toNat)
      case atStart => exact ⟨0, by omega, rfl, by rw [HM0.out], HB, HT⟩
      case round =>
        obtain ⟨t, ht, rfl, rfl, HB, HT⟩ := hrel
        by_cases htl : t < i
        · have htl' : (t : Int) < (i : Int) := by omega
          have hm1 := metTo_le (hms zs n) i t (by omega) (by omega)
          have HN := hide (metTo_next (hms zs n) i t)
          have hR := HH.out.mono (w' := wr) (by have := HB.out; exact ⟨this.os, this.tape, this.output, this.size, this.block⟩)
          obtain ⟨bb, hbbd⟩ : ∃ bb, decide ((hom zs n i : Int) < (hom zs n t : Int)) = bb := ⟨_, rfl⟩
          have HBB := hide hbbd
          have hbb : (bb = true ∧ Hid (metTo (hms zs n) i (t + 1) = metTo (hms zs n) i t + 1)) ∨ (bb = false ∧ Hid (metTo (hms zs n) i (t + 1) = metTo (hms zs n) i t)) := by
            have e1 := hms_at zs n i hil
            have e2 := hms_at zs n t (by omega)
            cases bb with
            | true =>
              have := of_decide_eq_true hbbd
              exact .inl ⟨rfl, hide (by rw [HN.out, moreI, if_pos (by rw [e1, e2]; exact this)])⟩
            | false =>
              have := of_decide_eq_false hbbd
              exact .inr ⟨rfl, hide (by rw [HN.out, moreI, if_neg (by rw [e1, e2]; exact this), Nat.add_zero])⟩
          generalize metTo (hms zs n) i t = M at *
          clear HN hbbd
          go_upto_region 8 with fail
          have T1 := HT.out
          refine wp_region_held (S := fun W4 => Keeps (fun _ => False) wr W4) (by kernel_rfl) ?_
          change wpAnyH _ _ _ _ _ _ _ _ (World.drew _)
          have SW : Keeps (fun _ => False) wr wr.drew := (Keeps.refl _ wr).drew
          refine wpAnyH_take (i := 0) (v := .agg (trA W H a n c g)) rfl (by kernel_rfl) (by kernel_rfl) (by kernel_rfl) (fun _ _ _ h => h) (yieldsIf_load_mid (by rfl) 55 _ rfl w.heap.size 0 (by rfl) (trA W H a n c g).toList _ (fun W4 hW4 => World.rangeAt_of_block (T1.keeps hW4 (fun h => h)) 0 4) Tryd.underlying55 rfl (by exact size55)) SW ?_
          go_simp
          refine wpAnyH_take (i := 1) (v := .int .i64 t) rfl (by kernel_rfl) (by kernel_rfl) (by kernel_rfl) (fun _ _ _ h => h) (Or.inl ⟨by rfl, ?_⟩) SW ?_
          · intro W4 hW4
            go_simp <;> first | done | rfl | (rw [IntKind.wrap_i64]; omega) | omega
          go_simp
          refine wpAnyH_take (i := 3) (v := .agg (trA W H a n c g)) rfl (by kernel_rfl) (by kernel_rfl) (by kernel_rfl) (fun _ _ _ h => h) (yieldsIf_load_mid (by rfl) 55 _ rfl w.heap.size 0 (by rfl) (trA W H a n c g).toList _ (fun W4 hW4 => World.rangeAt_of_block (T1.keeps hW4 (fun h => h)) 0 4) Tryd.underlying55 rfl (by exact size55)) SW ?_
          go_simp
          refine wpAnyH_take (i := 4) (v := .int .i64 i) rfl (by kernel_rfl) (by kernel_rfl) (by kernel_rfl) (fun _ _ _ h => h) (Or.inl ⟨by rfl, ?_⟩) SW ?_
          · intro W4 hW4
            go_simp <;> first | done | rfl | (rw [IntKind.wrap_i64]; omega) | omega
          go_simp
          refine wpAnyH_ready (rs := [2]) (by kernel_rfl) (by simp) ?_
          refine AllReadyH.cons rfl (fun K1 hK1 => ?_) AllReadyH.nil
          go_simp
          refine (home_any W H a n c t g zs _ (hR.mono (Below.refl _ _).drew) (by omega) hn (HZ.out _ (by omega))).mono ?_
          rintro e w5 ⟨rfl, hb5⟩
          refine hK1.out _ _ (SW.trans (Keeps.of_all hb5)) (fun SW => ?_)
          clear hK1 K1 hb5
          have R5 := hR.keeps SW (fun _ _ _ h => h)
          go_simp
          refine wpAnyH_ready (rs := [5]) (by kernel_rfl) (by simp) ?_
          refine AllReadyH.cons rfl (fun K1 hK1 => ?_) AllReadyH.nil
          go_simp
          refine (home_any W H a n c i g zs _ R5 (by omega) hn (HZ.out _ (by omega))).mono ?_
          rintro e w5 ⟨rfl, hb5⟩
          refine hK1.out _ _ (SW.trans (Keeps.of_all hb5)) (fun SW => ?_)
          clear hK1 K1 hb5
          clear R5
          go_simp
          refine wpAnyH_take (i := 6) (v := .bool bb) rfl (by kernel_rfl) (by kernel_rfl) (by kernel_rfl) (fun _ _ _ h => h) (Or.inl ⟨by rfl, ?_⟩) SW ?_
          · intro W4 hW4
            have hx : decide ((hom zs n i : Int) < (hom zs n t : Int)) = bb := HBB.out
            have hx2 : decide (hom zs n i < hom zs n t) = bb := by rw [← hx]; simp
            go_simp <;> first | done | rfl | (rw [IntKind.wrap_i64]; omega) | omega
          go_simp
          refine wpAnyH_done (by kernel_rfl) ?_ _
          have HBS := hide (HB.out.trans ((SW.mono (Y := fun k => w.heap.size ≤ k) (fun k _ h => h.elim)).below HB.out.size (fun k hk e => by omega)))
          have HTS := hide (T1.keeps SW (fun h => h))
          clear SW hR T1
          rcases hbb with ⟨hbt, hsm⟩ | ⟨hbt, hsm⟩
          · obtain rfl := hbt
            go_wp2_with fail
            go_roundw
            case rel => exact ⟨t + 1, by omega, by go_num, by rw [hsm.out]; go_num, HBS, HTS⟩
            case measure => simp [intOf]; omega
          · obtain rfl := hbt
            go_wp2_with fail
            go_roundw
            case rel => exact ⟨t + 1, by omega, by go_num, by rw [hsm.out], HBS, HTS⟩
            case measure => simp [intOf]; omega
        · obtain rfl : t = i := by omega
          have htl' : ¬ (t : Int) < (t : Int) := by omega
          have HR := hide (metTo_row (hms zs n) t)
          go_wp2_with fail
          go_roundw
          case rel => exact ⟨t + 1, by omega, by go_num, by rw [HR.out], HB, HT⟩
          case measure => simp [intOf]; omega
    · obtain rfl : i = n := by omega
      have hlt' : ¬ (i : Int) < (i : Int) := by omega
      go_wp2_with fail
      go_ret
      refine ⟨ret_int ?_, HB.out⟩
      have := metTo_end (hms zs i)
      rw [hms_length] at this
      rw [this]

end Go.Proofs.YticalbpohhpjaaaDoor
