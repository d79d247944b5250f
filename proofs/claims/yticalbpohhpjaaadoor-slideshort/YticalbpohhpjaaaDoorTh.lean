/-
  The tray at home; small boards; opposite directions. No conditions beyond those that each theorem bears.
-/
import Derived.Test.YticalbpohhpjaaaDoorTv
namespace Go.Proofs.YticalbpohhpjaaaDoor
open Go.RowKit

theorem opposite_any (d : Nat) (w : World) (hd : d < 4) : Calls Tryd.prog 58 #[.int .i64 d] w fun e w' => e = .returned (.int .i64 ((d + 2) % 4 : Nat)) ∧ w' = w := by
  match d, hd with
  | 0, _ => go_enter Tryd.func58, Tryd.ntmps58; go_wp2; go_ret; exact ⟨rfl, rfl⟩
  | 1, _ => go_enter Tryd.func58, Tryd.ntmps58; go_wp2; go_ret; exact ⟨rfl, rfl⟩
  | 2, _ => go_enter Tryd.func58, Tryd.ntmps58; go_wp2; go_ret; exact ⟨rfl, rfl⟩
  | 3, _ => go_enter Tryd.func58, Tryd.ntmps58; go_wp2; go_ret; exact ⟨rfl, rfl⟩
  | d + 4, h => omega

theorem isSmall_any (W H n : Nat) (w : World) (hN : W * H = n) (hn : n ≤ 25) : Calls Tryd.prog 39 #[.int .i64 W, .int .i64 H] w fun e w' => e = .returned (.bool (decide (n ≤ 6))) ∧ w' = w := by
  have hWH : (W : Int) * (H : Int) = (n : Int) := by rw [← hN]; simp
  by_cases h : n ≤ 6
  · have hl : (n : Int) ≤ 6 := by omega
    go_enter Tryd.func39, Tryd.ntmps39
    go_wp2
    go_ret
    exact ⟨ret_bool (by simp [h]), rfl⟩
  · have hl : ¬ (n : Int) ≤ 6 := by omega
    go_enter Tryd.func39, Tryd.ntmps39
    go_wp2
    go_ret
    exact ⟨ret_bool (by simp), rfl⟩

/-- So far the row is home's. -/
def upH (n k : Nat) (L : List Int) : Prop := L.length = n ∧ ∀ p, p < n → L.getD p 0 = if p < k then ((p + 1 : Nat) : Int) else 0

theorem upH_end {n : Nat} {L : List Int} (hn : 0 < n) (h : upH n (n - 1) L) : L = homeL n := by
  apply List.ext_getElem (by rw [h.1, homeL_length])
  intro p h1 h2
  have e := h.2 p (by rw [← h.1]; exact h1)
  have e2 := homeL_at n p (by rw [← h.1]; exact h1)
  have e3 : L.getD p 0 = (homeL n).getD p 0 := by
    rw [e, e2]
    by_cases hp : p < n - 1
    · rw [if_pos hp, Nat.mod_eq_of_lt (by omega)]
    · rw [if_neg hp, show p + 1 = n by have := h.1; omega, Nat.mod_self]; rfl
  simpa [List.getD, h1, h2] using e3

theorem ix_homeGap {n : Nat} (hn : 0 < n) : ix (homeL n) 0 = ((n - 1 : Nat) : Int) := by
  refine ix_found (k := n - 1) (by rw [homeL_length]; omega) ?_ (fun i hi => ?_)
  · rw [homeL_at n _ (by omega), show n - 1 + 1 = n by omega, Nat.mod_self]; rfl
  · rw [homeL_at n i (by omega), Nat.mod_eq_of_lt (by omega)]; omega

set_option maxHeartbeats 4000000 in
theorem trayAtHome_any (W H n : Nat) (w : World) (hu : 2 ≤ W ∧ W ≤ 5) (hv : 2 ≤ H ∧ H ≤ 5) (hN : W * H = n) :
    Calls Tryd.prog 41 #[.int .i64 W, .int .i64 H] w fun e w' => ∃ cb c', e = .returned (.agg (trA W H (some ⟨cb, 0, none⟩) n c' ((n - 1 : Nat) : Int))) ∧ Bw w' cb n c' (homeL n) ∧ w.heap.size ≤ cb ∧ Below w.heap.size w w' := by
  have hb := len_bd hu hv hN
  have hWH : (W : Int) * (H : Int) = (n : Int) := by rw [← hN]; simp
  obtain ⟨i0, hi, hz0, hz1, hz2⟩ := info_parts Tryd.info3
  have hmm : n ≤ maxLen := by unfold maxLen; omega
  have hby : i0.bytes * n ≤ 281474976710656 := by rw [hz2]; omega
  obtain ⟨w0, hw0⟩ : ∃ w0, w.alloc (.cells (trA 0 0 none 0 0 0) 55) = w0 := ⟨_, rfl⟩
  have B0 : Below w.heap.size w w0 := by rw [← hw0]; exact (Below.refl _ _).alloc (Nat.le_refl _) _
  have K0 : Ty w0 w.heap.size 0 0 none 0 0 0 := by rw [← hw0]; exact Ty.new _ _ _ _ _ _ _
  have s0 : w.heap.size < w0.heap.size := by rw [← hw0]; simp
  go_enter Tryd.func41, Tryd.ntmps41
  go_upto_region 1 with fail
  clear hw0
  go_wp2_with (at_make; refine wpList_make_full w0 rfl _ _ 22 rfl w0.heap.size 3 i0 (.int .i64 0) 1 Tryd.underlying22 hi hz0 hz1 _ _ _ _ n rfl rfl (by omega) (by omega) hby hmm (Nat.le_refl _) ?_)
  intro w1 hown hgrow
  have hb1 : Below w0.heap.size w0 w1 := (Below.refl _ _).grown hgrow (Nat.le_refl _) (fun k hk => by simp at hk)
  rw [made_ints] at hown
  have K1 := hide (K0.below hb1 s0)
  have HB1 := hide (B0.trans (hb1.mono B0.size))
  clear hgrow K0 B0 hb1
  generalize hbs : w0.heap.size = bs at *
  clear hbs
  have HU0 : Hid (upH n 0 (List.replicate n 0)) := hide ⟨by simp, fun p hp => by simp [List.getD, hp]⟩
  go_wp2
  go_loopw [14] (fun i wr => ∃ (k : Nat) (L : List Int), k ≤ n - 1 ∧ i = .int .i64 k ∧ wr.ownsRow bs 3 1 (.slice (some ⟨bs, 0, none⟩) n n) n (L.map (Value.int .i64)) ∧ Hid (Below w.heap.size w wr) ∧ Hid (Ty wr w.heap.size 0 0 none 0 0 0) ∧ Hid (upH n k L)) (fun i _ => n - 1 - (intOf i).toNat)
  case atStart => exact ⟨0, _, by omega, rfl, hown, HB1, K1, HU0⟩
  case round =>
    clear hown
    obtain ⟨k, L, hk, rfl, hown, HB, HK, HU⟩ := hrel
    by_cases hlt : k < n - 1
    · have hlt' : (k : Int) < ((n - 1 : Nat) : Int) := by omega
      obtain ⟨c1, f1⟩ := own_cell hown k (by omega)
      have HO := hide (own_set hown k ((k + 1 : Nat) : Int))
      have HU2 : Hid (upH n (k + 1) (L.set k ((k + 1 : Nat) : Int))) := hide ⟨by simp [HU.out.1], fun p hp => by
        rw [getD_set _ _ _ _ (by rw [HU.out.1]; omega)]
        by_cases e : p = k
        · subst e; rw [if_pos rfl, if_pos (by omega)]
        · rw [if_neg e, HU.out.2 p hp]
          by_cases h : p < k
          · rw [if_pos h, if_pos (by omega)]
          · rw [if_neg h, if_neg (by omega)]⟩
      clear hown
      go_wp2
      go_roundw
      case rel =>
        refine ⟨k + 1, _, by omega, by go_num, HO.out, ?_, ?_, HU2⟩
        · exact hide (HB.out.setCell (by show w.heap.size ≤ bs; omega) _)
        · exact hide (HK.out.keeps (Keeps.set1 _ bs k _) (by show ¬ w.heap.size = bs; omega))
      case measure => simp [intOf]; omega
    · obtain rfl : k = n - 1 := by omega
      have hlt' : ¬ ((n - 1 : Nat) : Int) < ((n - 1 : Nat) : Int) := by omega
      have hL := upH_end (by omega) HU.out
      rw [hL] at hown
      have HR := hide (Rd.of_own hown)
      have HKK := HK.out
      clear hown HU
      go_wp2_with fail
      refine (trayOf_any W H (some ⟨bs, 0, none⟩) n n (homeL n) (n - 1) _ HR.out (by omega) (ix_homeGap (by omega))).mono ?_
      rintro e w2 ⟨cb, c', rfl, bw, hcb, b2⟩
      have K2 := HKK.below b2 HKK.lt
      have HB2 := hide (HB.out.trans (b2.mono HB.out.size))
      have HW2 := hide bw
      have hcbw : w.heap.size ≤ cb := Nat.le_trans HB.out.size hcb
      have hne : ¬ cb = w.heap.size := by have := HKK.lt; omega
      clear b2 bw HKK HK HR
      go_wp2_with (refine wpList_store_ty rfl (.tmp 4) (.tmp 27) rfl w.heap.size rfl rfl K2 ?_; intro w6 k6 kk6)
      refine bodyPost_ret (results_ty rfl _ _ w.heap.size rfl k6) rfl ⟨cb, c', rfl, HW2.out.keeps kk6 hne, hcbw, ?_⟩
      exact HB2.out.trans ((kk6.mono (Y := fun q => w.heap.size ≤ q) (fun q _ e => by omega)).below HB2.out.size (fun k hk e => by omega))

end Go.Proofs.YticalbpohhpjaaaDoor
