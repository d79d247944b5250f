/-
  A board copied, as the law hands it in; what the document says of boards. No conditions beyond those that each theorem bears.
-/
import Derived.Test.YtmdnoiebodaikaaNew
import Derived.OrdersHeld
import Derived.Deep.RegionHeld3
namespace Go.Proofs.Ytmdnoiebodaikaa
open Go.RowKit

/-- What is owned from a base on is kept by a change of a block below the base. -/
theorem own_keeps {w w' : World} {base n : Nat} {v : Value} {xs : List Value} {X : Nat → Prop} (h : w.ownsRow base 3 1 v n xs) (hk : Keeps X w w') (hX : ∀ k, X k → k < base) : w'.ownsRow base 3 1 v n xs := by
  refine ⟨h.1, ?_⟩
  rcases h.2 with h2 | ⟨g, cap, cur, hv, hb, hg, r⟩
  · exact .inl h2
  · exact .inr ⟨g, cap, cur, hv, hb, (hk.block g (Array.getElem?_eq_some_iff.1 hg).1 (fun e => by have := hX g e; omega)).trans hg, r⟩

set_option maxHeartbeats 1000000 in
theorem seeds_any (a : Option Addr) (n c : Nat) (t : Int) (S : List Int) (w : World) (hR : Rd w a n c S) (hr : n * 8 ≤ 140737488351232) :
    Calls Try.prog 10 #[.agg (mA a n c t)] w fun e w' => ∃ a' c', e = .returned (.agg (mA a' n c' t)) ∧ Rd w' a' n c' S ∧ Below w.heap.size w w' := by
  obtain ⟨w0, hw0⟩ : ∃ w0, (w.alloc (Obj.cells (mA a n c t) 24)).alloc (Obj.cells #[.slice none 0 0, .int .i64 0] 24) = w0 := ⟨_, rfl⟩
  have M0 : Mn w0 w.heap.size a n c t := by rw [← hw0]; exact (Mn.new w a n c t).old _
  have M1 : Mn w0 (w.heap.size + 1) none 0 0 0 := by
    rw [← hw0]
    have := Mn.new (w.alloc (Obj.cells (mA a n c t) 24)) none 0 0 0
    rw [World.size_alloc] at this
    exact this
  have B0 : Below w.heap.size w w0 := by rw [← hw0]; exact ((Below.refl _ w).alloc (Nat.le_refl _) _).alloc (by simp) _
  obtain ⟨b, hbe⟩ : ∃ b, w.heap.size = b := ⟨_, rfl⟩
  rw [hbe] at M0 M1
  have HM0 := hide M0
  have HM01 := hide M1
  have HB0 := hide B0
  have HR0 := hide (hR.mono B0)
  clear M0 M1 B0 hR
  go_enter Try.func10, Try.ntmps10
  go_wp2_with fail
  refine wp_region_held (S := fun W => Mn W b a n c t) (by kernel_rfl) ?_
  change wpAnyH _ _ _ _ _ _ _ _ (World.drew _)
  have SW : Mn w0.drew b a n c t := HM0.out
  refine wpAnyH_take (i := 0) (v := .pointer (some ⟨b, 0, none⟩)) rfl (by kernel_rfl) (by kernel_rfl) (by kernel_rfl) (fun _ _ _ h => h) (Or.inl ⟨by rfl, ?_⟩) SW ?_
  · intro W hW
    go_simp <;> first | done | rfl
  go_simp
  refine wpAnyH_take (i := 1) (v := .slice a n c) rfl (by kernel_rfl) (by kernel_rfl) (by kernel_rfl) (fun _ _ _ h => h) (Or.inl ⟨by rfl, ?_⟩) SW ?_
  · intro W hW
    have hcell := hW.seeds
    go_simp <;> first | done | rfl
  go_simp
  refine wpAnyH_take (i := 3) (v := .pointer (some ⟨b, 1, none⟩)) rfl (by kernel_rfl) (by kernel_rfl) (by kernel_rfl) (fun _ _ _ h => h) (Or.inl ⟨by rfl, ?_⟩) SW ?_
  · intro W hW
    go_simp <;> first | done | rfl
  go_simp
  refine wpAnyH_take (i := 4) (v := .int .i64 t) rfl (by kernel_rfl) (by kernel_rfl) (by kernel_rfl) (fun _ _ _ h => h) (Or.inl ⟨by rfl, ?_⟩) SW ?_
  · intro W hW
    have hcell := hW.turn
    go_simp <;> first | done | rfl
  go_simp
  refine wpAnyH_ready (rs := [2]) (by kernel_rfl) (by simp) ?_
  refine AllReadyH.cons rfl (fun K1 hK1 => ?_) AllReadyH.nil
  go_simp
  refine (ints_own a n c S _ (HR0.out.mono (Below.refl _ _).drew) hr).mono ?_
  rintro e w1 ⟨a', c', rfl, hown, hw⟩
  have HBd : Below w0.heap.size w0.drew w1 := hw
  refine hK1.out _ _ (SW.below hw SW.lt) (fun SW1 => ?_)
  clear hK1 K1 SW
  have SW := SW1
  clear SW1
  have HM1 := hide (HM01.out.below (show Below w0.heap.size w0 w1 from ⟨HBd.os, HBd.tape, HBd.output, HBd.size, HBd.block⟩) HM01.out.lt)
  have HO := hide hown
  have HB1 : Hid (Below w.heap.size w w1) := hide (HB0.out.trans ((show Below w0.heap.size w0 w1 from ⟨HBd.os, HBd.tape, HBd.output, HBd.size, HBd.block⟩).mono HB0.out.size))
  clear hown hw HBd
  go_simp
  refine wpAnyH_take (i := 5) (v := .agg #[.slice a' n c', .int .i64 t]) rfl (by kernel_rfl) (by kernel_rfl) (by kernel_rfl) (fun _ _ _ h => h) (Or.inl ⟨by rfl, ?_⟩) SW ?_
  · intro W hW
    go_simp <;> first | done | rfl
  go_simp
  refine wpAnyH_ready (rs := [6]) (by kernel_rfl) (by simp) ?_
  refine AllReadyH.cons rfl (fun K1 hK1 => ?_) AllReadyH.nil
  rw [if_pos (by rfl)]
  have hb' : w1.heap[b + 1]? = _ := HM1.out
  refine wp_store_row 24 _ _ rfl (b + 1) (mA a' n c' t) rfl rfl 24 _ hb' size24 rfl (by simp [Value.oneCell']) ?_
  have hk2 : Keeps (fun k => k = b + 1) w1 (w1.setRow (b + 1) (mA a' n c' t)) := ⟨rfl, rfl, rfl, by simp [World.setRow], fun k _ hk => by simp [World.setRow, Array.getElem?_modify, show ¬ b + 1 = k from fun e => hk e.symm]⟩
  have hm2 : Mn (w1.setRow (b + 1) (mA a' n c' t)) (b + 1) a' n c' t := by simp [Mn, World.setRow, Array.getElem?_modify, hb']
  refine hK1.out _ _ (SW.keeps hk2 (by omega)) (fun _ => ?_)
  clear hK1 K1
  refine wpAnyH_done (by kernel_rfl) ?_ _
  go_wp2_with fail
  have hlt0 := HM01.out.lt
  refine bodyPost_ret (results_mn rfl _ _ (b + 1) rfl hm2) rfl ⟨a', c', rfl, Rd.of_own (own_keeps HO.out hk2 (fun k hk => ?_)), HB1.out.trans (hk2.below HB1.out.size (fun k hk e => by omega))⟩
  show k < w0.heap.size
  omega

set_option maxHeartbeats 1000000 in
theorem MMay_any (a : Option Addr) (n c : Nat) (t : Int) (S : List Int) (w : World) (hR : Rd w a n c S) :
    Calls Try.prog 11 #[.agg (mA a n c t)] w fun e w' => e = .returned (.bool (mayB S t)) ∧ Below w.heap.size w w' := by
  have hlen := hR.len
  have hmax := hR.max
  have hcap := hR.cap
  unfold maxLen at hmax
  have M0 := Mn.new w a n c t
  have m0 := M0.seeds
  have m1 := M0.turn
  have HB := hide (show Below w.heap.size w (w.alloc (Obj.cells (mA a n c t) 24)) from (Below.refl _ w).alloc (Nat.le_refl _) _)
  have HR := hide hR
  clear M0 hR
  by_cases h1 : 4 ≤ n ∧ n ≤ 14
  · have HI1 : Hid (inB (n : Int) 4 14 = true) := hide (by simp [inB]; omega)
    by_cases h3 : n % 2 = 0
    · have h3' : ((n : Int) % 2 == 1) = false := by rw [Bool.eq_false_iff]; intro h; have := of_decide_eq_true h; omega
      by_cases h4 : 0 ≤ t ∧ t ≤ 1
      · have HI2 : Hid (inB t 0 1 = true) := hide (by simp [inB]; omega)
        have H3 := hide h3
        have HLN := hide hlen
        have HV : Hid ((∀ i, i < n → 0 ≤ S.getD i 0) → mayB S t = decide (sm S n ≤ 1000)) := hide (fun p1 => by
          rw [Bool.eq_iff_iff]
          constructor
          · intro h
            have : mayP S t := of_decide_eq_true h
            have := this.2.2.2.2.2.2
            rw [hlen] at this
            exact decide_eq_true this
          · intro h
            have p2 := of_decide_eq_true h
            exact may_yes ⟨by omega, by omega, by rw [hlen]; exact h3, by omega, by omega, by rw [hlen]; exact p1, by rw [hlen]; exact p2⟩)
        obtain ⟨b, off, rfl, hc⟩ := HR.out.cells (by omega)
        have hbl : b < w.heap.size := World.block_lt_of_cell? w _ (hc 0 (by omega))
        have HC : Hid (∀ i, i < n → (w.alloc (Obj.cells (mA (some ⟨b, off, none⟩) n c t) 24)).cell? ⟨b, off + i, none⟩ = some (.int .i64 (S.getD i 0))) := hide (fun i hi => (HB.out.cell (p := ⟨b, off + i, none⟩) hbl).trans (hc i hi))
        have HI4 := hide h4
        clear hlen h3 hc h4
        go_enter Try.func11, Try.ntmps11
        go_wp2_with fail
        refine (within_any _ 4 14 _).mono ?_
        rintro e w1 ⟨rfl, hw⟩
        subst w1
        rw [HI1.out]
        go_wp2_with fail
        refine (within_any _ 0 1 _).mono ?_
        rintro e w1 ⟨rfl, hw⟩
        subst w1
        rw [HI2.out]
        go_wp2_with fail
        go_loop [4, 5] (fun l v => ∃ k : Nat, v = .int .i64 k ∧ k ≤ n ∧ l = .int .i64 (sm S k) ∧ 0 ≤ sm S k ∧ sm S k ≤ 1000 * k ∧ Hid (∀ i, i < k → 0 ≤ S.getD i 0)) (fun _ v => n - (intOf v).toNat)
        case atStart => exact ⟨0, rfl, by omega, rfl, by simp [sm, sumN], by simp [sm, sumN], fun i hi => by omega⟩
        case round =>
          obtain ⟨k, rfl, hk, rfl, s1, s2, hp⟩ := hrel
          by_cases hlt : k < n
          · have hlt' : (k : Int) < (n : Int) := by omega
            have c1 := HC.out k hlt
            have HNO : Hid (inB (S.getD k 0) 0 1000 = false → mayB S t = false) := hide (fun h => by
              have h' : ¬ (0 ≤ S.getD k 0 ∧ S.getD k 0 ≤ 1000) := by simpa [inB] using h
              by_cases e : S.getD k 0 < 0
              · exact may_low (by rw [HLN.out]; exact hlt) e
              · exact may_sum (k := k) (by rw [HLN.out]; exact hlt) (by rw [sm_succ]; omega))
            have HSS := hide (sm_succ S k)
            have HP : Hid (0 ≤ S.getD k 0 → ∀ i, i < k + 1 → 0 ≤ S.getD i 0) := hide (fun h i hi => by
              by_cases e : i = k
              · subst e; exact h
              · exact hp.out i (by omega))
            generalize S.getD k 0 = z at *
            go_wp2_with fail
            refine (within_any z 0 1000 _).mono ?_
            rintro e w1 ⟨rfl, hw⟩
            subst w1
            cases hin : inB z 0 1000 with
            | false =>
              have HF := hide (HNO.out hin)
              clear HNO hin
              go_wp2
              go_ret
              exact ⟨ret_bool HF.out.symm, HB.out⟩
            | true =>
              have hz : 0 ≤ z ∧ z ≤ 1000 := by simpa [inB] using hin
              obtain ⟨z1, z2⟩ := hz
              have HP2 := hide (HP.out z1)
              clear HNO hin HP
              generalize sm S k = s at *
              go_wp2
              exact ⟨⟨k + 1, by go_num, by omega, by rw [HSS.out], by rw [HSS.out]; omega, by rw [HSS.out]; omega, HP2⟩, by simp [intOf]; omega⟩
          · obtain rfl : k = n := by omega
            have hlt' : ¬ (k : Int) < (k : Int) := by omega
            have HF := hide (HV.out hp.out)
            go_wp2
            go_ret
            exact ⟨ret_bool HF.out.symm, HB.out⟩
      · have HI2 : Hid (inB t 0 1 = false) := hide (by simp [inB]; omega)
        have HV : Hid (mayB S t = false) := hide (may_no fun hm => h4 ⟨hm.2.2.2.1, hm.2.2.2.2.1⟩)
        have H3 := hide h3
        clear hlen h3 h4
        go_enter Try.func11, Try.ntmps11
        go_wp2_with fail
        refine (within_any _ 4 14 _).mono ?_
        rintro e w1 ⟨rfl, hw⟩
        subst w1
        rw [HI1.out]
        go_wp2_with fail
        refine (within_any _ 0 1 _).mono ?_
        rintro e w1 ⟨rfl, hw⟩
        subst w1
        rw [HI2.out]
        go_wp2
        go_ret
        exact ⟨ret_bool HV.out.symm, HB.out⟩
    · have h3' : ((n : Int) % 2 == 1) = true := by simp; omega
      have HV : Hid (mayB S t = false) := hide (may_no fun hm => by have := hm.2.2.1; rw [hlen] at this; exact h3 this)
      clear hlen h3
      go_enter Try.func11, Try.ntmps11
      go_wp2_with fail
      refine (within_any _ 4 14 _).mono ?_
      rintro e w1 ⟨rfl, hw⟩
      subst w1
      rw [HI1.out]
      go_wp2
      go_ret
      exact ⟨ret_bool HV.out.symm, HB.out⟩
  · have HI1 : Hid (inB (n : Int) 4 14 = false) := hide (by simp [inB]; omega)
    have HV : Hid (mayB S t = false) := hide (may_no fun hm => by have := hm.1; have := hm.2.1; omega)
    clear hlen h1
    go_enter Try.func11, Try.ntmps11
    go_wp2_with fail
    refine (within_any _ 4 14 _).mono ?_
    rintro e w1 ⟨rfl, hw⟩
    subst w1
    rw [HI1.out]
    go_wp2
    go_ret
    exact ⟨ret_bool HV.out.symm, HB.out⟩

end Go.Proofs.Ytmdnoiebodaikaa
