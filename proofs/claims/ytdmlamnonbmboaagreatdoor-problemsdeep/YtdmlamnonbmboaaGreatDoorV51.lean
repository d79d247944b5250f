/-
  Chess as texts: a position's text. No conditions beyond those that each theorem bears.
-/
import Derived.Test.YtdmlamnonbmboaaGreatDoorV50
import Derived.Test.YtdmlamnonbmboaaGreatDoorV41
namespace Go.Proofs.YtdmlamnonbmboaaGreatDoor
open Go.RowKit

def sdT (t : Nat) : ByteArray := if t = 0 then ⟨#[119]⟩ else ⟨#[98]⟩
theorem sl_side (t : Nat) (h : t = 0 ∨ t = 1) : (⟨#[119, 98]⟩ : ByteArray).extract t (t + 1) = sdT t := by
  rcases h with rfl | rfl <;> kernel_rfl
theorem sts_one (L : List ByteArray) : (sts L).toArray.all (·.oneCell') = true := by simp [sts, Value.oneCell']
theorem blt_sts (x0 x1 x2 x3 x4 x5 : ByteArray) : Tryz.prog.built 117 [(0, .string x0), (1, .string x1), (2, .string x2), (3, .string x3), (4, .string x4), (5, .string x5)] = some (sts [x0, x1, x2, x3, x4, x5]).toArray := by kernel_rfl
theorem row117 : (Tryz.prog.info? 117).map (·.size) = some 6 := by kernel_rfl

set_option maxRecDepth 1000000 in
set_option maxHeartbeats 8000000 in
theorem shown_any (a : Option Addr) (n c : Nat) (t : Nat) (k e h f : Int) (ht : t = 0 ∨ t = 1) (sp sk se sh sf : ByteArray) (w : World)
    (HP : Hid (∀ W : World, Below (w.heap.size + 1) (w.alloc (.cells (chA a n c t k e h f) 24)) W → Calls Tryz.prog 85 #[.slice a n c] W fun r W' => r = .returned (.string sp) ∧ Below W.heap.size W W'))
    (HK : Hid (∀ W : World, Calls Tryz.prog 70 #[.int .i64 k] W fun r W' => r = .returned (.string sk) ∧ Below W.heap.size W W'))
    (HE : Hid (∀ W : World, Calls Tryz.prog 71 #[.int .i64 e] W fun r W' => r = .returned (.string se) ∧ Below W.heap.size W W'))
    (HH : Hid (∀ W : World, Calls Tryz.prog 73 #[.int .i64 h] W fun r W' => r = .returned (.string sh) ∧ Below W.heap.size W W'))
    (HF : Hid (∀ W : World, Calls Tryz.prog 73 #[.int .i64 f] W fun r W' => r = .returned (.string sf) ∧ Below W.heap.size W W'))
    (hj : (Lib.join ([sp, sdT t, sk, se, sh, sf].map (·.data.toList)) [32]).length ≤ 140737488355328) :
    Calls Tryz.prog 59 #[.agg (chA a n c t k e h f)] w fun r w' => r = .returned (.string ⟨(Lib.join ([sp, sdT t, sk, se, sh, sf].map (·.data.toList)) [32]).toArray⟩) ∧ Below w.heap.size w w' := by
  obtain ⟨g, hg⟩ : ∃ g, w.heap.size = g := ⟨_, rfl⟩
  obtain ⟨w1, hw1⟩ : ∃ w1, w.alloc (.cells (chA a n c t k e h f) 24) = w1 := ⟨_, rfl⟩
  rw [hw1, hg] at HP
  have HB1 : Hid (Below w.heap.size w w1) := hide (by rw [← hw1]; exact (Below.refl _ w).alloc (Nat.le_refl _) _)
  have HC1 : Hid (∀ W, Below (g + 1) w1 W → Ch W g a n c t k e h f) := hide (fun W hW => by
    have h1 := Ch.new w a n c t k e h f
    rw [hw1, hg] at h1
    exact h1.below hW (Nat.lt_succ_self g))
  have HS1 : Hid (w1.heap.size = g + 1) := hide (by rw [← hw1, World.size_alloc, hg])
  have HJ := hide hj
  have HST : Hid (sdT t = (if t = 0 then ⟨#[119]⟩ else ⟨#[98]⟩)) := hide rfl
  have HG := hide hg
  have HW1 := hide hw1
  have HT := hide ht
  clear hj hg hw1 ht
  go_enter Tryz.func59, Tryz.ntmps59
  go_upto_region 1 with fail
  try rw [HG.out]
  rw [HW1.out]
  clear HW1
  obtain ⟨V0, hV0⟩ : ∃ V0, (sts [sp, sdT t, sk, se, sh, sf]).toArray = V0 := ⟨_, rfl⟩
  have HBU : Hid (Tryz.prog.built 117 [(0, .string sp), (1, .string (sdT t)), (2, .string sk), (3, .string se), (4, .string sh), (5, .string sf)] = some V0) := hide (by rw [← hV0]; exact blt_sts _ _ _ _ _ _)
  have HV0 := hide hV0
  clear hV0
  refine wp_region_held (S := fun W5 => Below (g + 1) w1 W5) (by kernel_rfl) ?_
  change wpAnyH _ _ _ _ _ _ _ _ (World.drew _)
  have SW : Below (g + 1) w1 w1.drew := by
    have h := (Below.refl w1.heap.size w1).drew
    rw [HS1.out] at h
    exact h
  have HSZ : Hid (∀ W, Below (g + 1) w1 W → g + 1 ≤ W.heap.size) := hide (fun W hW => by have := hW.size; rw [HS1.out] at this; exact this)
  generalize w1.drew = wd at SW ⊢
  refine wpAnyH_take (i := 0) (v := .pointer (some ⟨g, 0, none⟩)) rfl (by kernel_rfl) (by kernel_rfl) (by kernel_rfl) (fun _ _ _ h => h) (Or.inl ⟨by rfl, ?_⟩) SW ?_
  · intro W5 hW5
    go_simp <;> first | done | rfl | (rw [IntKind.wrap_i64]; omega) | omega
  go_simp
  refine wpAnyH_take (i := 1) (v := .slice a n c) rfl (by kernel_rfl) (by kernel_rfl) (by kernel_rfl) (fun _ _ _ h => h) (Or.inl ⟨by rfl, ?_⟩) SW ?_
  · intro W5 hW5
    have y0 := (HC1.out W5 hW5).cells.1
    go_simp <;> first | done | rfl | (rw [IntKind.wrap_i64]; omega) | omega
  go_simp
  refine wpAnyH_take (i := 3) (v := .pointer (some ⟨g, 1, none⟩)) rfl (by kernel_rfl) (by kernel_rfl) (by kernel_rfl) (fun _ _ _ h => h) (Or.inl ⟨by rfl, ?_⟩) SW ?_
  · intro W5 hW5
    go_simp <;> first | done | rfl | (rw [IntKind.wrap_i64]; omega) | omega
  go_simp
  refine wpAnyH_take (i := 4) (v := .int .i64 (t : Nat)) rfl (by kernel_rfl) (by kernel_rfl) (by kernel_rfl) (fun _ _ _ h => h) (Or.inl ⟨by rfl, ?_⟩) SW ?_
  · intro W5 hW5
    have y0 := (HC1.out W5 hW5).cells.2.1
    go_simp <;> first | done | rfl | (rw [IntKind.wrap_i64]; omega) | omega
  go_simp
  refine wpAnyH_take (i := 5) (v := .pointer (some ⟨g, 1, none⟩)) rfl (by kernel_rfl) (by kernel_rfl) (by kernel_rfl) (fun _ _ _ h => h) (Or.inl ⟨by rfl, ?_⟩) SW ?_
  · intro W5 hW5
    go_simp <;> first | done | rfl | (rw [IntKind.wrap_i64]; omega) | omega
  go_simp
  refine wpAnyH_take (i := 6) (v := .int .i64 (t : Nat)) rfl (by kernel_rfl) (by kernel_rfl) (by kernel_rfl) (fun _ _ _ h => h) (Or.inl ⟨by rfl, ?_⟩) SW ?_
  · intro W5 hW5
    have y0 := (HC1.out W5 hW5).cells.2.1
    go_simp <;> first | done | rfl | (rw [IntKind.wrap_i64]; omega) | omega
  go_simp
  refine wpAnyH_take (i := 7) (v := .int .i64 ((t : Int) + 1)) rfl (by kernel_rfl) (by kernel_rfl) (by kernel_rfl) (fun _ _ _ h => h) (Or.inl ⟨by rfl, ?_⟩) SW ?_
  · intro W5 hW5
    have y1 := HT.out
    go_simp <;> first | done | rfl | (rw [IntKind.wrap_i64]; omega) | omega
  go_simp
  refine wpAnyH_take (i := 8) (v := .string (sdT t)) rfl (by kernel_rfl) (by kernel_rfl) (by kernel_rfl) (fun _ _ _ h => h) (Or.inl ⟨by rfl, ?_⟩) SW ?_
  · intro W5 hW5
    have y1 := HT.out
    go_simp; rw [if_pos ⟨by omega, by omega⟩, if_pos (by omega), sl_side t y1]
  go_simp
  refine wpAnyH_take (i := 9) (v := .pointer (some ⟨g, 2, none⟩)) rfl (by kernel_rfl) (by kernel_rfl) (by kernel_rfl) (fun _ _ _ h => h) (Or.inl ⟨by rfl, ?_⟩) SW ?_
  · intro W5 hW5
    go_simp <;> first | done | rfl | (rw [IntKind.wrap_i64]; omega) | omega
  go_simp
  refine wpAnyH_take (i := 10) (v := .int .i64 k) rfl (by kernel_rfl) (by kernel_rfl) (by kernel_rfl) (fun _ _ _ h => h) (Or.inl ⟨by rfl, ?_⟩) SW ?_
  · intro W5 hW5
    have y0 := (HC1.out W5 hW5).cells.2.2.1
    go_simp <;> first | done | rfl | (rw [IntKind.wrap_i64]; omega) | omega
  go_simp
  refine wpAnyH_take (i := 12) (v := .pointer (some ⟨g, 3, none⟩)) rfl (by kernel_rfl) (by kernel_rfl) (by kernel_rfl) (fun _ _ _ h => h) (Or.inl ⟨by rfl, ?_⟩) SW ?_
  · intro W5 hW5
    go_simp <;> first | done | rfl | (rw [IntKind.wrap_i64]; omega) | omega
  go_simp
  refine wpAnyH_take (i := 13) (v := .int .i64 e) rfl (by kernel_rfl) (by kernel_rfl) (by kernel_rfl) (fun _ _ _ h => h) (Or.inl ⟨by rfl, ?_⟩) SW ?_
  · intro W5 hW5
    have y0 := (HC1.out W5 hW5).cells.2.2.2.1
    go_simp <;> first | done | rfl | (rw [IntKind.wrap_i64]; omega) | omega
  go_simp
  refine wpAnyH_take (i := 15) (v := .pointer (some ⟨g, 4, none⟩)) rfl (by kernel_rfl) (by kernel_rfl) (by kernel_rfl) (fun _ _ _ h => h) (Or.inl ⟨by rfl, ?_⟩) SW ?_
  · intro W5 hW5
    go_simp <;> first | done | rfl | (rw [IntKind.wrap_i64]; omega) | omega
  go_simp
  refine wpAnyH_take (i := 16) (v := .int .i64 h) rfl (by kernel_rfl) (by kernel_rfl) (by kernel_rfl) (fun _ _ _ h => h) (Or.inl ⟨by rfl, ?_⟩) SW ?_
  · intro W5 hW5
    have y0 := (HC1.out W5 hW5).cells.2.2.2.2.1
    go_simp <;> first | done | rfl | (rw [IntKind.wrap_i64]; omega) | omega
  go_simp
  refine wpAnyH_take (i := 18) (v := .pointer (some ⟨g, 5, none⟩)) rfl (by kernel_rfl) (by kernel_rfl) (by kernel_rfl) (fun _ _ _ h => h) (Or.inl ⟨by rfl, ?_⟩) SW ?_
  · intro W5 hW5
    go_simp <;> first | done | rfl | (rw [IntKind.wrap_i64]; omega) | omega
  go_simp
  refine wpAnyH_take (i := 19) (v := .int .i64 f) rfl (by kernel_rfl) (by kernel_rfl) (by kernel_rfl) (fun _ _ _ h => h) (Or.inl ⟨by rfl, ?_⟩) SW ?_
  · intro W5 hW5
    have y0 := (HC1.out W5 hW5).cells.2.2.2.2.2
    go_simp <;> first | done | rfl | (rw [IntKind.wrap_i64]; omega) | omega
  go_simp
  refine wpAnyH_ready (rs := [2, 22]) (by kernel_rfl) (by simp) ?_
  refine AllReadyH.cons rfl (fun K1 hK1 => ?_) (AllReadyH.cons rfl (fun K1 hK1 => ?_) AllReadyH.nil)
  · skip
    go_simp
    refine (HP.out _ SW).mono ?_
    rintro r v2 ⟨rfl, hb⟩
    have SWb := SW.trans (hb.mono (HSZ.out _ SW))
    refine hK1.out _ _ SWb (fun SW => ?_)
    clear hK1 K1 SWb hb
    go_simp
    refine wpAnyH_ready (rs := [11, 22]) (by kernel_rfl) (by simp) ?_
    refine AllReadyH.cons rfl (fun K1 hK1 => ?_) (AllReadyH.cons rfl (fun K1 hK1 => ?_) AllReadyH.nil)
    · skip
      go_simp
      refine (HK.out _).mono ?_
      rintro r v11 ⟨rfl, hb⟩
      have SWb := SW.trans (hb.mono (HSZ.out _ SW))
      refine hK1.out _ _ SWb (fun SW => ?_)
      clear hK1 K1 SWb hb
      go_simp
      refine wpAnyH_ready (rs := [14, 22]) (by kernel_rfl) (by simp) ?_
      refine AllReadyH.cons rfl (fun K1 hK1 => ?_) (AllReadyH.cons rfl (fun K1 hK1 => ?_) AllReadyH.nil)
      · skip
        go_simp
        refine (HE.out _).mono ?_
        rintro r v14 ⟨rfl, hb⟩
        have SWb := SW.trans (hb.mono (HSZ.out _ SW))
        refine hK1.out _ _ SWb (fun SW => ?_)
        clear hK1 K1 SWb hb
        go_simp
        refine wpAnyH_ready (rs := [17, 22]) (by kernel_rfl) (by simp) ?_
        refine AllReadyH.cons rfl (fun K1 hK1 => ?_) (AllReadyH.cons rfl (fun K1 hK1 => ?_) AllReadyH.nil)
        · skip
          go_simp
          refine (HH.out _).mono ?_
          rintro r v17 ⟨rfl, hb⟩
          have SWb := SW.trans (hb.mono (HSZ.out _ SW))
          refine hK1.out _ _ SWb (fun SW => ?_)
          clear hK1 K1 SWb hb
          go_simp
          refine wpAnyH_ready (rs := [20, 22]) (by kernel_rfl) (by simp) ?_
          refine AllReadyH.cons rfl (fun K1 hK1 => ?_) (AllReadyH.cons rfl (fun K1 hK1 => ?_) AllReadyH.nil)
          · skip
            go_simp
            refine (HF.out _).mono ?_
            rintro r v20 ⟨rfl, hb⟩
            have SWb := SW.trans (hb.mono (HSZ.out _ SW))
            refine hK1.out _ _ SWb (fun SW => ?_)
            clear hK1 K1 SWb hb
            go_simp
            refine wpAnyH_take (i := 21) (v := .agg V0) rfl (by kernel_rfl) (by kernel_rfl) (by kernel_rfl) (fun _ _ _ h => h) (Or.inl ⟨by rfl, ?_⟩) SW ?_
            · intro W5 hW5
              exact exec_build6 (x0 := .tmp 6) (x1 := .tmp 12) (x2 := .tmp 15) (x3 := .tmp 18) (x4 := .tmp 21) (x5 := .tmp 24) (by rfl) (by rfl) (by rfl) (by rfl) (by rfl) (by rfl) (by rfl) HBU.out W5
            go_simp
            refine wpAnyH_ready (rs := [22]) (by kernel_rfl) (by simp) ?_
            refine AllReadyH.cons rfl (fun K1 hK1 => ?_) AllReadyH.nil
            go_simp
            obtain ⟨d, hd⟩ : ∃ d, (World.heap v20).size = d := ⟨_, rfl⟩
            have VD : Vb (World.alloc v20 (.cells #[.string ⟨#[]⟩, .string ⟨#[]⟩, .string ⟨#[]⟩, .string ⟨#[]⟩, .string ⟨#[]⟩, .string ⟨#[]⟩] 117)) d 117 (sts [⟨#[]⟩, ⟨#[]⟩, ⟨#[]⟩, ⟨#[]⟩, ⟨#[]⟩, ⟨#[]⟩]) := by rw [← hd]; exact Vb.new _ 117 _
            have hdl : g + 1 ≤ d := by rw [← hd]; exact HSZ.out _ SW
            have SWa : Below (g + 1) w1 (World.alloc v20 (.cells #[.string ⟨#[]⟩, .string ⟨#[]⟩, .string ⟨#[]⟩, .string ⟨#[]⟩, .string ⟨#[]⟩, .string ⟨#[]⟩] 117)) := SW.alloc (HSZ.out _ SW) _
            try rw [hd]
            refine hK1.out _ _ SWa (fun SW => ?_)
            clear hK1 K1 SWa
            generalize World.alloc v20 _ = wa at *
            clear hd
            go_simp
            refine wpAnyH_ready (rs := [23]) (by kernel_rfl) (by simp) ?_
            refine AllReadyH.cons rfl (fun K1 hK1 => ?_) AllReadyH.nil
            refine wp_store_row 117 (.tmp 3) (.tmp 25) (by rfl) d V0 (by rfl) (by rfl) 117 _ VD (by rw [← HV0.out]; exact row117) (by rw [← HV0.out]; rfl) (by rw [← HV0.out]; exact sts_one _) ?_
            have VE : Vb (World.setRow wa d V0) d 117 (sts [sp, sdT t, sk, se, sh, sf]) := by rw [← HV0.out]; exact VD.setRow _
            have KE : Keeps (fun j => j = d) wa (World.setRow wa d V0) := by rw [← HV0.out]; exact Keeps.setRow _ d _
            have SWe := SW.trans (KE.below (HSZ.out _ SW) (fun j hj e => by omega))
            refine hK1.out _ _ SWe (fun SW => ?_)
            clear hK1 K1 SWe KE VD
            generalize World.setRow wa d V0 = we at *
            go_simp
            refine wpAnyH_done (by kernel_rfl) ?_ _
            have HJN := hide (Tryz.strings_Join d 0 6 [sp, sdT t, sk, se, sh, sf] ⟨#[32]⟩ we (fun j x hx => by rw [Nat.zero_add]; exact VE.cell (by unfold sts; rw [List.getElem?_map, hx]; rfl)) VE.lt (show (6 : Nat) ≤ _ by decide) (Nat.le_refl _) HJ.out)
            have HSW := hide SW
            clear SW VE
            go_wp2_with fail
            refine HJN.out.mono ?_
            rintro r w9 ⟨rfl, hb9⟩
            go_wp2_with fail
            go_ret
            have hbw : Below w.heap.size w we := HB1.out.trans (HSW.out.mono (by rw [HG.out]; exact Nat.le_succ g))
            exact ⟨rfl, hbw.trans (hb9.mono hbw.size)⟩
          · skip
            go_simp
            obtain ⟨d, hd⟩ : ∃ d, (World.heap v17).size = d := ⟨_, rfl⟩
            have VD : Vb (World.alloc v17 (.cells #[.string ⟨#[]⟩, .string ⟨#[]⟩, .string ⟨#[]⟩, .string ⟨#[]⟩, .string ⟨#[]⟩, .string ⟨#[]⟩] 117)) d 117 (sts [⟨#[]⟩, ⟨#[]⟩, ⟨#[]⟩, ⟨#[]⟩, ⟨#[]⟩, ⟨#[]⟩]) := by rw [← hd]; exact Vb.new _ 117 _
            have hdl : g + 1 ≤ d := by rw [← hd]; exact HSZ.out _ SW
            have SWa : Below (g + 1) w1 (World.alloc v17 (.cells #[.string ⟨#[]⟩, .string ⟨#[]⟩, .string ⟨#[]⟩, .string ⟨#[]⟩, .string ⟨#[]⟩, .string ⟨#[]⟩] 117)) := SW.alloc (HSZ.out _ SW) _
            try rw [hd]
            refine hK1.out _ _ SWa (fun SW => ?_)
            clear hK1 K1 SWa
            generalize World.alloc v17 _ = wa at *
            clear hd
            go_simp
            refine wpAnyH_ready (rs := [20]) (by kernel_rfl) (by simp) ?_
            refine AllReadyH.cons rfl (fun K1 hK1 => ?_) AllReadyH.nil
            go_simp
            refine (HF.out _).mono ?_
            rintro r v20 ⟨rfl, hb⟩
            have SWb := SW.trans (hb.mono (HSZ.out _ SW))
            have VD := VD.below hb VD.lt
            refine hK1.out _ _ SWb (fun SW => ?_)
            clear hK1 K1 SWb hb
            go_simp
            refine wpAnyH_take (i := 21) (v := .agg V0) rfl (by kernel_rfl) (by kernel_rfl) (by kernel_rfl) (fun _ _ _ h => h) (Or.inl ⟨by rfl, ?_⟩) SW ?_
            · intro W5 hW5
              exact exec_build6 (x0 := .tmp 6) (x1 := .tmp 12) (x2 := .tmp 15) (x3 := .tmp 18) (x4 := .tmp 21) (x5 := .tmp 24) (by rfl) (by rfl) (by rfl) (by rfl) (by rfl) (by rfl) (by rfl) HBU.out W5
            go_simp
            refine wpAnyH_ready (rs := [23]) (by kernel_rfl) (by simp) ?_
            refine AllReadyH.cons rfl (fun K1 hK1 => ?_) AllReadyH.nil
            refine wp_store_row 117 (.tmp 3) (.tmp 25) (by rfl) d V0 (by rfl) (by rfl) 117 _ VD (by rw [← HV0.out]; exact row117) (by rw [← HV0.out]; rfl) (by rw [← HV0.out]; exact sts_one _) ?_
            have VE : Vb (World.setRow v20 d V0) d 117 (sts [sp, sdT t, sk, se, sh, sf]) := by rw [← HV0.out]; exact VD.setRow _
            have KE : Keeps (fun j => j = d) v20 (World.setRow v20 d V0) := by rw [← HV0.out]; exact Keeps.setRow _ d _
            have SWe := SW.trans (KE.below (HSZ.out _ SW) (fun j hj e => by omega))
            refine hK1.out _ _ SWe (fun SW => ?_)
            clear hK1 K1 SWe KE VD
            generalize World.setRow v20 d V0 = we at *
            go_simp
            refine wpAnyH_done (by kernel_rfl) ?_ _
            have HJN := hide (Tryz.strings_Join d 0 6 [sp, sdT t, sk, se, sh, sf] ⟨#[32]⟩ we (fun j x hx => by rw [Nat.zero_add]; exact VE.cell (by unfold sts; rw [List.getElem?_map, hx]; rfl)) VE.lt (show (6 : Nat) ≤ _ by decide) (Nat.le_refl _) HJ.out)
            have HSW := hide SW
            clear SW VE
            go_wp2_with fail
            refine HJN.out.mono ?_
            rintro r w9 ⟨rfl, hb9⟩
            go_wp2_with fail
            go_ret
            have hbw : Below w.heap.size w we := HB1.out.trans (HSW.out.mono (by rw [HG.out]; exact Nat.le_succ g))
            exact ⟨rfl, hbw.trans (hb9.mono hbw.size)⟩
        · skip
          go_simp
          obtain ⟨d, hd⟩ : ∃ d, (World.heap v14).size = d := ⟨_, rfl⟩
          have VD : Vb (World.alloc v14 (.cells #[.string ⟨#[]⟩, .string ⟨#[]⟩, .string ⟨#[]⟩, .string ⟨#[]⟩, .string ⟨#[]⟩, .string ⟨#[]⟩] 117)) d 117 (sts [⟨#[]⟩, ⟨#[]⟩, ⟨#[]⟩, ⟨#[]⟩, ⟨#[]⟩, ⟨#[]⟩]) := by rw [← hd]; exact Vb.new _ 117 _
          have hdl : g + 1 ≤ d := by rw [← hd]; exact HSZ.out _ SW
          have SWa : Below (g + 1) w1 (World.alloc v14 (.cells #[.string ⟨#[]⟩, .string ⟨#[]⟩, .string ⟨#[]⟩, .string ⟨#[]⟩, .string ⟨#[]⟩, .string ⟨#[]⟩] 117)) := SW.alloc (HSZ.out _ SW) _
          try rw [hd]
          refine hK1.out _ _ SWa (fun SW => ?_)
          clear hK1 K1 SWa
          generalize World.alloc v14 _ = wa at *
          clear hd
          go_simp
          refine wpAnyH_ready (rs := [17]) (by kernel_rfl) (by simp) ?_
          refine AllReadyH.cons rfl (fun K1 hK1 => ?_) AllReadyH.nil
          go_simp
          refine (HH.out _).mono ?_
          rintro r v17 ⟨rfl, hb⟩
          have SWb := SW.trans (hb.mono (HSZ.out _ SW))
          have VD := VD.below hb VD.lt
          refine hK1.out _ _ SWb (fun SW => ?_)
          clear hK1 K1 SWb hb
          go_simp
          refine wpAnyH_ready (rs := [20]) (by kernel_rfl) (by simp) ?_
          refine AllReadyH.cons rfl (fun K1 hK1 => ?_) AllReadyH.nil
          go_simp
          refine (HF.out _).mono ?_
          rintro r v20 ⟨rfl, hb⟩
          have SWb := SW.trans (hb.mono (HSZ.out _ SW))
          have VD := VD.below hb VD.lt
          refine hK1.out _ _ SWb (fun SW => ?_)
          clear hK1 K1 SWb hb
          go_simp
          refine wpAnyH_take (i := 21) (v := .agg V0) rfl (by kernel_rfl) (by kernel_rfl) (by kernel_rfl) (fun _ _ _ h => h) (Or.inl ⟨by rfl, ?_⟩) SW ?_
          · intro W5 hW5
            exact exec_build6 (x0 := .tmp 6) (x1 := .tmp 12) (x2 := .tmp 15) (x3 := .tmp 18) (x4 := .tmp 21) (x5 := .tmp 24) (by rfl) (by rfl) (by rfl) (by rfl) (by rfl) (by rfl) (by rfl) HBU.out W5
          go_simp
          refine wpAnyH_ready (rs := [23]) (by kernel_rfl) (by simp) ?_
          refine AllReadyH.cons rfl (fun K1 hK1 => ?_) AllReadyH.nil
          refine wp_store_row 117 (.tmp 3) (.tmp 25) (by rfl) d V0 (by rfl) (by rfl) 117 _ VD (by rw [← HV0.out]; exact row117) (by rw [← HV0.out]; rfl) (by rw [← HV0.out]; exact sts_one _) ?_
          have VE : Vb (World.setRow v20 d V0) d 117 (sts [sp, sdT t, sk, se, sh, sf]) := by rw [← HV0.out]; exact VD.setRow _
          have KE : Keeps (fun j => j = d) v20 (World.setRow v20 d V0) := by rw [← HV0.out]; exact Keeps.setRow _ d _
          have SWe := SW.trans (KE.below (HSZ.out _ SW) (fun j hj e => by omega))
          refine hK1.out _ _ SWe (fun SW => ?_)
          clear hK1 K1 SWe KE VD
          generalize World.setRow v20 d V0 = we at *
          go_simp
          refine wpAnyH_done (by kernel_rfl) ?_ _
          have HJN := hide (Tryz.strings_Join d 0 6 [sp, sdT t, sk, se, sh, sf] ⟨#[32]⟩ we (fun j x hx => by rw [Nat.zero_add]; exact VE.cell (by unfold sts; rw [List.getElem?_map, hx]; rfl)) VE.lt (show (6 : Nat) ≤ _ by decide) (Nat.le_refl _) HJ.out)
          have HSW := hide SW
          clear SW VE
          go_wp2_with fail
          refine HJN.out.mono ?_
          rintro r w9 ⟨rfl, hb9⟩
          go_wp2_with fail
          go_ret
          have hbw : Below w.heap.size w we := HB1.out.trans (HSW.out.mono (by rw [HG.out]; exact Nat.le_succ g))
          exact ⟨rfl, hbw.trans (hb9.mono hbw.size)⟩
      · skip
        go_simp
        obtain ⟨d, hd⟩ : ∃ d, (World.heap v11).size = d := ⟨_, rfl⟩
        have VD : Vb (World.alloc v11 (.cells #[.string ⟨#[]⟩, .string ⟨#[]⟩, .string ⟨#[]⟩, .string ⟨#[]⟩, .string ⟨#[]⟩, .string ⟨#[]⟩] 117)) d 117 (sts [⟨#[]⟩, ⟨#[]⟩, ⟨#[]⟩, ⟨#[]⟩, ⟨#[]⟩, ⟨#[]⟩]) := by rw [← hd]; exact Vb.new _ 117 _
        have hdl : g + 1 ≤ d := by rw [← hd]; exact HSZ.out _ SW
        have SWa : Below (g + 1) w1 (World.alloc v11 (.cells #[.string ⟨#[]⟩, .string ⟨#[]⟩, .string ⟨#[]⟩, .string ⟨#[]⟩, .string ⟨#[]⟩, .string ⟨#[]⟩] 117)) := SW.alloc (HSZ.out _ SW) _
        try rw [hd]
        refine hK1.out _ _ SWa (fun SW => ?_)
        clear hK1 K1 SWa
        generalize World.alloc v11 _ = wa at *
        clear hd
        go_simp
        refine wpAnyH_ready (rs := [14]) (by kernel_rfl) (by simp) ?_
        refine AllReadyH.cons rfl (fun K1 hK1 => ?_) AllReadyH.nil
        go_simp
        refine (HE.out _).mono ?_
        rintro r v14 ⟨rfl, hb⟩
        have SWb := SW.trans (hb.mono (HSZ.out _ SW))
        have VD := VD.below hb VD.lt
        refine hK1.out _ _ SWb (fun SW => ?_)
        clear hK1 K1 SWb hb
        go_simp
        refine wpAnyH_ready (rs := [17]) (by kernel_rfl) (by simp) ?_
        refine AllReadyH.cons rfl (fun K1 hK1 => ?_) AllReadyH.nil
        go_simp
        refine (HH.out _).mono ?_
        rintro r v17 ⟨rfl, hb⟩
        have SWb := SW.trans (hb.mono (HSZ.out _ SW))
        have VD := VD.below hb VD.lt
        refine hK1.out _ _ SWb (fun SW => ?_)
        clear hK1 K1 SWb hb
        go_simp
        refine wpAnyH_ready (rs := [20]) (by kernel_rfl) (by simp) ?_
        refine AllReadyH.cons rfl (fun K1 hK1 => ?_) AllReadyH.nil
        go_simp
        refine (HF.out _).mono ?_
        rintro r v20 ⟨rfl, hb⟩
        have SWb := SW.trans (hb.mono (HSZ.out _ SW))
        have VD := VD.below hb VD.lt
        refine hK1.out _ _ SWb (fun SW => ?_)
        clear hK1 K1 SWb hb
        go_simp
        refine wpAnyH_take (i := 21) (v := .agg V0) rfl (by kernel_rfl) (by kernel_rfl) (by kernel_rfl) (fun _ _ _ h => h) (Or.inl ⟨by rfl, ?_⟩) SW ?_
        · intro W5 hW5
          exact exec_build6 (x0 := .tmp 6) (x1 := .tmp 12) (x2 := .tmp 15) (x3 := .tmp 18) (x4 := .tmp 21) (x5 := .tmp 24) (by rfl) (by rfl) (by rfl) (by rfl) (by rfl) (by rfl) (by rfl) HBU.out W5
        go_simp
        refine wpAnyH_ready (rs := [23]) (by kernel_rfl) (by simp) ?_
        refine AllReadyH.cons rfl (fun K1 hK1 => ?_) AllReadyH.nil
        refine wp_store_row 117 (.tmp 3) (.tmp 25) (by rfl) d V0 (by rfl) (by rfl) 117 _ VD (by rw [← HV0.out]; exact row117) (by rw [← HV0.out]; rfl) (by rw [← HV0.out]; exact sts_one _) ?_
        have VE : Vb (World.setRow v20 d V0) d 117 (sts [sp, sdT t, sk, se, sh, sf]) := by rw [← HV0.out]; exact VD.setRow _
        have KE : Keeps (fun j => j = d) v20 (World.setRow v20 d V0) := by rw [← HV0.out]; exact Keeps.setRow _ d _
        have SWe := SW.trans (KE.below (HSZ.out _ SW) (fun j hj e => by omega))
        refine hK1.out _ _ SWe (fun SW => ?_)
        clear hK1 K1 SWe KE VD
        generalize World.setRow v20 d V0 = we at *
        go_simp
        refine wpAnyH_done (by kernel_rfl) ?_ _
        have HJN := hide (Tryz.strings_Join d 0 6 [sp, sdT t, sk, se, sh, sf] ⟨#[32]⟩ we (fun j x hx => by rw [Nat.zero_add]; exact VE.cell (by unfold sts; rw [List.getElem?_map, hx]; rfl)) VE.lt (show (6 : Nat) ≤ _ by decide) (Nat.le_refl _) HJ.out)
        have HSW := hide SW
        clear SW VE
        go_wp2_with fail
        refine HJN.out.mono ?_
        rintro r w9 ⟨rfl, hb9⟩
        go_wp2_with fail
        go_ret
        have hbw : Below w.heap.size w we := HB1.out.trans (HSW.out.mono (by rw [HG.out]; exact Nat.le_succ g))
        exact ⟨rfl, hbw.trans (hb9.mono hbw.size)⟩
    · skip
      go_simp
      obtain ⟨d, hd⟩ : ∃ d, (World.heap v2).size = d := ⟨_, rfl⟩
      have VD : Vb (World.alloc v2 (.cells #[.string ⟨#[]⟩, .string ⟨#[]⟩, .string ⟨#[]⟩, .string ⟨#[]⟩, .string ⟨#[]⟩, .string ⟨#[]⟩] 117)) d 117 (sts [⟨#[]⟩, ⟨#[]⟩, ⟨#[]⟩, ⟨#[]⟩, ⟨#[]⟩, ⟨#[]⟩]) := by rw [← hd]; exact Vb.new _ 117 _
      have hdl : g + 1 ≤ d := by rw [← hd]; exact HSZ.out _ SW
      have SWa : Below (g + 1) w1 (World.alloc v2 (.cells #[.string ⟨#[]⟩, .string ⟨#[]⟩, .string ⟨#[]⟩, .string ⟨#[]⟩, .string ⟨#[]⟩, .string ⟨#[]⟩] 117)) := SW.alloc (HSZ.out _ SW) _
      try rw [hd]
      refine hK1.out _ _ SWa (fun SW => ?_)
      clear hK1 K1 SWa
      generalize World.alloc v2 _ = wa at *
      clear hd
      go_simp
      refine wpAnyH_ready (rs := [11]) (by kernel_rfl) (by simp) ?_
      refine AllReadyH.cons rfl (fun K1 hK1 => ?_) AllReadyH.nil
      go_simp
      refine (HK.out _).mono ?_
      rintro r v11 ⟨rfl, hb⟩
      have SWb := SW.trans (hb.mono (HSZ.out _ SW))
      have VD := VD.below hb VD.lt
      refine hK1.out _ _ SWb (fun SW => ?_)
      clear hK1 K1 SWb hb
      go_simp
      refine wpAnyH_ready (rs := [14]) (by kernel_rfl) (by simp) ?_
      refine AllReadyH.cons rfl (fun K1 hK1 => ?_) AllReadyH.nil
      go_simp
      refine (HE.out _).mono ?_
      rintro r v14 ⟨rfl, hb⟩
      have SWb := SW.trans (hb.mono (HSZ.out _ SW))
      have VD := VD.below hb VD.lt
      refine hK1.out _ _ SWb (fun SW => ?_)
      clear hK1 K1 SWb hb
      go_simp
      refine wpAnyH_ready (rs := [17]) (by kernel_rfl) (by simp) ?_
      refine AllReadyH.cons rfl (fun K1 hK1 => ?_) AllReadyH.nil
      go_simp
      refine (HH.out _).mono ?_
      rintro r v17 ⟨rfl, hb⟩
      have SWb := SW.trans (hb.mono (HSZ.out _ SW))
      have VD := VD.below hb VD.lt
      refine hK1.out _ _ SWb (fun SW => ?_)
      clear hK1 K1 SWb hb
      go_simp
      refine wpAnyH_ready (rs := [20]) (by kernel_rfl) (by simp) ?_
      refine AllReadyH.cons rfl (fun K1 hK1 => ?_) AllReadyH.nil
      go_simp
      refine (HF.out _).mono ?_
      rintro r v20 ⟨rfl, hb⟩
      have SWb := SW.trans (hb.mono (HSZ.out _ SW))
      have VD := VD.below hb VD.lt
      refine hK1.out _ _ SWb (fun SW => ?_)
      clear hK1 K1 SWb hb
      go_simp
      refine wpAnyH_take (i := 21) (v := .agg V0) rfl (by kernel_rfl) (by kernel_rfl) (by kernel_rfl) (fun _ _ _ h => h) (Or.inl ⟨by rfl, ?_⟩) SW ?_
      · intro W5 hW5
        exact exec_build6 (x0 := .tmp 6) (x1 := .tmp 12) (x2 := .tmp 15) (x3 := .tmp 18) (x4 := .tmp 21) (x5 := .tmp 24) (by rfl) (by rfl) (by rfl) (by rfl) (by rfl) (by rfl) (by rfl) HBU.out W5
      go_simp
      refine wpAnyH_ready (rs := [23]) (by kernel_rfl) (by simp) ?_
      refine AllReadyH.cons rfl (fun K1 hK1 => ?_) AllReadyH.nil
      refine wp_store_row 117 (.tmp 3) (.tmp 25) (by rfl) d V0 (by rfl) (by rfl) 117 _ VD (by rw [← HV0.out]; exact row117) (by rw [← HV0.out]; rfl) (by rw [← HV0.out]; exact sts_one _) ?_
      have VE : Vb (World.setRow v20 d V0) d 117 (sts [sp, sdT t, sk, se, sh, sf]) := by rw [← HV0.out]; exact VD.setRow _
      have KE : Keeps (fun j => j = d) v20 (World.setRow v20 d V0) := by rw [← HV0.out]; exact Keeps.setRow _ d _
      have SWe := SW.trans (KE.below (HSZ.out _ SW) (fun j hj e => by omega))
      refine hK1.out _ _ SWe (fun SW => ?_)
      clear hK1 K1 SWe KE VD
      generalize World.setRow v20 d V0 = we at *
      go_simp
      refine wpAnyH_done (by kernel_rfl) ?_ _
      have HJN := hide (Tryz.strings_Join d 0 6 [sp, sdT t, sk, se, sh, sf] ⟨#[32]⟩ we (fun j x hx => by rw [Nat.zero_add]; exact VE.cell (by unfold sts; rw [List.getElem?_map, hx]; rfl)) VE.lt (show (6 : Nat) ≤ _ by decide) (Nat.le_refl _) HJ.out)
      have HSW := hide SW
      clear SW VE
      go_wp2_with fail
      refine HJN.out.mono ?_
      rintro r w9 ⟨rfl, hb9⟩
      go_wp2_with fail
      go_ret
      have hbw : Below w.heap.size w we := HB1.out.trans (HSW.out.mono (by rw [HG.out]; exact Nat.le_succ g))
      exact ⟨rfl, hbw.trans (hb9.mono hbw.size)⟩
  · skip
    go_simp
    obtain ⟨d, hd⟩ : ∃ d, (World.heap wd).size = d := ⟨_, rfl⟩
    have VD : Vb (World.alloc wd (.cells #[.string ⟨#[]⟩, .string ⟨#[]⟩, .string ⟨#[]⟩, .string ⟨#[]⟩, .string ⟨#[]⟩, .string ⟨#[]⟩] 117)) d 117 (sts [⟨#[]⟩, ⟨#[]⟩, ⟨#[]⟩, ⟨#[]⟩, ⟨#[]⟩, ⟨#[]⟩]) := by rw [← hd]; exact Vb.new _ 117 _
    have hdl : g + 1 ≤ d := by rw [← hd]; exact HSZ.out _ SW
    have SWa : Below (g + 1) w1 (World.alloc wd (.cells #[.string ⟨#[]⟩, .string ⟨#[]⟩, .string ⟨#[]⟩, .string ⟨#[]⟩, .string ⟨#[]⟩, .string ⟨#[]⟩] 117)) := SW.alloc (HSZ.out _ SW) _
    try rw [hd]
    refine hK1.out _ _ SWa (fun SW => ?_)
    clear hK1 K1 SWa
    generalize World.alloc wd _ = wa at *
    clear hd
    go_simp
    refine wpAnyH_ready (rs := [2]) (by kernel_rfl) (by simp) ?_
    refine AllReadyH.cons rfl (fun K1 hK1 => ?_) AllReadyH.nil
    go_simp
    refine (HP.out _ SW).mono ?_
    rintro r v2 ⟨rfl, hb⟩
    have SWb := SW.trans (hb.mono (HSZ.out _ SW))
    have VD := VD.below hb VD.lt
    refine hK1.out _ _ SWb (fun SW => ?_)
    clear hK1 K1 SWb hb
    go_simp
    refine wpAnyH_ready (rs := [11]) (by kernel_rfl) (by simp) ?_
    refine AllReadyH.cons rfl (fun K1 hK1 => ?_) AllReadyH.nil
    go_simp
    refine (HK.out _).mono ?_
    rintro r v11 ⟨rfl, hb⟩
    have SWb := SW.trans (hb.mono (HSZ.out _ SW))
    have VD := VD.below hb VD.lt
    refine hK1.out _ _ SWb (fun SW => ?_)
    clear hK1 K1 SWb hb
    go_simp
    refine wpAnyH_ready (rs := [14]) (by kernel_rfl) (by simp) ?_
    refine AllReadyH.cons rfl (fun K1 hK1 => ?_) AllReadyH.nil
    go_simp
    refine (HE.out _).mono ?_
    rintro r v14 ⟨rfl, hb⟩
    have SWb := SW.trans (hb.mono (HSZ.out _ SW))
    have VD := VD.below hb VD.lt
    refine hK1.out _ _ SWb (fun SW => ?_)
    clear hK1 K1 SWb hb
    go_simp
    refine wpAnyH_ready (rs := [17]) (by kernel_rfl) (by simp) ?_
    refine AllReadyH.cons rfl (fun K1 hK1 => ?_) AllReadyH.nil
    go_simp
    refine (HH.out _).mono ?_
    rintro r v17 ⟨rfl, hb⟩
    have SWb := SW.trans (hb.mono (HSZ.out _ SW))
    have VD := VD.below hb VD.lt
    refine hK1.out _ _ SWb (fun SW => ?_)
    clear hK1 K1 SWb hb
    go_simp
    refine wpAnyH_ready (rs := [20]) (by kernel_rfl) (by simp) ?_
    refine AllReadyH.cons rfl (fun K1 hK1 => ?_) AllReadyH.nil
    go_simp
    refine (HF.out _).mono ?_
    rintro r v20 ⟨rfl, hb⟩
    have SWb := SW.trans (hb.mono (HSZ.out _ SW))
    have VD := VD.below hb VD.lt
    refine hK1.out _ _ SWb (fun SW => ?_)
    clear hK1 K1 SWb hb
    go_simp
    refine wpAnyH_take (i := 21) (v := .agg V0) rfl (by kernel_rfl) (by kernel_rfl) (by kernel_rfl) (fun _ _ _ h => h) (Or.inl ⟨by rfl, ?_⟩) SW ?_
    · intro W5 hW5
      exact exec_build6 (x0 := .tmp 6) (x1 := .tmp 12) (x2 := .tmp 15) (x3 := .tmp 18) (x4 := .tmp 21) (x5 := .tmp 24) (by rfl) (by rfl) (by rfl) (by rfl) (by rfl) (by rfl) (by rfl) HBU.out W5
    go_simp
    refine wpAnyH_ready (rs := [23]) (by kernel_rfl) (by simp) ?_
    refine AllReadyH.cons rfl (fun K1 hK1 => ?_) AllReadyH.nil
    refine wp_store_row 117 (.tmp 3) (.tmp 25) (by rfl) d V0 (by rfl) (by rfl) 117 _ VD (by rw [← HV0.out]; exact row117) (by rw [← HV0.out]; rfl) (by rw [← HV0.out]; exact sts_one _) ?_
    have VE : Vb (World.setRow v20 d V0) d 117 (sts [sp, sdT t, sk, se, sh, sf]) := by rw [← HV0.out]; exact VD.setRow _
    have KE : Keeps (fun j => j = d) v20 (World.setRow v20 d V0) := by rw [← HV0.out]; exact Keeps.setRow _ d _
    have SWe := SW.trans (KE.below (HSZ.out _ SW) (fun j hj e => by omega))
    refine hK1.out _ _ SWe (fun SW => ?_)
    clear hK1 K1 SWe KE VD
    generalize World.setRow v20 d V0 = we at *
    go_simp
    refine wpAnyH_done (by kernel_rfl) ?_ _
    have HJN := hide (Tryz.strings_Join d 0 6 [sp, sdT t, sk, se, sh, sf] ⟨#[32]⟩ we (fun j x hx => by rw [Nat.zero_add]; exact VE.cell (by unfold sts; rw [List.getElem?_map, hx]; rfl)) VE.lt (show (6 : Nat) ≤ _ by decide) (Nat.le_refl _) HJ.out)
    have HSW := hide SW
    clear SW VE
    go_wp2_with fail
    refine HJN.out.mono ?_
    rintro r w9 ⟨rfl, hb9⟩
    go_wp2_with fail
    go_ret
    have hbw : Below w.heap.size w we := HB1.out.trans (HSW.out.mono (by rw [HG.out]; exact Nat.le_succ g))
    exact ⟨rfl, hbw.trans (hb9.mono hbw.size)⟩

end Go.Proofs.YtdmlamnonbmboaaGreatDoor
