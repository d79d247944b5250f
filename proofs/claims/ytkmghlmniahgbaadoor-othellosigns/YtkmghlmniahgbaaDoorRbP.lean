/-
  What the document says is best, so many moves deep: where one passes. No conditions beyond those that each theorem bears.
-/
import Derived.Test.YtkmghlmniahgbaaDoorRbD
namespace Go.Proofs.YtkmghlmniahgbaaDoor
open Go.RowKit

attribute [local irreducible] ob pz sps psN psY ldj

set_option maxRecDepth 100000 in
set_option maxHeartbeats 16000000 in
theorem rb_pass (gW gH n l : Nat) (zs : List Int) (m : Nat) (b : Og gW gH n zs) (hm : m = 1 ∨ m = 2) (hl : l ≤ 5) (hs : sps gW gH zs m = []) (hs2 : sps gW gH zs (3 - m) ≠ []) (ih : RbAt gW gH n (l + 1) zs (3 - m)) : RbAt gW gH n (l + 1) zs m := by
  intro a c w h
  have hn64 := b.n64
  have hcm := h.max
  unfold maxLen at hcm
  have hcc := h.cap
  have HSPA := hide (fun m' (hm' : m' = 1 ∨ m' = 2) W1 (hR : Rd W1 a n c zs) => SignPlaces_any gW gH a n c zs m' W1 hR b hm')
  have HMM := hide hm
  obtain ⟨mo, hmo⟩ : ∃ mo, 3 - m = mo := ⟨_, rfl⟩
  have h3a : (3 : Int) - (m : Int) = (mo : Int) := by omega
  have HMO := hide hmo
  have HMM2 : Hid (mo = 1 ∨ mo = 2) := hide (by omega)
  have hmb : m ≤ 2 := by omega
  have hmob : mo ≤ 2 := by omega
  have HMUL := hide b.mul
  have HOB := hide (ob_pass (l := l) hm hs hs2)
  have hWH : gW * gH ≤ 64 := by rw [b.mul]; omega
  have hvb := ob_bd hWH (l + 1) zs (3 - m)
  rw [hmo] at hs2 ih HOB hvb
  have HIH := hide (fun W1 (hR : Rd W1 a n c zs) => ih a c W1 hR)
  have HS1 := hide hs
  have HS2 := hide hs2
  obtain ⟨OV, hOV⟩ : ∃ OV, ob gW gH (l + 1) zs mo = OV := ⟨_, rfl⟩
  rw [hOV] at HOB hvb HIH
  obtain ⟨s, hs'⟩ : ∃ s, ob gW gH (l + 1) zs m = s := ⟨_, rfl⟩
  rw [hs'] at HOB ⊢
  obtain ⟨L1, hL1⟩ : ∃ L1 : Nat, l + 1 = L1 := ⟨_, rfl⟩
  have hl6 : (L1 : Int) ≤ 6 := by omega
  have hl0 : ((L1 : Int) == 0) = false := by rw [beq_eq_false_iff_ne]; omega
  rw [hL1] at HIH ⊢
  obtain ⟨w1, hw1⟩ : ∃ w1, w.alloc (.cells (gdA gW gH a n c) 24) = w1 := ⟨_, rfl⟩
  have HB1 : Hid (Below w.heap.size w w1) := hide (by rw [← hw1]; exact (Below.refl _ _).alloc (Nat.le_refl _) _)
  have HG1 : Hid (Gd w1 w.heap.size gW gH a n c) := hide (by rw [← hw1]; exact Gd.new _ _ _ _ _ _)
  have HR1 := hide (h.mono HB1.out)
  clear hL1 ih hs hs2 hmo hm hWH h b hOV hs'
  go_enter Tryd.func24, Tryd.ntmps24
  go_upto_region 1 with fail
  clear hw1
  have HGR1 : Hid (∀ W4, Below w1.heap.size w1 W4 → W4.rangeAt w.heap.size 0 [.int .i64 gW, .int .i64 gH, .slice a n c]) := hide (fun W4 hb => (HG1.out.below hb HG1.out.lt).range)
  refine wp_region_held (S := fun W4 => Below w1.heap.size w1 W4) (by kernel_rfl) ?_
  change wpAnyH _ _ _ _ _ _ _ _ (World.drew _)
  have SW : Below w1.heap.size w1 w1.drew := (Below.refl _ w1).drew
  refine wpAnyH_take (i := 0) (v := .agg (gdA gW gH a n c)) rfl (by kernel_rfl) (by kernel_rfl) (by kernel_rfl) (fun _ _ _ h => h) (yieldsIf_load_mid (by rfl) 24 _ rfl w.heap.size 0 (by rfl) [.int .i64 gW, .int .i64 gH, .slice a n c] _ (fun W hW => HGR1.out W hW) Tryd.underlying24 rfl size24) SW ?_
  go_simp
  refine wpAnyH_take (i := 1) (v := .int .i64 (m : Nat)) rfl (by kernel_rfl) (by kernel_rfl) (by kernel_rfl) (fun _ _ _ h => h) (Or.inl ⟨by rfl, ?_⟩) SW ?_
  · intro W4 hW4
    go_simp <;> first | done | rfl | (rw [IntKind.wrap_i64]; omega) | omega
  go_simp
  refine wpAnyH_take (i := 3) (v := .agg (gdA gW gH a n c)) rfl (by kernel_rfl) (by kernel_rfl) (by kernel_rfl) (fun _ _ _ h => h) (yieldsIf_load_mid (by rfl) 24 _ rfl w.heap.size 0 (by rfl) [.int .i64 gW, .int .i64 gH, .slice a n c] _ (fun W hW => HGR1.out W hW) Tryd.underlying24 rfl size24) SW ?_
  go_simp
  refine wpAnyH_take (i := 4) (v := .int .i64 (m : Nat)) rfl (by kernel_rfl) (by kernel_rfl) (by kernel_rfl) (fun _ _ _ h => h) (Or.inl ⟨by rfl, ?_⟩) SW ?_
  · intro W4 hW4
    go_simp <;> first | done | rfl | (rw [IntKind.wrap_i64]; omega) | omega
  go_simp
  refine wpAnyH_take (i := 5) (v := .int .i64 (mo : Nat)) rfl (by kernel_rfl) (by kernel_rfl) (by kernel_rfl) (fun _ _ _ h => h) (Or.inl ⟨by rfl, ?_⟩) SW ?_
  · intro W4 hW4
    have hx := h3a
    go_simp <;> first | done | rfl | (rw [IntKind.wrap_i64]; omega) | omega
  go_simp
  refine wpAnyH_ready (rs := [2]) (by kernel_rfl) (by simp) ?_
  refine AllReadyH.cons rfl (fun K1 hK1 => ?_) AllReadyH.nil
  go_simp
  refine (HSPA.out m HMM.out _ (HR1.out.mono SW)).mono ?_
  rintro r lw ⟨la, lc, rfl, hlR, hbl⟩
  have Bl := SW.trans (hbl.mono SW.size)
  refine hK1.out _ _ Bl (fun SW => ?_)
  clear hK1 K1
  go_simp
  refine wpAnyH_ready (rs := [6]) (by kernel_rfl) (by simp) ?_
  refine AllReadyH.cons rfl (fun K1 hK1 => ?_) AllReadyH.nil
  go_simp
  refine (HSPA.out mo HMM2.out _ (HR1.out.mono SW)).mono ?_
  rintro r kw ⟨ka, kc, rfl, hkR, hbk⟩
  have Bk := SW.trans (hbk.mono SW.size)
  refine hK1.out _ _ Bk (fun SW => ?_)
  clear hK1 K1
  go_simp
  refine wpAnyH_ready (rs := [7]) (by kernel_rfl) (by simp) ?_
  refine AllReadyH.cons rfl (fun K1 hK1 => ?_) AllReadyH.nil
  go_simp
  refine hK1.out _ _ SW (fun SW => ?_)
  clear hK1 K1
  go_simp
  refine wpAnyH_ready (rs := [8]) (by kernel_rfl) (by simp) ?_
  refine AllReadyH.cons rfl (fun K1 hK1 => ?_) AllReadyH.nil
  go_simp
  refine hK1.out _ _ SW (fun SW => ?_)
  clear hK1 K1
  go_simp
  refine wpAnyH_done (by kernel_rfl) ?_ _
  obtain ⟨w3, hw3⟩ : ∃ w3, kw = w3 := ⟨_, rfl⟩
  have HLO : Hid (Rd w3 la (sps gW gH zs m).length lc (toI (sps gW gH zs m))) := hide (by rw [← hw3]; exact hlR.mono hbk)
  have HLT : Hid (Rd w3 ka (sps gW gH zs mo).length kc (toI (sps gW gH zs mo))) := hide (by rw [← hw3]; exact hkR)
  have HB3 : Hid (Below w1.heap.size w1 w3) := hide (by rw [← hw3]; exact Bk)
  rw [hw3]
  clear hw3 hlR hkR hbl hbk Bl Bk SW
  have hsl := sps_len gW gH zs mo
  rw [HMUL.out] at hsl
  have hl1 := HLO.out.max
  have hl2 := HLT.out.max
  unfold maxLen at hl1 hl2
  have hz1 : (sps gW gH zs m).length = 0 := by rw [HS1.out]; rfl
  have hz2 : (((sps gW gH zs mo).length : Int) == 0) = false := by rw [beq_eq_false_iff_ne]; have := List.length_pos_iff.2 HS2.out; omega
  rw [hz1]
  have hzz : (((0 : Nat) : Int) == 0) = true := by rfl
  have G3 := HG1.out.below HB3.out HG1.out.lt
  have HC3 := hide (HIH.out w3 (HR1.out.mono HB3.out))
  generalize (sps gW gH zs mo).length = ln2 at *
  clear HLO HLT HSPA hz1
  go_wp2_with (refine wpList_load_gd rfl (.tmp 3) rfl w.heap.size rfl G3 ?_)
  refine HC3.out.mono ?_
  rintro r w5 ⟨rfl, hb5⟩
  have HB5 := hide (HB3.out.trans (hb5.mono HB3.out.size))
  clear hb5 HC3
  go_wp2_with fail
  go_ret2
  refine ⟨?_, HB1.out.trans (HB5.out.mono HB1.out.size)⟩
  rw [HOB.out]
  rfl

end Go.Proofs.YtkmghlmniahgbaaDoor
