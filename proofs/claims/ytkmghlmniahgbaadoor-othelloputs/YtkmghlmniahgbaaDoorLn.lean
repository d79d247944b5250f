/-
  Who moves next, as the document says it. No conditions beyond those that each theorem bears.
-/
import Derived.Test.YtkmghlmniahgbaaDoorSm
import Derived.Test.YtkmghlmniahgbaaDoorOn
namespace Go.Proofs.YtkmghlmniahgbaaDoor
open Go.RowKit

attribute [local irreducible] sps

set_option maxRecDepth 100000 in
set_option maxHeartbeats 4000000 in
theorem OthelloNext_any (gW gH : Nat) (a : Option Addr) (n c : Nat) (zs : List Int) (m : Nat) (w : World) (h : Rd w a n c zs) (b : Og gW gH n zs) (hm : m = 1 ∨ m = 2) :
    Calls Tryd.prog 19 #[.agg (gdA gW gH a n c), .int .i64 (m : Nat)] w fun e w' => e = .returned (.int .i64 (nxt gW gH zs m : Nat)) ∧ Below w.heap.size w w' := by
  obtain ⟨mo, hmo⟩ : ∃ mo, 3 - m = mo := ⟨_, rfl⟩
  have h3a : (3 : Int) - (m : Int) = (mo : Int) := by omega
  have hmb : m ≤ 2 := by omega
  have hmob : mo ≤ 2 := by omega
  have HS1 := hide (fun W1 (hR : Rd W1 a n c zs) => SignPlaces_any gW gH a n c zs m W1 hR b hm)
  have HS2 := hide (fun W1 (hR : Rd W1 a n c zs) => SignPlaces_any gW gH a n c zs mo W1 hR b (by omega))
  obtain ⟨R, hR⟩ : ∃ R, nxt gW gH zs m = R := ⟨_, rfl⟩
  have hR' := hR
  unfold nxt at hR'
  rw [hmo] at hR'
  rw [hR]
  obtain ⟨w1, hw1⟩ : ∃ w1, w.alloc (.cells (gdA gW gH a n c) 24) = w1 := ⟨_, rfl⟩
  have HB1 : Hid (Below w.heap.size w w1) := hide (by rw [← hw1]; exact (Below.refl _ _).alloc (Nat.le_refl _) _)
  have HG1 : Hid (Gd w1 w.heap.size gW gH a n c) := hide (by rw [← hw1]; exact Gd.new _ _ _ _ _ _)
  have HR1 := hide (h.mono HB1.out)
  clear h b hm hmo hR
  by_cases e2 : sps gW gH zs mo = []
  · rw [if_neg (by simp [e2])] at hR'
    have z2 : (sps gW gH zs mo).length = 0 := by rw [e2]; rfl
    rw [z2] at HS2
    have g2 : ¬ ((0 : Nat) : Int) > 0 := by omega
    by_cases e1 : sps gW gH zs m = []
    · rw [if_neg (by simp [e1])] at hR'
      have z1 : (sps gW gH zs m).length = 0 := by rw [e1]; rfl
      rw [z1] at HS1
      subst hR'
      clear e1 e2 z1 z2
      go_enter Tryd.func19, Tryd.ntmps19
      go_upto_region 1 with fail
      clear hw1
      go_wp2_with (refine wpList_load_gd rfl (.tmp 2) rfl w.heap.size rfl HG1.out ?_)
      refine (HS2.out w1 HR1.out).mono ?_
      rintro r w2 ⟨ka, kc, rfl, hR2, hb2⟩
      have HB2 := hide (HB1.out.trans (hb2.mono HB1.out.size))
      have HG2 := hide (HG1.out.below hb2 HG1.out.lt)
      have HR2 := hide (HR1.out.mono hb2)
      have hmx := hR2.max
      unfold maxLen at hmx
      have hcx := hR2.cap
      clear hb2 hR2 HG1 HR1 HB1
      go_wp2_with (refine wpList_load_gd rfl (.tmp 2) rfl w.heap.size rfl HG2.out ?_)
      refine (HS1.out w2 HR2.out).mono ?_
      rintro r w3 ⟨la, lc, rfl, hR3, hb3⟩
      have HB3 := hide (HB2.out.trans (hb3.mono HB2.out.size))
      have hmy := hR3.max
      unfold maxLen at hmy
      have hcy := hR3.cap
      clear hb3 hR3
      go_wp2_with fail
      go_ret
      exact ⟨rfl, HB3.out⟩
    · rw [if_pos e1] at hR'
      have z1 : 0 < (sps gW gH zs m).length := List.length_pos_iff.2 e1
      have g1 : ((sps gW gH zs m).length : Int) > 0 := by omega
      subst hR'
      clear e1 e2 z2
      generalize (sps gW gH zs m).length = L1 at *
      go_enter Tryd.func19, Tryd.ntmps19
      go_upto_region 1 with fail
      clear hw1
      go_wp2_with (refine wpList_load_gd rfl (.tmp 2) rfl w.heap.size rfl HG1.out ?_)
      refine (HS2.out w1 HR1.out).mono ?_
      rintro r w2 ⟨ka, kc, rfl, hR2, hb2⟩
      have HB2 := hide (HB1.out.trans (hb2.mono HB1.out.size))
      have HG2 := hide (HG1.out.below hb2 HG1.out.lt)
      have HR2 := hide (HR1.out.mono hb2)
      have hmx := hR2.max
      unfold maxLen at hmx
      have hcx := hR2.cap
      clear hb2 hR2 HG1 HR1 HB1
      go_wp2_with (refine wpList_load_gd rfl (.tmp 2) rfl w.heap.size rfl HG2.out ?_)
      refine (HS1.out w2 HR2.out).mono ?_
      rintro r w3 ⟨la, lc, rfl, hR3, hb3⟩
      have HB3 := hide (HB2.out.trans (hb3.mono HB2.out.size))
      have hmy := hR3.max
      unfold maxLen at hmy
      have hcy := hR3.cap
      clear hb3 hR3
      go_wp2_with fail
      go_ret
      exact ⟨rfl, HB3.out⟩
  · rw [if_pos e2] at hR'
    have z2 : 0 < (sps gW gH zs mo).length := List.length_pos_iff.2 e2
    have g2 : ((sps gW gH zs mo).length : Int) > 0 := by omega
    subst hR'
    clear e2 HS1
    generalize (sps gW gH zs mo).length = L2 at *
    go_enter Tryd.func19, Tryd.ntmps19
    go_upto_region 1 with fail
    clear hw1
    go_wp2_with (refine wpList_load_gd rfl (.tmp 2) rfl w.heap.size rfl HG1.out ?_)
    refine (HS2.out w1 HR1.out).mono ?_
    rintro r w2 ⟨ka, kc, rfl, hR2, hb2⟩
    have HB2 := hide (HB1.out.trans (hb2.mono HB1.out.size))
    have HG2 := hide (HG1.out.below hb2 HG1.out.lt)
    have HR2 := hide (HR1.out.mono hb2)
    have hmx := hR2.max
    unfold maxLen at hmx
    have hcx := hR2.cap
    clear hb2 hR2 HG1 HR1 HB1
    go_wp2_with fail
    go_ret
    exact ⟨rfl, HB2.out⟩

end Go.Proofs.YtkmghlmniahgbaaDoor
