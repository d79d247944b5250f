/-
  Whose an empty region is. No conditions beyond those that each theorem bears.
-/
import Derived.Test.YtafiaimlmdflnaaBo
namespace Go.Proofs.Ytafiaimlmdflnaa
open Go.RowKit Go.Shelf

/-- Places have a neighbour of such a sign. -/
def brd (W H : Nat) (Z : List Int) (G : List Nat) (v : Int) : Prop := ∃ x ∈ G.flatMap (nb4 W H), Z.getD x 0 = v
instance (W H : Nat) (Z : List Int) (G : List Nat) (v : Int) : Decidable (brd W H Z G v) := by unfold brd; infer_instance
/-- Whose they are. -/
def ow (W H : Nat) (Z : List Int) (G : List Nat) : Nat := if brd W H Z G 1 ∧ ¬ brd W H Z G 2 then 1 else if brd W H Z G 2 ∧ ¬ brd W H Z G 1 then 2 else 0
theorem ow_lt (W H : Nat) (Z : List Int) (G : List Nat) : ow W H Z G < 3 := by
  unfold ow
  split
  · omega
  · split <;> omega

attribute [local irreducible] D4 nb4 brd ow

set_option maxRecDepth 100000 in
set_option maxHeartbeats 8000000 in
theorem owner_any (W H N bc cb co : Nat) (Z : List Int) (pa : Option Addr) (pc : Nat) (G : List Nat) (w : World) (hW : 1 ≤ W ∧ W ≤ 10) (hH : 1 ≤ H ∧ H ≤ 10) (hN : W * H = N) (hG : ∀ x ∈ G, x < W * H) (hGl : G.length ≤ 100) (hG0 : 0 < G.length) (hR : Rd w (some ⟨cb, co, none⟩) N bc Z) (hP : Rd w pa G.length pc (toI G)) :
    Calls Try.prog 62 #[.agg (gdA W H (some ⟨cb, co, none⟩) N bc), .slice pa G.length pc] w fun e w' => e = .returned (.int .i64 (ow W H Z G : Nat)) ∧ Below w.heap.size w w' := by
  obtain ⟨w1, hw1⟩ : ∃ w1, w.alloc (.cells (gdA W H (some ⟨cb, co, none⟩) N bc) 54) = w1 := ⟨_, rfl⟩
  have B1 : Below w.heap.size w w1 := by rw [← hw1]; exact (Below.refl _ _).alloc (Nat.le_refl _) _
  have H1 : Hb w1 w.heap.size W H (some ⟨cb, co, none⟩) N bc := by rw [← hw1]; exact Hb.new w W H _ N bc
  have HGR : Hid (∀ W4, Below w1.heap.size w1 W4 → W4.rangeAt w.heap.size 0 [.int .i64 W, .int .i64 H, .slice (some ⟨cb, co, none⟩) N bc]) := hide (fun W4 hb => (H1.below hb H1.lt).range)
  have HRR : Hid (∀ W4, Below w1.heap.size w1 W4 → Rd W4 (some ⟨cb, co, none⟩) N bc Z) := hide (fun W4 hb => (hR.mono B1).mono hb)
  have HBO : Hid (∀ (v : Int) hb sb W4, Below w1.heap.size w1 W4 → HsR hb sb W H cb co N bc v Z W4 → Calls Try.prog 69 #[.agg (gdA W H (some ⟨cb, co, none⟩) N bc), .slice pa G.length pc, .func (.func 74) #[] #[.pointer (some ⟨hb, 0, none⟩), .pointer (some ⟨sb, 0, none⟩)]] W4 fun e w' => e = .returned (.bool (decide (brd W H Z G v))) ∧ Below W4.heap.size W4 w') := hide (fun v hb sb W4 hbl hs => by
    have := borders_any W H N bc cb co 74 _ pa pc G (fun q => Z.getD q 0 = v) W4 hW hH hN hG hGl hG0 ((hP.mono B1).mono hbl) (has_may hs)
    unfold brd
    exact this)
  have HOW : Hid (ow W H Z G = if brd W H Z G 1 ∧ ¬ brd W H Z G 2 then 1 else if brd W H Z G 2 ∧ ¬ brd W H Z G 1 then 2 else 0) := hide (by rw [ow])
  have HB1 := hide B1
  obtain ⟨gl, hgl⟩ : ∃ gl, G.length = gl := ⟨_, rfl⟩
  rw [hgl] at HBO ⊢
  clear B1 H1 hR hP hgl hGl hG0
  go_enter Try.func62, Try.ntmps62
  go_upto_region 1 with fail
  clear hw1
  refine wp_calm ?_
  refine wp_region_held (S := fun W4 => Below w1.heap.size w1 W4) (by kernel_rfl) ?_
  change wpAnyH _ _ _ _ _ _ _ _ (World.drew _)
  have SW : Below w1.heap.size w1 w1.drew := (Below.refl _ w1).drew
  refine wpAnyH_take (i := 0) (v := .agg (gdA W H (some ⟨cb, co, none⟩) N bc)) rfl (by kernel_rfl) (by kernel_rfl) (by kernel_rfl) (fun _ _ _ h => h) (yieldsIf_load_mid (by rfl) 54 _ rfl w.heap.size 0 (by rfl) [.int .i64 W, .int .i64 H, .slice (some ⟨cb, co, none⟩) N bc] _ (fun W4 hW4 => HGR.out W4 hW4) Try.underlying54 rfl size54) SW ?_
  go_simp
  refine wpAnyH_take (i := 1) (v := .slice pa gl pc) rfl (by kernel_rfl) (by kernel_rfl) (by kernel_rfl) (fun _ _ _ h => h) (Or.inl ⟨by rfl, ?_⟩) SW ?_
  · intro W4 hW4
    go_simp <;> first | done | rfl | (rw [IntKind.wrap_i64]; omega) | omega
  go_simp
  refine wpAnyH_take (i := 2) (v := .agg (gdA W H (some ⟨cb, co, none⟩) N bc)) rfl (by kernel_rfl) (by kernel_rfl) (by kernel_rfl) (fun _ _ _ h => h) (yieldsIf_load_mid (by rfl) 54 _ rfl w.heap.size 0 (by rfl) [.int .i64 W, .int .i64 H, .slice (some ⟨cb, co, none⟩) N bc] _ (fun W4 hW4 => HGR.out W4 hW4) Try.underlying54 rfl size54) SW ?_
  go_simp
  refine wpAnyH_ready (rs := [3]) (by kernel_rfl) (by simp) ?_
  refine AllReadyH.cons rfl (fun K1 hK1 => ?_) AllReadyH.nil
  go_simp
  refine (has_any W H _ N bc 1 _).mono ?_
  rintro e w2 ⟨rfl, hw2⟩
  have B2 : Below w1.heap.size w1 w2 := by rw [hw2]; exact (SW.alloc SW.size _).alloc (Nat.le_trans SW.size (by simp)) _
  have R2 := hide (HsR.new W H cb co N bc 1 Z _ (HRR.out _ SW))
  rw [← hw2] at R2
  refine hK1.out _ _ B2 (fun SW => ?_)
  clear hw2 hK1 K1
  refine wpAnyH_ready (rs := [4]) (by kernel_rfl) (by simp) ?_
  refine AllReadyH.cons rfl (fun K1 hK1 => ?_) AllReadyH.nil
  go_simp
  refine (HBO.out 1 _ _ _ SW R2.out).mono ?_
  rintro e w3 ⟨rfl, hb3⟩
  have Bw3 : Below w1.heap.size w1 w3 := SW.trans (hb3.mono SW.size)
  refine hK1.out _ _ Bw3 (fun SW => ?_)
  clear hK1 K1 hb3 R2 B2
  refine wpAnyH_take (i := 5) (v := .bool (decide (brd W H Z G 1))) rfl (by kernel_rfl) (by kernel_rfl) (by kernel_rfl) (fun _ _ _ h => h) (Or.inl ⟨by rfl, ?_⟩) SW ?_
  · intro W4 hW4
    go_simp <;> first | done | rfl | (rw [IntKind.wrap_i64]; omega) | omega
  go_simp
  refine wpAnyH_done (by kernel_rfl) ?_ _
  clear SW
  go_upto_region 2 with fail
  refine wp_calm ?_
  refine wp_region_held (S := fun W4 => Below w1.heap.size w1 W4) (by kernel_rfl) ?_
  change wpAnyH _ _ _ _ _ _ _ _ (World.drew _)
  have SW : Below w1.heap.size w1 w3.drew := Bw3.drew
  refine wpAnyH_take (i := 0) (v := .agg (gdA W H (some ⟨cb, co, none⟩) N bc)) rfl (by kernel_rfl) (by kernel_rfl) (by kernel_rfl) (fun _ _ _ h => h) (yieldsIf_load_mid (by rfl) 54 _ rfl w.heap.size 0 (by rfl) [.int .i64 W, .int .i64 H, .slice (some ⟨cb, co, none⟩) N bc] _ (fun W4 hW4 => HGR.out W4 hW4) Try.underlying54 rfl size54) SW ?_
  go_simp
  refine wpAnyH_take (i := 1) (v := .slice pa gl pc) rfl (by kernel_rfl) (by kernel_rfl) (by kernel_rfl) (fun _ _ _ h => h) (Or.inl ⟨by rfl, ?_⟩) SW ?_
  · intro W4 hW4
    go_simp <;> first | done | rfl | (rw [IntKind.wrap_i64]; omega) | omega
  go_simp
  refine wpAnyH_take (i := 2) (v := .agg (gdA W H (some ⟨cb, co, none⟩) N bc)) rfl (by kernel_rfl) (by kernel_rfl) (by kernel_rfl) (fun _ _ _ h => h) (yieldsIf_load_mid (by rfl) 54 _ rfl w.heap.size 0 (by rfl) [.int .i64 W, .int .i64 H, .slice (some ⟨cb, co, none⟩) N bc] _ (fun W4 hW4 => HGR.out W4 hW4) Try.underlying54 rfl size54) SW ?_
  go_simp
  refine wpAnyH_ready (rs := [3]) (by kernel_rfl) (by simp) ?_
  refine AllReadyH.cons rfl (fun K1 hK1 => ?_) AllReadyH.nil
  go_simp
  refine (has_any W H _ N bc 2 _).mono ?_
  rintro e w2 ⟨rfl, hw2⟩
  have B2 : Below w1.heap.size w1 w2 := by rw [hw2]; exact (SW.alloc SW.size _).alloc (Nat.le_trans SW.size (by simp)) _
  have R2 := hide (HsR.new W H cb co N bc 2 Z _ (HRR.out _ SW))
  rw [← hw2] at R2
  refine hK1.out _ _ B2 (fun SW => ?_)
  clear hw2 hK1 K1
  refine wpAnyH_ready (rs := [4]) (by kernel_rfl) (by simp) ?_
  refine AllReadyH.cons rfl (fun K1 hK1 => ?_) AllReadyH.nil
  go_simp
  refine (HBO.out 2 _ _ _ SW R2.out).mono ?_
  rintro e w4 ⟨rfl, hb3⟩
  have Bw4 : Below w1.heap.size w1 w4 := SW.trans (hb3.mono SW.size)
  refine hK1.out _ _ Bw4 (fun SW => ?_)
  clear hK1 K1 hb3 R2 B2
  refine wpAnyH_take (i := 5) (v := .bool (decide (brd W H Z G 2))) rfl (by kernel_rfl) (by kernel_rfl) (by kernel_rfl) (fun _ _ _ h => h) (Or.inl ⟨by rfl, ?_⟩) SW ?_
  · intro W4 hW4
    go_simp <;> first | done | rfl | (rw [IntKind.wrap_i64]; omega) | omega
  go_simp
  refine wpAnyH_done (by kernel_rfl) ?_ _
  clear SW
  have HB4 : Hid (Below w.heap.size w w4) := hide (HB1.out.trans (Bw4.mono HB1.out.size))
  clear HBO HGR HRR Bw3 Bw4
  by_cases b1 : brd W H Z G 1
  · by_cases b2 : brd W H Z G 2
    · rw [decide_eq_true b1, decide_eq_true b2]
      have HO : Hid (ow W H Z G = 0) := hide (by rw [HOW.out, if_neg (fun h => h.2 b2), if_neg (fun h => h.2 b1)])
      clear HOW b1 b2
      go_wp2_with fail
      go_ret
      exact ⟨by rw [HO.out]; rfl, HB4.out⟩
    · rw [decide_eq_true b1, decide_eq_false b2]
      have HO : Hid (ow W H Z G = 1) := hide (by rw [HOW.out, if_pos ⟨b1, b2⟩])
      clear HOW b1 b2
      go_wp2_with fail
      go_ret
      exact ⟨by rw [HO.out]; rfl, HB4.out⟩
  · by_cases b2 : brd W H Z G 2
    · rw [decide_eq_false b1, decide_eq_true b2]
      have HO : Hid (ow W H Z G = 2) := hide (by rw [HOW.out, if_neg (fun h => b1 h.1), if_pos ⟨b2, b1⟩])
      clear HOW b1 b2
      go_wp2_with fail
      go_ret
      exact ⟨by rw [HO.out]; rfl, HB4.out⟩
    · rw [decide_eq_false b1, decide_eq_false b2]
      have HO : Hid (ow W H Z G = 0) := hide (by rw [HOW.out, if_neg (fun h => b1 h.1), if_neg (fun h => b2 h.1)])
      clear HOW b1 b2
      go_wp2_with fail
      go_ret
      exact ⟨by rw [HO.out]; rfl, HB4.out⟩

end Go.Proofs.Ytafiaimlmdflnaa
