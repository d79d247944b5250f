/-
  The document's group of a stone and its liberties. No conditions beyond those that each theorem bears.
-/
import Derived.Test.YtafiaimlmdflnaaRr
import Derived.Test.YtafiaimlmdflnaaFc
namespace Go.Proofs.Ytafiaimlmdflnaa
open Go.RowKit Go.Shelf

theorem results_t2 {fn : Func} {t u : Tmp} (h : fn.results = #[.tmp t, .tmp u]) (tmps : Array Value) (w : World) {v1 v2 : Value} (h1 : tmps.getD t undef = v1) (h2 : tmps.getD u undef = v2) :
    (results fn tmps).run Try.prog w = .ok (.tuple #[v1, v2]) w := by
  have e1 : tmps[t]?.getD undef = v1 := by simpa using h1
  have e2 : tmps[u]?.getD undef = v2 := by simpa using h2
  simp [results, h, e1, e2]

/-- A place that is empty and beside one of a row. -/
def fq (W N : Nat) (Z : List Int) (S : Nat → Bool) (i : Nat) : Bool := decide (Z.getD i 0 = 0) && decide (∃ k, k < N ∧ S k = true ∧ adj W k i)

theorem yes_grp {W H N : Nat} {Z : List Int} {p : Nat} {S : Nat → Bool} (hN : W * H = N) (h : ∀ q, q < N → (S q = true ↔ Wk N (nb4 W H) (fun q => (decide (Z.getD q 0 = Z.getD p 0) != false) = true) p q)) : yes N S = grp W H Z p := by
  unfold grp spr
  rw [hN]
  refine yes_pls fun q hq => (h q hq).trans ?_
  exact ⟨fun hw => hw.mono fun q _ h => by simpa using h, fun hw => hw.mono fun q _ h => by simpa using h⟩

theorem yes_lib {W H N : Nat} {Z : List Int} {p : Nat} {S : Nat → Bool} (hN : W * H = N) (h : yes N S = grp W H Z p) : yes N (fq W N Z S) = lib W H Z (grp W H Z p) := by
  unfold lib
  rw [hN]
  refine yes_pls fun q hq => ?_
  unfold fq
  rw [Bool.and_eq_true, decide_eq_true_iff, decide_eq_true_iff]
  refine and_congr_right fun _ => ?_
  constructor
  · rintro ⟨k, h1, h2, h3⟩
    refine ⟨k, ?_, nb4_iff.2 ⟨by rw [hN]; exact hq, h3⟩⟩
    rw [← h]
    unfold yes
    exact List.mem_filter.2 ⟨List.mem_range.2 h1, h2⟩
  · rintro ⟨k, h1, h2⟩
    rw [← h] at h1
    unfold yes at h1
    obtain ⟨h3, h4⟩ := List.mem_filter.1 h1
    exact ⟨k, List.mem_range.1 h3, h4, (nb4_iff.1 h2).2⟩

attribute [local irreducible] D4 bl yes grp lib fq

set_option maxRecDepth 100000 in
set_option maxHeartbeats 8000000 in
theorem GroupOf_any (W H N bc cb co p : Nat) (Z : List Int) (w : World) (hW : 1 ≤ W ∧ W ≤ 10) (hH : 1 ≤ H ∧ H ≤ 10) (hN : W * H = N) (hp : p < N) (hR : Rd w (some ⟨cb, co, none⟩) N bc Z) :
    Calls Try.prog 14 #[.agg (gdA W H (some ⟨cb, co, none⟩) N bc), .int .i64 p] w fun e w' => ∃ a d a' d', e = .returned (.tuple #[.slice a (grp W H Z p).length d, .slice a' (lib W H Z (grp W H Z p)).length d']) ∧ Rd w' a (grp W H Z p).length d (toI (grp W H Z p)) ∧ Rd w' a' (lib W H Z (grp W H Z p)).length d' (toI (lib W H Z (grp W H Z p))) ∧ Below w.heap.size w w' := by
  have hN100 : N ≤ 100 := by rw [← hN]; exact Nat.mul_le_mul hW.2 hH.2
  have hcap := hR.cap
  have hmx : bc ≤ 9223372036854775807 := by have := hR.max; unfold maxLen at this; omega
  obtain ⟨w1, hw1⟩ : ∃ w1, w.alloc (.cells (gdA W H (some ⟨cb, co, none⟩) N bc) 24) = w1 := ⟨_, rfl⟩
  have B1 : Below w.heap.size w w1 := by rw [← hw1]; exact (Below.refl _ _).alloc (Nat.le_refl _) _
  have G1 : Gd w1 w.heap.size W H (some ⟨cb, co, none⟩) N bc := by rw [← hw1]; exact Gd.new w W H _ N bc
  have R1 := hR.mono B1
  have HGR : Hid (∀ W4, Below w1.heap.size w1 W4 → W4.rangeAt w.heap.size 0 [.int .i64 W, .int .i64 H, .slice (some ⟨cb, co, none⟩) N bc]) := hide (fun W4 hb => (G1.below hb G1.lt).range)
  have HGC : Hid (∀ W4, Below w1.heap.size w1 W4 → W4.cell? ⟨w.heap.size, 2, none⟩ = some (.slice (some ⟨cb, co, none⟩) N bc)) := hide (fun W4 hb => (G1.below hb G1.lt).cells.2.2)
  have HCZ : Hid (∀ W4, Below w1.heap.size w1 W4 → W4.cell? ⟨cb, co + p, none⟩ = some (.int .i64 (Z.getD p 0))) := hide (fun W4 hb => ((R1.mono hb).cell hp).2)
  have HRR : Hid (∀ W4, Below w1.heap.size w1 W4 → Rd W4 (some ⟨cb, co, none⟩) N bc Z) := hide (fun W4 hb => R1.mono hb)
  have HMK := hide (fun W4 (hb : Below w1.heap.size w1 W4) => marks_any W H cb co N bc Z (Z.getD p 0) false W4 hN100 (R1.mono hb))
  have HRO := hide (fun mg W4 (hm : Bm W4 mg N (fun q => decide (Z.getD q 0 = Z.getD p 0) != false)) => regionOf_any W H (some ⟨cb, co, none⟩) N bc p mg _ W4 hW hH hN hp (by simp) hm)
  have HYG := hide (fun S h => yes_grp (W := W) (H := H) (N := N) (Z := Z) (p := p) (S := S) hN h)
  have HB1 := hide B1
  have HG1 := hide G1
  obtain ⟨zp, hzp⟩ : ∃ zp, Z.getD p 0 = zp := ⟨_, rfl⟩
  rw [hzp] at HCZ HMK HRO HYG
  have hp' : (p : Int) < (N : Int) := by omega
  clear B1 G1 R1 hR hzp
  go_enter Try.func14, Try.ntmps14
  go_upto_region 1 with fail
  clear hw1
  refine wp_calm ?_
  refine wp_region_held (S := fun W4 => Below w1.heap.size w1 W4) (by kernel_rfl) ?_
  change wpAnyH _ _ _ _ _ _ _ _ (World.drew _)
  have SW : Below w1.heap.size w1 w1.drew := (Below.refl _ w1).drew
  refine wpAnyH_take (i := 0) (v := .agg (gdA W H (some ⟨cb, co, none⟩) N bc)) rfl (by kernel_rfl) (by kernel_rfl) (by kernel_rfl) (fun _ _ _ h => h) (yieldsIf_load_mid (by rfl) 24 _ rfl w.heap.size 0 (by rfl) [.int .i64 W, .int .i64 H, .slice (some ⟨cb, co, none⟩) N bc] _ (fun W4 hW4 => HGR.out W4 hW4) Try.underlying24 rfl size24) SW ?_
  go_simp
  refine wpAnyH_take (i := 1) (v := .int .i64 p) rfl (by kernel_rfl) (by kernel_rfl) (by kernel_rfl) (fun _ _ _ h => h) (Or.inl ⟨by rfl, ?_⟩) SW ?_
  · intro W4 hW4
    go_simp <;> first | done | rfl | (rw [IntKind.wrap_i64]; omega) | omega
  go_simp
  refine wpAnyH_take (i := 2) (v := .agg (gdA W H (some ⟨cb, co, none⟩) N bc)) rfl (by kernel_rfl) (by kernel_rfl) (by kernel_rfl) (fun _ _ _ h => h) (yieldsIf_load_mid (by rfl) 24 _ rfl w.heap.size 0 (by rfl) [.int .i64 W, .int .i64 H, .slice (some ⟨cb, co, none⟩) N bc] _ (fun W4 hW4 => HGR.out W4 hW4) Try.underlying24 rfl size24) SW ?_
  go_simp
  refine wpAnyH_take (i := 3) (v := .pointer (some ⟨w.heap.size, 2, none⟩)) rfl (by kernel_rfl) (by kernel_rfl) (by kernel_rfl) (fun _ _ _ h => h) (Or.inl ⟨by rfl, ?_⟩) SW ?_
  · intro W4 hW4
    go_simp <;> first | done | rfl | (rw [IntKind.wrap_i64]; omega) | omega
  go_simp
  refine wpAnyH_take (i := 4) (v := .slice (some ⟨cb, co, none⟩) N bc) rfl (by kernel_rfl) (by kernel_rfl) (by kernel_rfl) (fun _ _ _ h => h) (Or.inl ⟨by rfl, ?_⟩) SW ?_
  · intro W4 hW4
    have x0 := HGC.out W4 hW4
    go_simp <;> first | done | rfl | (rw [IntKind.wrap_i64]; omega) | omega
  go_simp
  refine wpAnyH_take (i := 5) (v := .int .i64 p) rfl (by kernel_rfl) (by kernel_rfl) (by kernel_rfl) (fun _ _ _ h => h) (Or.inl ⟨by rfl, ?_⟩) SW ?_
  · intro W4 hW4
    go_simp <;> first | done | rfl | (rw [IntKind.wrap_i64]; omega) | omega
  go_simp
  refine wpAnyH_take (i := 6) (v := .pointer (some ⟨cb, co + p, none⟩)) rfl (by kernel_rfl) (by kernel_rfl) (by kernel_rfl) (fun _ _ _ h => h) (Or.inl ⟨by rfl, ?_⟩) SW ?_
  · intro W4 hW4
    go_simp <;> first | done | rfl | (rw [IntKind.wrap_i64]; omega) | omega
  go_simp
  refine wpAnyH_take (i := 7) (v := .int .i64 zp) rfl (by kernel_rfl) (by kernel_rfl) (by kernel_rfl) (fun _ _ _ h => h) (Or.inl ⟨by rfl, ?_⟩) SW ?_
  · intro W4 hW4
    have x0 := HCZ.out W4 hW4
    go_simp <;> first | done | rfl | (rw [IntKind.wrap_i64]; omega) | omega
  go_simp
  refine wpAnyH_ready (rs := [8]) (by kernel_rfl) (by simp) ?_
  refine AllReadyH.cons rfl (fun K1 hK1 => ?_) AllReadyH.nil
  go_simp
  refine (HMK.out _ SW).mono ?_
  rintro e w2 ⟨mg, rfl, hM2, hmg, hb2⟩
  have B2 : Below w1.heap.size w1 w2 := SW.trans (hb2.mono SW.size)
  refine hK1.out _ _ B2 (fun SW => ?_)
  have HM2 := hide hM2
  clear hK1 K1 hb2 hM2 hmg
  refine wpAnyH_ready (rs := [9]) (by kernel_rfl) (by simp) ?_
  refine AllReadyH.cons rfl (fun K1 hK1 => ?_) AllReadyH.nil
  go_simp
  refine (HRO.out mg _ HM2.out).mono ?_
  rintro e w3 ⟨g, S, rfl, hS3, hSw, hg3, hb3⟩
  have B3 : Below w1.heap.size w1 w3 := SW.trans (hb3.mono SW.size)
  refine hK1.out _ _ B3 (fun SW => ?_)
  have HS3 := hide hS3
  have HYS := hide (HYG.out S hSw)
  have HB3 := hide B3
  clear hK1 K1 hb3 hS3 hSw hg3 B2 HM2 B3
  refine wpAnyH_take (i := 10) (v := .slice (some ⟨g, 0, none⟩) N N) rfl (by kernel_rfl) (by kernel_rfl) (by kernel_rfl) (fun _ _ _ h => h) (Or.inl ⟨by rfl, ?_⟩) SW ?_
  · intro W4 hW4
    go_simp <;> first | done | rfl | (rw [IntKind.wrap_i64]; omega) | omega
  go_simp
  refine wpAnyH_done (by kernel_rfl) ?_ _
  clear SW
  have HYL := hide (yes_lib (Z := Z) (p := p) hN HYS.out)
  have HBA := hide (fun i (hi : i < N) W4 (hm : Bm W4 g N S) => besideAny_any W H (some ⟨cb, co, none⟩) N bc i g S W4 hW hN100 (by omega) hm)
  have HFQ : Hid (∀ i, fq W N Z S i = (decide (Z.getD i 0 = 0) && decide (∃ k, k < N ∧ S k = true ∧ adj W k i))) := hide (fun i => by rw [fq])
  clear HGR HGC HCZ HMK HRO HYG
  go_wp2_with fail
  go_loopw [7, 8] (fun v u wr => ∃ j : Nat, u = .int .i64 j ∧ j ≤ N ∧ Hid (wr.ownsRow w3.heap.size 3 1 v (yes j (fq W N Z S)).length ((toI (yes j (fq W N Z S))).map (Value.int .i64))) ∧ Hid (Below w3.heap.size w3 wr)) (fun _ u _ => N - (intOf u).toNat)
  case atStart => exact ⟨0, rfl, by omega, hide (by rw [show yes 0 (fq W N Z S) = [] by rw [yes]; rfl]; exact World.ownsRow_nil _ _ _ _), hide (Below.refl _ _)⟩
  case round =>
    obtain ⟨j, rfl, hjN, hO, hB⟩ := hrel
    have HBW : Hid (Below w1.heap.size w1 wr) := hide (HB3.out.trans (hB.out.mono HB3.out.size))
    by_cases hj : j < N
    · have hj' : (j : Int) < (N : Int) := by omega
      have hg := HG1.out.below HBW.out HG1.out.lt
      obtain ⟨-, -, g2⟩ := hg.cells
      have cz := ((HRR.out wr HBW.out).cell hj).2
      obtain ⟨z, hz⟩ : ∃ z, Z.getD j 0 = z := ⟨_, rfl⟩
      rw [hz] at cz
      have HFJ := hide (HFQ.out j)
      rw [hz] at HFJ
      clear hz
      by_cases hz0 : z = 0
      · subst hz0
        have HC := hide (HBA.out j hj wr (HS3.out.mono hB.out))
        by_cases hbd : ∃ k, k < N ∧ S k = true ∧ adj W k j
        · rw [decide_eq_true hbd] at HC
          have HY : Hid (yes (j + 1) (fq W N Z S) = yes j (fq W N Z S) ++ [j]) := hide (yes_succ_y (by rw [HFJ.out, decide_eq_true hbd]; rfl))
          clear hbd HFJ
          go_wp2_with (first | (refine wpList_load_gd rfl (.tmp 2) rfl w.heap.size rfl hg ?_) | fail)
          refine HC.out.mono ?_
          rintro e w5 ⟨rfl, hb5⟩
          have O5 := own_below hO.out hb5
          have HB5 : Hid (Below w3.heap.size w3 w5) := hide (hB.out.trans (hb5.mono hB.out.size))
          have HB5a : Hid (Below w3.heap.size w3 (w5.alloc (.cells #[.int .i64 j] 3))) := hide (HB5.out.alloc HB5.out.size _)
          have O5a := O5.alloc (.cells #[.int .i64 j] 3)
          have N5a := one_rd w5 j
          have hyl := yes_len j (fq W N Z S)
          have HO5 := hide O5
          obtain ⟨yl, hyle⟩ : ∃ yl, (yes j (fq W N Z S)).length = yl := ⟨_, rfl⟩
          rw [hyle] at O5a hyl
          have HYE := hide hyle
          have hbs : w3.heap.size ≤ (w5.alloc (.cells #[.int .i64 j] 3)).heap.size := HB5a.out.size
          clear hyle O5 hb5 HC hg g2 cz hO
          go_wp2_with (at_builtin; refine wpList_append_i _ rfl _ _ rfl w3.heap.size _ yl _ rfl O5a ⟨w5.heap.size, 0, none⟩ 1 1 [(j : Int)] rfl N5a (by omega) (by omega) hbs ?_)
          intro v' w6 hO6 hg6 _
          have HO6 : Hid (w6.ownsRow w3.heap.size 3 1 v' (yes (j + 1) (fq W N Z S)).length ((toI (yes (j + 1) (fq W N Z S))).map (Value.int .i64))) := hide (by
            rw [HY.out, List.length_append, List.length_singleton, HYE.out, toI_snoc, List.map_append]
            exact hO6)
          have HB6 : Hid (Below w3.heap.size w3 w6) := hide (HB5a.out.grown hg6 HB5a.out.size (fun k hk => (HO5.out.lt k hk).1))
          clear hO6 hg6 O5a N5a hbs
          go_wp2_with fail
          exact ⟨⟨j + 1, rfl, by omega, HO6, HB6⟩, by simp only [intOf]; omega⟩
        · rw [decide_eq_false hbd] at HC
          have HY : Hid (yes (j + 1) (fq W N Z S) = yes j (fq W N Z S)) := hide (yes_succ_n (by rw [HFJ.out, decide_eq_false hbd]; rfl))
          clear hbd HFJ
          go_wp2_with (first | (refine wpList_load_gd rfl (.tmp 2) rfl w.heap.size rfl hg ?_) | fail)
          refine HC.out.mono ?_
          rintro e w5 ⟨rfl, hb5⟩
          have HO5 := hide (own_below hO.out hb5)
          have HB5 : Hid (Below w3.heap.size w3 w5) := hide (hB.out.trans (hb5.mono hB.out.size))
          clear hb5 HC hg g2 cz hO
          go_wp2_with fail
          exact ⟨⟨j + 1, rfl, by omega, hide (by rw [HY.out]; exact HO5.out), HB5⟩, by simp only [intOf]; omega⟩
      · have hzb : (z == 0) = false := by simpa using hz0
        have HY : Hid (yes (j + 1) (fq W N Z S) = yes j (fq W N Z S)) := hide (yes_succ_n (by rw [HFJ.out, decide_eq_false hz0]; rfl))
        clear hz0 HFJ hg
        go_wp2_with fail
        exact ⟨⟨j + 1, rfl, by omega, hide (by rw [HY.out]; exact hO.out), hB⟩, by simp only [intOf]; omega⟩
    · obtain rfl : j = N := by omega
      obtain ⟨a', c', rfl⟩ := slice_form hO.out
      have HC := hide (listOf_any j g S wr hN100 (HS3.out.mono hB.out))
      rw [HYS.out] at HC
      have HR' := hide (Rd.of_own hO.out)
      rw [HYL.out] at HR' 
      obtain ⟨GL, hGL⟩ : ∃ GL, (yes j (fq W j Z S)).length = GL := ⟨_, rfl⟩
      have HGLE : Hid (GL = (lib W H Z (grp W H Z p)).length) := hide (by rw [← hGL, HYL.out])
      rw [hGL]
      clear hGL hO
      go_wp2_with fail
      refine HC.out.mono ?_
      rintro e w6 ⟨a, c, rfl, hO6, hb6⟩
      have HO6 := hide (Rd.of_own hO6)
      have HR6 := hide (HR'.out.mono hb6)
      have HB6 : Hid (Below w.heap.size w w6) := hide (HB1.out.trans ((HBW.out.trans (hb6.mono HBW.out.size)).mono HB1.out.size))
      clear hO6 hb6 HC
      go_wp2_with fail
      exact bodyPost_ret (results_t2 rfl _ _ rfl rfl) rfl ⟨a, c, a', c', by rw [HGLE.out]; rfl, HO6.out, HR6.out, HB6.out⟩

end Go.Proofs.Ytafiaimlmdflnaa
