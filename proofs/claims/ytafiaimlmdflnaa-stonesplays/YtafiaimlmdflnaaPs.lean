/-
  The document's stone put. No conditions beyond those that each theorem bears.
-/
import Derived.Test.YtafiaimlmdflnaaPm
import Derived.Test.YtafiaimlmdflnaaGf
namespace Go.Proofs.Ytafiaimlmdflnaa
open Go.RowKit Go.Shelf

attribute [local irreducible] D4 spr rgs rgsU lib goneU gone clr grp pz pt bl yes fq

/-- A stone of the other's whose group has no liberties. -/
noncomputable def gq (W H : Nat) (Z : List Int) (v : Int) (q : Nat) : Bool := decide (Z.getD q 0 = v) && decide ((lib W H Z (grp W H Z q)).length = 0)

theorem yes_gone {W H N : Nat} {Z : List Int} {v : Int} (hN : W * H = N) : yes N (gq W H Z v) = goneR W H Z v := by
  unfold goneR
  rw [hN]
  refine yes_pls fun q _ => ?_
  unfold gq
  rw [Bool.and_eq_true, decide_eq_true_iff, decide_eq_true_iff]

attribute [local irreducible] gq goneR

set_option maxRecDepth 100000 in
set_option maxHeartbeats 8000000 in
theorem PutStone_range (W H N bc cb co m : Nat) (x : Int) (w : World) (hN1 : 0 < N) (hN : N ≤ 100) (hx : ¬ (0 ≤ x ∧ x < (N : Int))) :
    Calls Try.prog 16 #[.agg (gdA W H (some ⟨cb, co, none⟩) N bc), .int .i64 m, .int .i64 x] w fun e w' => Below w.heap.size w w' ∧ e = .returned (.tuple #[.agg (gdA 0 0 none 0 0), .int .i64 0, .int .i64 3]) := by
  obtain ⟨w1, hw1⟩ : ∃ w1, (w.alloc (.cells (gdA W H (some ⟨cb, co, none⟩) N bc) 24)).alloc (.cells (gdA 0 0 none 0 0) 24) = w1 := ⟨_, rfl⟩
  have B1 : Below w.heap.size w w1 := by rw [← hw1]; exact ((Below.refl _ w).alloc (Nat.le_refl _) _).alloc (by simp) _
  have K1 : Gd w1 w.heap.size W H (some ⟨cb, co, none⟩) N bc := by rw [← hw1]; exact (Gd.new w W H _ N bc).old _
  have K2 : Gd w1 (w.heap.size + 1) 0 0 none 0 0 := by
    rw [← hw1]
    have := Gd.new (w.alloc (.cells (gdA W H (some ⟨cb, co, none⟩) N bc) 24)) 0 0 none 0 0
    rwa [World.size_alloc] at this
  have HIP := hide (within_any x 0 ((N : Int) - 1) w1)
  rw [decide_eq_false (by omega)] at HIP
  obtain ⟨-, -, g2⟩ := K1.cells
  have HB1 := hide B1
  clear B1 K1 hx
  go_enter Try.func16, Try.ntmps16
  go_upto_region 1 with fail
  clear hw1
  go_wp2_with fail
  refine HIP.out.mono ?_
  rintro e w2 ⟨rfl, hw2⟩
  subst w2
  clear g2 HIP
  go_wp2_with (first
    | (refine wpList_store_gd rfl (.tmp 6) (.tmp 24) rfl (w.heap.size + 1) rfl rfl K2 ?_; intro w9 k9 kk9))
  exact bodyPost_ret (results_gd2 rfl _ _ (w.heap.size + 1) rfl k9 rfl rfl) rfl ⟨HB1.out.trans (kk9.below HB1.out.size (fun k hk e => by omega)), rfl⟩

set_option maxRecDepth 100000 in
set_option maxHeartbeats 8000000 in
theorem PutStone_twice (W H N bc cb co m p : Nat) (Z : List Int) (w : World) (hN : N ≤ 100) (hp : p < N) (hz : ¬ Z.getD p 0 = 0) (hR : Rd w (some ⟨cb, co, none⟩) N bc Z) :
    Calls Try.prog 16 #[.agg (gdA W H (some ⟨cb, co, none⟩) N bc), .int .i64 m, .int .i64 p] w fun e w' => Below w.heap.size w w' ∧ e = .returned (.tuple #[.agg (gdA 0 0 none 0 0), .int .i64 0, .int .i64 6]) := by
  have hp' : (p : Int) < (N : Int) := by omega
  have hcap := hR.cap
  have hmx : bc ≤ 9223372036854775807 := by have := hR.max; unfold maxLen at this; omega
  obtain ⟨w1, hw1⟩ : ∃ w1, (w.alloc (.cells (gdA W H (some ⟨cb, co, none⟩) N bc) 24)).alloc (.cells (gdA 0 0 none 0 0) 24) = w1 := ⟨_, rfl⟩
  have B1 : Below w.heap.size w w1 := by rw [← hw1]; exact ((Below.refl _ w).alloc (Nat.le_refl _) _).alloc (by simp) _
  have K1 : Gd w1 w.heap.size W H (some ⟨cb, co, none⟩) N bc := by rw [← hw1]; exact (Gd.new w W H _ N bc).old _
  have K2 : Gd w1 (w.heap.size + 1) 0 0 none 0 0 := by
    rw [← hw1]
    have := Gd.new (w.alloc (.cells (gdA W H (some ⟨cb, co, none⟩) N bc) 24)) 0 0 none 0 0
    rwa [World.size_alloc] at this
  have HIP := hide (within_any p 0 ((N : Int) - 1) w1)
  rw [decide_eq_true (by omega)] at HIP
  obtain ⟨-, -, g2⟩ := K1.cells
  have cz := ((hR.mono B1).cell hp).2
  have HB1 := hide B1
  obtain ⟨z, hzz⟩ : ∃ z, Z.getD p 0 = z := ⟨_, rfl⟩
  rw [hzz] at cz hz
  have hne : (z != 0) = true := by simpa using hz
  clear B1 K1 hR hzz
  go_enter Try.func16, Try.ntmps16
  go_upto_region 1 with fail
  clear hw1
  go_wp2_with fail
  refine HIP.out.mono ?_
  rintro e w2 ⟨rfl, hw2⟩
  subst w2
  clear HIP
  go_wp2_with (first
    | (refine wpList_store_gd rfl (.tmp 6) (.tmp 31) rfl (w.heap.size + 1) rfl rfl K2 ?_; intro w9 k9 kk9))
  exact bodyPost_ret (results_gd2 rfl _ _ (w.heap.size + 1) rfl k9 rfl rfl) rfl ⟨HB1.out.trans (kk9.below HB1.out.size (fun k hk e => by omega)), rfl⟩

set_option maxRecDepth 100000 in
set_option maxHeartbeats 16000000 in
theorem PutStone_any (W H N bc cb co m p : Nat) (Z : List Int) (w : World) (hW : 1 ≤ W ∧ W ≤ 10) (hH : 1 ≤ H ∧ H ≤ 10) (hN : W * H = N) (hp : p < N) (hm : m = 1 ∨ m = 2) (hz : Z.getD p 0 = 0) (hR : Rd w (some ⟨cb, co, none⟩) N bc Z) :
    Calls Try.prog 16 #[.agg (gdA W H (some ⟨cb, co, none⟩) N bc), .int .i64 m, .int .i64 p] w fun e w' => Below w.heap.size w w' ∧ ((pok W H Z m p ∧ ∃ cb' bc', e = .returned (.tuple #[.agg (gdA W H (some ⟨cb', 0, none⟩) N bc'), .int .i64 (pt W H Z m p : Nat), .int .i64 0]) ∧ Bw w' cb' N bc' (pz W H Z m p) ∧ w.heap.size ≤ cb') ∨ (¬ pok W H Z m p ∧ e = .returned (.tuple #[.agg (gdA 0 0 none 0 0), .int .i64 0, .int .i64 8]))) := by
  have hN100 : N ≤ 100 := by rw [← hN]; exact Nat.mul_le_mul hW.2 hH.2
  have hp' : (p : Int) < (N : Int) := by omega
  have hcap := hR.cap
  have hmx : bc ≤ 9223372036854775807 := by have := hR.max; unfold maxLen at this; omega
  have hm3 : m ≤ 2 := by omega
  have HZL := hide hR.len
  have HGC : Hid (clr (Z.set p (m : Int)) (goneR W H (Z.set p (m : Int)) ((3 - m : Nat) : Int)) = pz W H Z m p) := hide (by rw [pz, gone_clr _ (by rw [List.length_set, HZL.out, hN])])
  have HGT : Hid ((goneR W H (Z.set p (m : Int)) ((3 - m : Nat) : Int)).length = pt W H Z m p) := hide (by rw [pt, gone_len])
  have HPK : Hid (pok W H Z m p ↔ ¬ (lib W H (pz W H Z m p) (grp W H (pz W H Z m p) p)).length = 0) := hide (by rw [pok])
  obtain ⟨w1, hw1⟩ : ∃ w1, (w.alloc (.cells (gdA W H (some ⟨cb, co, none⟩) N bc) 24)).alloc (.cells (gdA 0 0 none 0 0) 24) = w1 := ⟨_, rfl⟩
  have B1 : Below w.heap.size w w1 := by rw [← hw1]; exact ((Below.refl _ w).alloc (Nat.le_refl _) _).alloc (by simp) _
  have s1 : w1.heap.size = w.heap.size + 2 := by rw [← hw1]; simp
  have K1 : Gd w1 w.heap.size W H (some ⟨cb, co, none⟩) N bc := by rw [← hw1]; exact (Gd.new w W H _ N bc).old _
  have K2 : Gd w1 (w.heap.size + 1) 0 0 none 0 0 := by
    rw [← hw1]
    have := Gd.new (w.alloc (.cells (gdA W H (some ⟨cb, co, none⟩) N bc) 24)) 0 0 none 0 0
    rwa [World.size_alloc] at this
  have HIP := hide (within_any p 0 ((N : Int) - 1) w1)
  rw [decide_eq_true (by omega)] at HIP
  obtain ⟨-, -, g2⟩ := K1.cells
  have R1 := hR.mono B1
  have cz := (R1.cell hp).2
  rw [hz] at cz
  have HGO := hide (GridOf_own W H (some ⟨cb, co, none⟩) N bc Z w1 R1 (by omega))
  have HB1 := hide B1
  have HS1 := hide s1
  have HK2 := hide K2
  clear B1 s1 K2 hR R1
  go_enter Try.func16, Try.ntmps16
  go_upto_region 1 with fail
  clear hw1
  go_wp2_with fail
  refine HIP.out.mono ?_
  rintro e w2 ⟨rfl, hw2⟩
  subst w2
  clear HIP
  go_wp2_with (first | (refine wpList_load_gd rfl (.tmp 3) rfl w.heap.size rfl K1 ?_) | fail)
  refine HGO.out.mono ?_
  rintro e w3 ⟨a3, c2, rfl, hO3, hb3⟩
  obtain ⟨g, cc, hv, hgb⟩ := own_some hO3 (by omega)
  simp only [Value.slice.injEq] at hv
  obtain ⟨rfl, -, rfl⟩ := hv
  have HBW3 : Hid (Bw w3 g N c2 Z) := hide (own_base hO3 (Nat.zero_le _))
  have HG : Hid (w.heap.size + 2 ≤ g ∧ g < w3.heap.size) := hide (by have := hO3.lt g rfl; have := HS1.out; omega)
  have HK23 := hide (HK2.out.below hb3 HK2.out.lt)
  have HB3 : Hid (Below w.heap.size w w3) := hide (HB1.out.trans (hb3.mono HB1.out.size))
  clear hO3 hb3 HGO g2 cz K1 HK2 HB1 HS1 hgb
  obtain ⟨w4, hw4⟩ : ∃ w4, w3.alloc (.cells (gdA W H (some ⟨g, 0, none⟩) N c2) 24) = w4 := ⟨_, rfl⟩
  have B4 : Below w3.heap.size w3 w4 := by rw [← hw4]; exact (Below.refl _ _).alloc (Nat.le_refl _) _
  have s4 : Hid (w4.heap.size = w3.heap.size + 1) := hide (by rw [← hw4]; simp)
  have HN0 : Hid (Gd w4 w3.heap.size W H (some ⟨g, 0, none⟩) N c2) := hide (by rw [← hw4]; exact Gd.new w3 W H _ N c2)
  have HBW4 := hide (HBW3.out.mono B4)
  have HK24 := hide (HK23.out.below B4 HK23.out.lt)
  have HB4 : Hid (Below w.heap.size w w4) := hide (HB3.out.trans (B4.mono HB3.out.size))
  have HW4 := hide hw4
  clear hw4 B4 HBW3 HK23
  go_upto_region 6 with fail
  rw [HW4.out]
  clear HW4
  obtain ⟨-, -, g2⟩ := HN0.out.cells
  have cx := (HBW4.out.rd.cell hp).2
  rw [Nat.zero_add] at cx
  have fx := HBW4.out.frozen p
  have hcc : N ≤ c2 := HBW4.out.rd.cap
  have hcm : c2 ≤ 9223372036854775807 := by have := HBW4.out.rd.max; unfold maxLen at this; omega
  obtain ⟨w5, hw5⟩ : ∃ w5, w4.setCell ⟨g, p, none⟩ (.int .i64 m) = w5 := ⟨_, rfl⟩
  have k45 : Keeps (fun k => k = g) w4 w5 := by rw [← hw5]; exact Keeps.set1 _ _ _ _
  have HBW5 : Hid (Bw w5 g N c2 (Z.set p (m : Int))) := hide (by rw [← hw5]; exact HBW4.out.set p m)
  have hgn := HG.out
  have HN5 := hide (HN0.out.keeps k45 (by omega))
  have HK25 := hide (HK24.out.keeps k45 (by omega))
  have HB5 : Hid (Below w.heap.size w w5) := hide (HB4.out.trans (k45.below HB4.out.size (fun k hk e => by omega)))
  have s5 : Hid (w3.heap.size + 1 ≤ w5.heap.size) := hide (by have := k45.size; have := s4.out; omega)
  have HW5 := hide hw5
  clear hw5 k45 HBW4 HN0 HK24 HB4 hgn
  go_upto_region 7 with fail
  rw [HW5.out]
  clear HW5 cx fx g2
  have HYG : Hid (yes N (gq W H (Z.set p (m : Int)) ((3 - m : Nat) : Int)) = goneR W H (Z.set p (m : Int)) ((3 - m : Nat) : Int)) := hide (yes_gone hN)
  have HGQ : Hid (∀ i, gq W H (Z.set p (m : Int)) ((3 - m : Nat) : Int) i = (decide ((Z.set p (m : Int)).getD i 0 = ((3 - m : Nat) : Int)) && decide ((lib W H (Z.set p (m : Int)) (grp W H (Z.set p (m : Int)) i)).length = 0))) := hide (fun i => by rw [gq])
  have HGF := hide (fun i (hi : i < N) W4 Y (hr : Rd W4 (some ⟨g, 0, none⟩) N c2 Y) => GroupOf_any W H N c2 g 0 i Y W4 hW hH hN hi hr)
  have HLB : Hid (∀ Y G, (lib W H Y G).length ≤ 100) := hide (fun Y G => by have := lib_len W H Y G; rw [hN] at this; omega)
  obtain ⟨Z1, hZ1⟩ : ∃ Z1, Z.set p (m : Int) = Z1 := ⟨_, rfl⟩
  rw [hZ1] at HBW5 HYG HGQ HGC HGT
  have hv3 : (3 : Int) - (m : Int) = ((3 - m : Nat) : Int) := by omega
  obtain ⟨v3, hv3e⟩ : ∃ v3 : Nat, 3 - m = v3 := ⟨_, rfl⟩
  rw [hv3e] at hv3 HYG HGQ HGC HGT
  have hv3b : v3 ≤ 3 := by omega
  clear hZ1 hv3e
  go_wp2_with fail
  go_loopw [10, 11, 12, 13] (fun v u _ _ wr => ∃ j : Nat, u = .int .i64 j ∧ j ≤ N ∧ Hid (wr.ownsRow w5.heap.size 3 1 v (yes j (gq W H Z1 v3)).length ((toI (yes j (gq W H Z1 v3))).map (Value.int .i64))) ∧ Hid (Below w5.heap.size w5 wr)) (fun _ u _ _ _ => N - (intOf u).toNat)
  case atStart => exact ⟨0, rfl, by omega, hide (by rw [show yes 0 (gq W H Z1 v3) = [] by rw [yes]; rfl]; exact World.ownsRow_nil _ _ _ _), hide (Below.refl _ _)⟩
  case round =>
    obtain ⟨j, rfl, hjN, hO, hB⟩ := hrel
    have hg := HN5.out.below hB.out HN5.out.lt
    obtain ⟨-, -, g2⟩ := hg.cells
    by_cases hj : j < N
    · have hj' : (j : Int) < (N : Int) := by omega
      have cz := ((HBW5.out.mono hB.out).rd.cell hj).2
      rw [Nat.zero_add] at cz
      obtain ⟨z, hz⟩ : ∃ z, Z1.getD j 0 = z := ⟨_, rfl⟩
      rw [hz] at cz
      have HFJ := hide (HGQ.out j)
      rw [hz] at HFJ
      clear hz
      by_cases hz0 : z = (v3 : Int)
      · subst hz0
        have HC := hide (HGF.out j hj wr Z1 (HBW5.out.mono hB.out).rd)
        have hll := HLB.out Z1 (grp W H Z1 j)
        obtain ⟨ll, hle⟩ : ∃ ll, (lib W H Z1 (grp W H Z1 j)).length = ll := ⟨_, rfl⟩
        rw [hle] at hll HC
        have HLE := hide hle
        clear hle
        go_wp2_with (first | (refine wpList_load_gd rfl (.tmp 9) rfl w3.heap.size rfl hg ?_) | fail)
        refine HC.out.mono ?_
        rintro e w6 ⟨pa, pc, la, lc, rfl, hR6, hL6, hb6⟩
        have hlc : ll ≤ lc := hL6.cap
        have O6 := own_below hO.out hb6
        have HB6 : Hid (Below w5.heap.size w5 w6) := hide (hB.out.trans (hb6.mono hB.out.size))
        clear hR6 hL6 hb6 HC hg g2 cz hO
        by_cases hl0 : ll = 0
        · subst hl0
          have HY : Hid (yes (j + 1) (gq W H Z1 v3) = yes j (gq W H Z1 v3) ++ [j]) := hide (yes_succ_y (by rw [HFJ.out, HLE.out]; simp))
          have O6a := O6.alloc (.cells #[.int .i64 j] 3)
          have N6a := one_rd w6 j
          have hyl := yes_len j (gq W H Z1 v3)
          have HO6 := hide O6
          obtain ⟨yl, hyle⟩ : ∃ yl, (yes j (gq W H Z1 v3)).length = yl := ⟨_, rfl⟩
          rw [hyle] at O6a hyl
          have HYE := hide hyle
          have HB6a : Hid (Below w5.heap.size w5 (w6.alloc (.cells #[.int .i64 j] 3))) := hide (HB6.out.alloc HB6.out.size _)
          have hbs : w5.heap.size ≤ (w6.alloc (.cells #[.int .i64 j] 3)).heap.size := HB6a.out.size
          clear hyle O6 HFJ
          go_wp2_with (at_builtin; refine wpList_append_i _ rfl _ _ rfl w5.heap.size _ yl _ rfl O6a ⟨w6.heap.size, 0, none⟩ 1 1 [(j : Int)] rfl N6a (by omega) (by omega) hbs ?_)
          intro v' w7 hO7 hg7 _
          have HO7 : Hid (w7.ownsRow w5.heap.size 3 1 v' (yes (j + 1) (gq W H Z1 v3)).length ((toI (yes (j + 1) (gq W H Z1 v3))).map (Value.int .i64))) := hide (by
            rw [HY.out, List.length_append, List.length_singleton, HYE.out, toI_snoc, List.map_append]
            exact hO7)
          have HB7 : Hid (Below w5.heap.size w5 w7) := hide (HB6a.out.grown hg7 HB6a.out.size (fun k hk => (HO6.out.lt k hk).1))
          clear hO7 hg7 O6a N6a hbs
          go_wp2_with fail
          exact ⟨⟨j + 1, rfl, by omega, HO7, HB7⟩, by simp only [intOf]; omega⟩
        · have hlb : ((ll : Int) == 0) = false := by simpa using hl0
          have HY : Hid (yes (j + 1) (gq W H Z1 v3) = yes j (gq W H Z1 v3)) := hide (yes_succ_n (by rw [HFJ.out, HLE.out]; simp [hl0]))
          have HO6 := hide O6
          clear O6 HFJ hl0
          go_wp2_with fail
          exact ⟨⟨j + 1, rfl, by omega, hide (by rw [HY.out]; exact HO6.out), HB6⟩, by simp only [intOf]; omega⟩
      · have hzb : (z == (v3 : Int)) = false := by simpa using hz0
        have HY : Hid (yes (j + 1) (gq W H Z1 v3) = yes j (gq W H Z1 v3)) := hide (yes_succ_n (by rw [HFJ.out, decide_eq_false hz0]; rfl))
        clear hz0 HFJ hg
        go_wp2_with fail
        exact ⟨⟨j + 1, rfl, by omega, hide (by rw [HY.out]; exact hO.out), hB⟩, by simp only [intOf]; omega⟩
    · obtain rfl : j = N := by omega
      obtain ⟨wo, rfl⟩ : ∃ wo, wo = wr := ⟨_, rfl⟩
      rw [HYG.out] at hO
      obtain ⟨a', c', hv'⟩ := slice_form hO.out
      subst hv'
      have HR' := hide (Rd.of_own hO.out)
      have HOG : Hid (∀ b off, a' = some ⟨b, off, none⟩ → w5.heap.size ≤ b) := hide (fun b off e => by
        have h1 := hO.out
        subst e
        rcases h1.2 with ⟨hv, _⟩ | ⟨g', cap, cur, hv, hb, _⟩
        · cases hv
        · simp only [Value.slice.injEq, Option.some.injEq, Addr.mk.injEq] at hv
          rw [hv.1.1]; exact hb)
      have HGRM : Hid (∀ q ∈ goneR W H Z1 v3, q < j) := hide (fun q hq => by rw [goneR] at hq; have := (mem_pls.1 hq).1; rw [hN] at this; exact this)
      obtain ⟨GR, hGR⟩ : ∃ GR, goneR W H Z1 v3 = GR := ⟨_, rfl⟩
      rw [hGR] at HR' HGRM HGC HGT
      have hgc : GR.length ≤ c' := HR'.out.cap
      have hgm : c' ≤ 9223372036854775807 := by have := HR'.out.max; unfold maxLen at this; omega
      have HBWr := hide (HBW5.out.mono hB.out)
      have HGDr := hide hg
      have HPTE := hide HGT.out
      rw [hGR]
      obtain ⟨gl, hgl⟩ : ∃ gl, GR.length = gl := ⟨_, rfl⟩
      rw [hgl] at HR' hgc HPTE ⊢
      have HGLE := hide hgl
      have hglb : gl ≤ 100 := by
        have h1 : GR.length ≤ j := by rw [← hGR, goneR]; exact Nat.le_trans (pls_len _ _) (by omega)
        omega
      have HKR : Hid (Below w.heap.size w wo) := hide (HB5.out.trans (hB.out.mono HB5.out.size))
      have HK2r := hide (HK25.out.below hB.out HK25.out.lt)
      clear hGR hgl hO hg HYG HGQ hB HBW5 HN5 HK25 HB5
      go_wp2_with fail
      clear g2
      go_loopw [14] (fun u wq => ∃ i : Nat, u = .int .i64 i ∧ i ≤ gl ∧ Hid (Bw wq g j c2 (clr Z1 (GR.take i))) ∧ Hid (Keeps (fun k => k = g) wo wq)) (fun u _ => gl - (intOf u).toNat)
      case atStart => exact ⟨0, rfl, by omega, hide (by rw [List.take_zero, clr_nil]; exact HBWr.out), hide (Keeps.refl _ _)⟩
      case round =>
        obtain ⟨i, rfl, hil, hBq, hKq⟩ := hrel
        have zg := HG.out
        have z5 := s5.out
        by_cases hi : i < gl
        · have hi' : (i : Int) < (gl : Int) := by omega
          have HGQ2 : Hid (∀ W4, Keeps (fun k => k = g) wo W4 → W4.cell? ⟨w3.heap.size, 2, none⟩ = some (.slice (some ⟨g, 0, none⟩) j c2)) := hide (fun W4 hk => (HGDr.out.keeps hk (by omega)).cells.2.2)
          obtain ⟨gb2, go2, rfl, hcell⟩ := HR'.out.cells (by omega)
          have hgb2 := HOG.out gb2 go2 rfl
          have HCI : Hid (∀ W4, Keeps (fun k => k = g) wo W4 → W4.cell? ⟨gb2, go2 + i, none⟩ = some (.int .i64 (GR.getD i 0 : Nat))) := hide (fun W4 hk => by
            refine (hk.cell (hcell i hi) (fun e => by dsimp only at e; omega)).trans ?_
            rw [toI_getD (by rw [HGLE.out]; exact hi)])
          have hx : GR.getD i 0 < j := HGRM.out _ (getD_memN (by rw [HGLE.out]; exact hi))
          have HTK : Hid (GR.take (i + 1) = GR.take i ++ [GR.getD i 0]) := hide (by
            have hh : i < GR.length := by rw [HGLE.out]; exact hi
            rw [List.take_succ_eq_append_getElem hh]
            simp [List.getD, hh])
          obtain ⟨x, hxx⟩ : ∃ x, GR.getD i 0 = x := ⟨_, rfl⟩
          rw [hxx] at HCI hx HTK
          have hx' : (x : Int) < (j : Int) := by omega
          have Bd := hBq.out.mono (show Below (World.heap _).size _ _ from (Below.refl _ _).drew)
          have cx := (Bd.rd.cell hx).2
          rw [Nat.zero_add] at cx
          have fx := Bd.frozen x
          have HK0 := hide hKq.out
          have HV3 := hide (Bd.set x 0)
          rw [← clr_snoc, ← HTK.out] at HV3
          clear hcell hxx zg z5 hBq hKq Bd
          go_upto_region 18 with fail
          refine wp_region_held (S := fun W4 => Keeps (fun k => k = g) wo W4) (by kernel_rfl) ?_
          change wpAnyH _ _ _ _ _ _ _ _ (World.drew _)
          have SW := HK0.out.drew
          refine wpAnyH_take (i := 0) (v := .pointer (some ⟨w3.heap.size, 2, none⟩)) rfl (by kernel_rfl) (by kernel_rfl) (by kernel_rfl) (fun _ _ _ h => h) (Or.inl ⟨by rfl, ?_⟩) SW ?_
          · intro W4 hW4
            go_simp <;> first | done | rfl | (rw [IntKind.wrap_i64]; omega) | omega
          go_simp
          refine wpAnyH_take (i := 1) (v := .slice (some ⟨g, 0, none⟩) j c2) rfl (by kernel_rfl) (by kernel_rfl) (by kernel_rfl) (fun _ _ _ h => h) (Or.inl ⟨by rfl, ?_⟩) SW ?_
          · intro W4 hW4
            have x0 := HGQ2.out W4 hW4
            go_simp <;> first | done | rfl | (rw [IntKind.wrap_i64]; omega) | omega
          go_simp
          refine wpAnyH_take (i := 2) (v := .slice (some ⟨gb2, go2, none⟩) gl c') rfl (by kernel_rfl) (by kernel_rfl) (by kernel_rfl) (fun _ _ _ h => h) (Or.inl ⟨by rfl, ?_⟩) SW ?_
          · intro W4 hW4
            go_simp <;> first | done | rfl | (rw [IntKind.wrap_i64]; omega) | omega
          go_simp
          refine wpAnyH_take (i := 3) (v := .int .i64 i) rfl (by kernel_rfl) (by kernel_rfl) (by kernel_rfl) (fun _ _ _ h => h) (Or.inl ⟨by rfl, ?_⟩) SW ?_
          · intro W4 hW4
            go_simp <;> first | done | rfl | (rw [IntKind.wrap_i64]; omega) | omega
          go_simp
          refine wpAnyH_take (i := 4) (v := .pointer (some ⟨gb2, go2 + i, none⟩)) rfl (by kernel_rfl) (by kernel_rfl) (by kernel_rfl) (fun _ _ _ h => h) (Or.inl ⟨by rfl, ?_⟩) SW ?_
          · intro W4 hW4
            go_simp <;> first | done | rfl | (rw [IntKind.wrap_i64]; omega) | omega
          go_simp
          refine wpAnyH_take (i := 5) (v := .int .i64 (x : Nat)) rfl (by kernel_rfl) (by kernel_rfl) (by kernel_rfl) (fun _ _ _ h => h) (Or.inl ⟨by rfl, ?_⟩) SW ?_
          · intro W4 hW4
            have x0 := HCI.out W4 hW4
            go_simp <;> first | done | rfl | (rw [IntKind.wrap_i64]; omega) | omega
          go_simp
          refine wpAnyH_take (i := 6) (v := .pointer (some ⟨g, x, none⟩)) rfl (by kernel_rfl) (by kernel_rfl) (by kernel_rfl) (fun _ _ _ h => h) (Or.inl ⟨by rfl, ?_⟩) SW ?_
          · intro W4 hW4
            go_simp <;> first | done | rfl | (rw [IntKind.wrap_i64]; omega) | omega
          go_simp
          refine wpAnyH_ready (rs := [7]) (by kernel_rfl) (by simp) ?_
          refine AllReadyH.cons rfl (fun K1 hK1 => ?_) AllReadyH.nil
          go_simp
          have k9 : Keeps (fun k => k = g) wo _ := SW.trans (Keeps.set1 _ g x (.int .i64 0))
          refine hK1.out _ _ k9 (fun SW9 => ?_)
          clear hK1 K1 SW cx fx
          refine wpAnyH_done (by kernel_rfl) ?_ _
          have HK9 := hide SW9
          clear SW9 k9
          go_wp2_with fail
          exact ⟨⟨i + 1, rfl, by omega, HV3, HK9⟩, by simp only [intOf]; omega⟩
        · obtain rfl : i = gl := by omega
          have HBq : Hid (Bw _ g j c2 (pz W H Z m p)) := hide (by
            have := hBq.out
            rw [List.take_of_length_le (by rw [HGLE.out]; exact Nat.le_refl _), HGC.out] at this
            exact this)
          have hgq := HGDr.out.keeps hKq.out (by omega)
          have HGq := hide hgq
          have HK2q := hide (HK2r.out.keeps hKq.out (by omega))
          have HBLq : Hid (Below w.heap.size w _) := hide (HKR.out.trans (hKq.out.below HKR.out.size (fun k hk e => by omega)))
          have HC := hide (HGF.out p hp _ _ HBq.out.rd)
          have hll := HLB.out (pz W H Z m p) (grp W H (pz W H Z m p) p)
          obtain ⟨ll, hle⟩ : ∃ ll, (lib W H (pz W H Z m p) (grp W H (pz W H Z m p) p)).length = ll := ⟨_, rfl⟩
          rw [hle] at hll HC HPK
          clear hle hBq hKq zg z5
          go_wp2_with (first | (refine wpList_load_gd rfl (.tmp 9) rfl w3.heap.size rfl hgq ?_) | fail)
          refine HC.out.mono ?_
          rintro e w6 ⟨pa, pc, la, lc, rfl, hR6, hL6, hb6⟩
          have hlc : ll ≤ lc := hL6.cap
          have hg6 := HGq.out.below hb6 HGq.out.lt
          have K8 := HK2q.out.below hb6 HK2q.out.lt
          have HBW6 := hide (HBq.out.mono hb6)
          have HB6 : Hid (Below w.heap.size w w6) := hide (HBLq.out.trans (hb6.mono HBLq.out.size))
          clear hR6 hL6 hb6 HC hgq
          by_cases hl0 : ll = 0
          · subst hl0
            go_wp2_with (first
              | (refine wpList_store_gd rfl (.tmp 6) (.tmp 89) rfl (w.heap.size + 1) rfl rfl K8 ?_; intro w9 k9 kk9))
            exact bodyPost_ret (results_gd2 rfl _ _ (w.heap.size + 1) rfl k9 rfl rfl) rfl ⟨HB6.out.trans (kk9.below HB6.out.size (fun k hk e => by omega)), .inr ⟨fun h => (HPK.out.1 h) (by first | trivial | rfl), rfl⟩⟩
          · have hlb : ((ll : Int) == 0) = false := by simpa using hl0
            go_wp2_with (first
              | refine wpList_load_gd rfl (.tmp 9) rfl w3.heap.size rfl hg6 ?_
              | (refine wpList_store_gd rfl (.tmp 6) (.tmp 90) rfl (w.heap.size + 1) rfl rfl K8 ?_; intro w9 k9 kk9))
            have zg := HG.out
            exact bodyPost_ret (results_gd2 rfl _ _ (w.heap.size + 1) rfl k9 rfl rfl) rfl ⟨HB6.out.trans (kk9.below HB6.out.size (fun k hk e => by omega)), .inl ⟨HPK.out.2 hl0, g, c2, by rw [← HPTE.out]; rfl, HBW6.out.keeps kk9 (by omega), by omega⟩⟩

theorem PutStone_all (W H N bc cb co m : Nat) (x : Int) (Z : List Int) (w : World) (hW : 1 ≤ W ∧ W ≤ 10) (hH : 1 ≤ H ∧ H ≤ 10) (hN : W * H = N) (hm : m = 1 ∨ m = 2) (hR : Rd w (some ⟨cb, co, none⟩) N bc Z) :
    Calls Try.prog 16 #[.agg (gdA W H (some ⟨cb, co, none⟩) N bc), .int .i64 m, .int .i64 x] w (PutIs W H N Z m x w) := by
  have hN100 : N ≤ 100 := by rw [← hN]; exact Nat.mul_le_mul hW.2 hH.2
  have hN1 : 0 < N := by rw [← hN]; exact Nat.mul_pos (by omega) (by omega)
  by_cases hx : 0 ≤ x ∧ x < (N : Int)
  · obtain ⟨p, rfl⟩ := Int.eq_ofNat_of_zero_le hx.1
    have hp : p < N := by omega
    by_cases hz : Z.getD p 0 = 0
    · refine (PutStone_any W H N bc cb co m p Z w hW hH hN hp hm hz hR).mono ?_
      rintro e w' ⟨hb, h⟩
      refine ⟨hb, ?_⟩
      have hpe : pE W H Z m (p : Int) = (open Classical in if pok W H Z m p then 0 else 8) := by
        unfold pE
        rw [hN, if_pos hx, Int.toNat_natCast, if_pos hz]
      rcases h with ⟨h1, cb', bc', h2, h3, h4⟩ | ⟨h1, h2⟩
      · rw [hpe, if_pos h1]
        exact .inl ⟨rfl, ⟨hx.1, hx.2, hz, h1⟩, cb', bc', h2, h3, h4⟩
      · rw [hpe, if_neg h1]
        exact .inr ⟨by omega, h2⟩
    · refine (PutStone_twice W H N bc cb co m p Z w hN100 hp hz hR).mono ?_
      rintro e w' ⟨hb, h⟩
      have hpe : pE W H Z m (p : Int) = 6 := by
        unfold pE
        rw [hN, if_pos hx, Int.toNat_natCast, if_neg hz]
      exact ⟨hb, .inr ⟨by omega, by rw [hpe]; exact h⟩⟩
  · refine (PutStone_range W H N bc cb co m x w hN1 hN100 hx).mono ?_
    rintro e w' ⟨hb, h⟩
    have hpe : pE W H Z m x = 3 := by
      unfold pE
      rw [hN, if_neg hx]
    exact ⟨hb, .inr ⟨by omega, by rw [hpe]; exact h⟩⟩

end Go.Proofs.Ytafiaimlmdflnaa
