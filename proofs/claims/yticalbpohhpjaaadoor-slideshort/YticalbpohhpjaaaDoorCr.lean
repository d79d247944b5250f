/-
  Whether a tray can be brought home, and how many moves it needs at the least, as the document reckons it. No conditions beyond those that each theorem bears.
-/
import Derived.Test.YticalbpohhpjaaaDoorHo
namespace Go.Proofs.YticalbpohhpjaaaDoor
open Go.RowKit

/-- Where each home place's stone stands. -/
def ordL (zs : List Int) (n : Nat) : List Int := (List.range n).map fun i => ix zs (((i + 1) % n : Nat) : Int)

theorem ordL_length (zs : List Int) (n : Nat) : (ordL zs n).length = n := by simp [ordL]
theorem ordL_at (zs : List Int) (n i : Nat) (h : i < n) : (ordL zs n).getD i 0 = ix zs (((i + 1) % n : Nat) : Int) := by simp [ordL, List.getD, h]

/-- The document's answer. -/
def canR (zs : List Int) (W H n g : Nat) : Bool := decide (signN (pairs (ordL zs n)) = 1) == decide (((W : Int) - 1 - (g % W : Nat) + H - 1 - (g / W : Nat)) % 2 = 0)

set_option maxHeartbeats 8000000 in
theorem SlideCan_any (W H : Nat) (a : Option Addr) (n c g : Nat) (zs : List Int) (w : World) (h : Rd w a n c zs) (hu : 2 ≤ W ∧ W ≤ 5) (hv : 2 ≤ H ∧ H ≤ 5) (hN : W * H = zs.length) (ho : IsOrd zs) (hg : ix zs 0 = g) (hgn : g < n) :
    Calls Tryd.prog 17 #[.agg (gdA W H a n c)] w fun e w' => e = .returned (.bool (canR zs W H n g)) ∧ Below w.heap.size w w' := by
  have hlen := h.len
  have hb := len_bd hu hv (hN.trans hlen)
  have hNn : W * H = n := hN.trans hlen
  obtain ⟨w1, hw1⟩ : ∃ w1, w.alloc (.cells (gdA W H a n c) 24) = w1 := ⟨_, rfl⟩
  have B1 : Below w.heap.size w w1 := by rw [← hw1]; exact (Below.refl _ _).alloc (Nat.le_refl _) _
  have HB1 := hide B1
  have K1 : Gd w1 w.heap.size W H a n c := by rw [← hw1]; exact Gd.new _ _ _ _ _ _
  have HR1 := hide (h.mono B1)
  have HO := hide ho
  have hs1 : w.heap.size < w1.heap.size := by rw [← hw1]; simp
  clear h B1 ho
  go_enter Tryd.func17, Tryd.ntmps17
  go_upto_region 1 with fail
  clear hw1
  obtain ⟨g0, g1, g2⟩ := K1.cells
  go_wp2_with fail
  refine (SlideHome_any W H n w1 hu hv hNn).mono ?_
  rintro e w2 ⟨ha, hc, rfl, hRh, hb2⟩
  have K12 := K1.below hb2 hs1
  have HB2 := hide (HB1.out.trans (hb2.mono HB1.out.size))
  have HR2 := hide (HR1.out.mono hb2)
  have HH2 := hide hRh
  have hs2 := hb2.size
  clear K1 HB1 HR1 hb2 hRh g0 g1 g2
  go_upto_region 2 with fail
  obtain ⟨w3, hw3⟩ : ∃ w3, w2.alloc (Obj.cells (gdA W H ha n hc) 24) = w3 := ⟨_, rfl⟩
  rw [hw3]
  have B23 : Below w2.heap.size w2 w3 := by rw [← hw3]; exact (Below.refl _ w2).alloc (Nat.le_refl _) _
  have K3 : Gd w3 w2.heap.size W H ha n hc := by rw [← hw3]; exact Gd.new _ _ _ _ _ _
  have K13 := K12.below B23 (by omega)
  have HB3 := hide (HB2.out.trans (B23.mono HB2.out.size))
  have HR3 := hide (HR2.out.mono B23)
  have HH3 := hide (HH2.out.mono B23)
  have hs3 : w2.heap.size < w3.heap.size := by rw [← hw3]; simp
  generalize hht : w2.heap.size = ht at *
  clear hw3 HB2 HR2 HH2 B23 hht K12
  obtain ⟨zb, zoff, rfl, hzc⟩ := HR3.out.cells (by omega)
  obtain ⟨hb', hoff, rfl, hhc⟩ := HH3.out.cells (by omega)
  have HZC := hide hzc
  have HHC := hide hhc
  have hcapz := HR3.out.cap
  have hmaxz := HR3.out.max
  have hcaph := HH3.out.cap
  have hmaxh := HH3.out.max
  unfold maxLen at hmaxz hmaxh
  have hzb : zb < w3.heap.size := World.block_lt_of_cell? w3 _ (hzc 0 (by omega))
  have hhb : hb' < w3.heap.size := World.block_lt_of_cell? w3 _ (hhc 0 (by omega))
  clear hzc hhc
  have HLO := hide (ordL_length zs n)
  have HLA : Hid (∀ i, i < n → (ordL zs n).getD i 0 = ix zs (((i + 1) % n : Nat) : Int)) := hide (ordL_at zs n)
  have HHL : Hid (∀ i, i < n → (homeL n).getD i 0 = (((i + 1) % n : Nat) : Int)) := hide (homeL_at n)
  have hcr : Hid (canR zs W H n g = (decide (signN (pairs (ordL zs n)) = 1) == decide (((W : Int) - 1 - (g % W : Nat) + H - 1 - (g / W : Nat)) % 2 = 0))) := hide rfl
  go_wp2_with fail
  go_loopw [4, 5] (fun v s wr => ∃ (j cp : Nat) (ad : Option Addr), v = .slice ad j cp ∧ s = .int .i64 j ∧ j ≤ n ∧ Hid (wr.ownsRow w3.heap.size 3 1 (.slice ad j cp) j (((ordL zs n).take j).map (Value.int .i64))) ∧ Hid (Keeps (fun k => w3.heap.size ≤ k) w3 wr)) (fun _ s _ => n - (intOf s).toNat)
  case atStart => exact ⟨0, 0, none, rfl, rfl, by omega, hide (World.ownsRow_nil _ _ _ _), hide (Keeps.refl _ _)⟩
  case round =>
    obtain ⟨j, cp, ad, rfl, rfl, hj, hL, hK⟩ := hrel
    have K1r := K13.keeps hK.out (by omega)
    have K3r := K3.keeps hK.out (by omega)
    obtain ⟨p0, p1, p2⟩ := K3r.cells
    by_cases hjn : j < n
    · have hlt' : (j : Int) < (n : Int) := by omega
      obtain ⟨x, hx⟩ : ∃ x, (homeL n).getD j 0 = x := ⟨_, rfl⟩
      have HXX := hide hx
      obtain ⟨y, hy⟩ : ∃ y, ix zs x = y := ⟨_, rfl⟩
      have HY := hide hy
      have HTS : Hid ((ordL zs n).take (j + 1) = (ordL zs n).take j ++ [y]) := hide (by rw [take_snoc _ _ (by rw [HLO.out]; exact hjn), HLA.out j hjn, ← hy, ← hx, HHL.out j hjn])
      clear hx hy
      have HRr := hide (HR3.out.keeps hK.out (fun b off e => by cases e; omega))
      go_upto_region 6 with fail
      have KD : Keeps (fun k => w3.heap.size ≤ k) w3 wr.drew := hK.out.drew
      refine wp_region_held (S := fun W4 => Keeps (fun k => w3.heap.size ≤ k) w3 W4) (by kernel_rfl) ?_
      change wpAnyH _ _ _ _ _ _ _ _ (World.drew _)
      have SW := KD
      refine wpAnyH_take (i := 0) (v := .slice ad j cp) rfl (by kernel_rfl) (by kernel_rfl) (by kernel_rfl) (fun _ _ _ h => h) (Or.inl ⟨by rfl, ?_⟩) SW ?_
      · intro W4 hW4
        go_simp <;> first | done | rfl | (rw [IntKind.wrap_i64]; omega) | omega
      go_simp
      refine wpAnyH_take (i := 1) (v := .pointer (some ⟨w.heap.size, 2, none⟩)) rfl (by kernel_rfl) (by kernel_rfl) (by kernel_rfl) (fun _ _ _ h => h) (Or.inl ⟨by rfl, ?_⟩) SW ?_
      · intro W4 hW4
        go_simp <;> first | done | rfl | (rw [IntKind.wrap_i64]; omega) | omega
      go_simp
      refine wpAnyH_take (i := 2) (v := .slice (some ⟨zb, zoff, none⟩) n c) rfl (by kernel_rfl) (by kernel_rfl) (by kernel_rfl) (fun _ _ _ h => h) (Or.inl ⟨by rfl, ?_⟩) SW ?_
      · intro W4 hW4
        have hc := (K13.keeps hW4 (by omega)).cells
        go_simp <;> first | done | rfl | (rw [IntKind.wrap_i64]; omega) | omega
      go_simp
      refine wpAnyH_take (i := 3) (v := .pointer (some ⟨ht, 2, none⟩)) rfl (by kernel_rfl) (by kernel_rfl) (by kernel_rfl) (fun _ _ _ h => h) (Or.inl ⟨by rfl, ?_⟩) SW ?_
      · intro W4 hW4
        go_simp <;> first | done | rfl | (rw [IntKind.wrap_i64]; omega) | omega
      go_simp
      refine wpAnyH_take (i := 4) (v := .slice (some ⟨hb', hoff, none⟩) n hc) rfl (by kernel_rfl) (by kernel_rfl) (by kernel_rfl) (fun _ _ _ h => h) (Or.inl ⟨by rfl, ?_⟩) SW ?_
      · intro W4 hW4
        have hc := (K3.keeps hW4 (by omega)).cells
        go_simp <;> first | done | rfl | (rw [IntKind.wrap_i64]; omega) | omega
      go_simp
      refine wpAnyH_take (i := 5) (v := .int .i64 j) rfl (by kernel_rfl) (by kernel_rfl) (by kernel_rfl) (fun _ _ _ h => h) (Or.inl ⟨by rfl, ?_⟩) SW ?_
      · intro W4 hW4
        go_simp <;> first | done | rfl | (rw [IntKind.wrap_i64]; omega) | omega
      go_simp
      refine wpAnyH_take (i := 6) (v := .pointer (some ⟨hb', hoff + j, none⟩)) rfl (by kernel_rfl) (by kernel_rfl) (by kernel_rfl) (fun _ _ _ h => h) (Or.inl ⟨by rfl, ?_⟩) SW ?_
      · intro W4 hW4
        go_simp <;> first | done | rfl | (rw [IntKind.wrap_i64]; omega) | omega
      go_simp
      refine wpAnyH_take (i := 7) (v := .int .i64 x) rfl (by kernel_rfl) (by kernel_rfl) (by kernel_rfl) (fun _ _ _ h => h) (Or.inl ⟨by rfl, ?_⟩) SW ?_
      · intro W4 hW4
        have hc := hW4.cell (HHC.out j hjn) (by show ¬ w3.heap.size ≤ hb'; omega)
        rw [HXX.out] at hc
        go_simp <;> first | done | rfl | (rw [IntKind.wrap_i64]; omega) | omega
      go_simp
      refine wpAnyH_ready (rs := [8]) (by kernel_rfl) (by simp) ?_
      refine AllReadyH.cons rfl (fun K1 hK1 => ?_) AllReadyH.nil
      go_simp
      refine (at_any _ n c zs x _ (HRr.out.keeps (X := fun _ => False) (Keeps.refl _ _).drew (fun _ _ _ h => h))).mono ?_
      rintro e w5 ⟨rfl, hw5⟩
      subst w5
      refine hK1.out _ _ SW (fun SW => ?_)
      clear hK1 K1
      rw [HY.out]
      go_simp
      refine wpAnyH_ready (rs := [9]) (by kernel_rfl) (by simp) ?_
      refine AllReadyH.cons rfl (fun K1 hK1 => ?_) AllReadyH.nil
      go_simp
      refine hK1.out _ _ (KD.alloc _) (fun SW => ?_)
      clear hK1 K1
      go_simp
      have hR1 : Rd (World.alloc wr.drew (.cells #[.int .i64 y] 3)) (some ⟨wr.heap.size, 0, none⟩) 1 1 [y] := Rd.of_blk (Blk.new wr.drew 3 [y] _ rfl) rfl (by decide)
      have hOa := (own_below hL.out (Below.refl _ wr).drew).alloc (.cells #[.int .i64 y] 3)
      have hsz : w3.heap.size ≤ (World.alloc wr.drew (.cells #[.int .i64 y] 3)).heap.size := by have := hK.out.size; rw [World.size_alloc]; exact Nat.le_succ_of_le this
      refine wpAnyH_ready (rs := [10]) (by kernel_rfl) (by simp) ?_
      refine AllReadyH.cons rfl (fun K1 hK1 => ?_) AllReadyH.nil
      rw [if_pos (by rfl)]
      refine wp_append_rd _ _ _ rfl w3.heap.size _ j ((ordL zs n).take j) rfl hOa (some ⟨wr.heap.size, 0, none⟩) 1 1 [y] rfl hR1 (by omega) hsz ?_
      intro v' w6 hO6 hg6
      obtain ⟨ad6, cp6, rfl⟩ := slice_form hO6
      have K6 : Keeps (fun k => w3.heap.size ≤ k) w3 w6 := (KD.alloc _).trans ⟨hg6.os, hg6.tape, hg6.output, hg6.size, fun i hi hx => hg6.block i hi (fun e => hx (by first | exact (hL.out.lt _ e).1 | exact (hL.out.lt _ e.symm).1))⟩
      have HO6 := hide hO6
      refine hK1.out _ _ K6 (fun SW => ?_)
      clear hK1 K1 hO6 hg6 hR1 hOa
      go_simp
      refine wpAnyH_ready (rs := [11]) (by kernel_rfl) (by simp) ?_
      refine AllReadyH.cons rfl (fun K1 hK1 => ?_) AllReadyH.nil
      go_simp
      refine hK1.out _ _ SW (fun SW => ?_)
      clear hK1 K1
      go_simp
      refine wpAnyH_done (by kernel_rfl) ?_ _
      have HL7 : Hid (w6.ownsRow w3.heap.size 3 1 (.slice ad6 (j + 1) cp6) (j + 1) (((ordL zs n).take (j + 1)).map (Value.int .i64))) := hide (by rw [HTS.out]; exact HO6.out)
      have HK7 := hide K6
      clear K6 SW HO6 K1r K3r p0 p1 p2 HRr
      go_wp2_with fail
      exact ⟨⟨j + 1, cp6, ad6, rfl, by go_num, by omega, HL7, HK7⟩, by simp [intOf]; omega⟩
    · obtain rfl : j = n := by omega
      have hlt' : ¬ (j : Int) < (j : Int) := by omega
      have HBr : Hid (Below w.heap.size w wr) := hide (HB3.out.trans ((hK.out.mono (Y := fun q => w.heap.size ≤ q) (fun q _ e => by omega)).below (B := w.heap.size) HB3.out.size (fun q hq e => by omega)))
      have HRo : Hid (Rd wr ad j cp (ordL zs j)) := hide (by have := hL.out; rw [List.take_of_length_le (by rw [HLO.out]; exact Nat.le_refl _)] at this; exact Rd.of_own this)
      have HRz := hide (HR3.out.keeps hK.out (fun b off e => by cases e; omega))
      obtain ⟨q0, q1, q2⟩ := K1r.cells
      go_wp2_with fail
      refine (at_any _ j c zs 0 _ HRz.out).mono ?_
      rintro e wx ⟨rfl, hwx⟩
      subst wx
      rw [hg]
      have hX : g % W < W := Nat.mod_lt _ (by omega)
      have hY : g / W < H := Nat.div_lt_of_lt_mul (by omega)
      have hm : (g : Int) % (W : Int) = ((g % W : Nat) : Int) := by simp
      have hdv : (g : Int) / (W : Int) = ((g / W : Nat) : Int) := by simp
      generalize g % W = X at *
      generalize g / W = Y at *
      have hW0 : ¬ (W : Int) = 0 := by omega
      clear p0 p1 p2 K3r
      go_upto_region 8 with fail
      go_quiet (fail)
      go_wp2_with fail
      refine (SignOf_any ad j cp (ordL zs j) _ (HRo.out.mono (drewN_below _ _ _))).mono ?_
      rintro e w8 ⟨rfl, q, rfl⟩
      have hsg := signN_bd (pairs (ordL zs j))
      generalize hSG : signN (pairs (ordL zs j)) = SG at *
      have HSG := hide hSG
      clear hSG
      obtain ⟨b1, hb1⟩ : ∃ b1, decide (SG = 1) = b1 := ⟨_, rfl⟩
      obtain ⟨wy, hwy⟩ : ∃ wy : Nat, (W : Int) - 1 - X + H - 1 - Y = wy := ⟨(W - 1 - X) + (H - 1 - Y), by omega⟩
      have hwy2 : wy ≤ 10 := by omega
      obtain ⟨b2, hb2⟩ : ∃ b2, decide ((wy : Int) % 2 = 0) = b2 := ⟨_, rfl⟩
      have e1 : (SG == 1) = b1 := by rw [← hb1, Bool.eq_iff_iff, beq_iff_eq, decide_eq_true_iff]
      have e2 : ((wy : Int) % 2 == 0) = b2 := by rw [← hb2, Bool.eq_iff_iff, beq_iff_eq, decide_eq_true_iff]
      have HA : Hid (canR zs W H j g = (b1 == b2)) := hide (by rw [hcr.out, hwy, hb1, hb2])
      clear hb1 hb2 hcr
      go_wp2_with fail
      go_ret
      exact ⟨ret_bool HA.out.symm, HBr.out.trans (drewN_below _ _ _)⟩


/-- The ways of the first stones, added as the document does. -/
def lsr (W : Nat) (zs : List Int) (k : Nat) : Nat := sumTo (fun i => dst W (ix zs ((i + 1 : Nat) : Int)).toNat i) k

theorem lsr_succ (W : Nat) (zs : List Int) (k : Nat) : lsr W zs (k + 1) = lsr W zs k + dst W (ix zs ((k + 1 : Nat) : Int)).toNat k := rfl

theorem ix_home {n j : Nat} (h : j + 1 < n) : ix (homeL n) ((j + 1 : Nat) : Int) = j := by
  refine ix_found (k := j) (by rw [homeL_length]; omega) ?_ (fun i hi => ?_)
  · rw [homeL_at n j (by omega), Nat.mod_eq_of_lt h]
  · rw [homeL_at n i (by omega), Nat.mod_eq_of_lt (by omega)]
    omega

theorem ix_ord {zs : List Int} (ho : IsOrd zs) {n s : Nat} (hn : zs.length = n) (hs : s < n) : ∃ p : Nat, ix zs (s : Int) = p ∧ p < n ∧ zs.getD p 0 = (s : Int) := by
  obtain ⟨p, e, hl, hz⟩ := ix_at (ho.mem s (by omega))
  exact ⟨p, e, by omega, hz⟩

theorem lsr_le {W : Nat} {zs : List Int} {n k : Nat} (hW : 2 ≤ W ∧ W ≤ 5) (ho : IsOrd zs) (hn : zs.length = n) (hb : n ≤ 25) (hk : k + 1 ≤ n) : lsr W zs k ≤ 750 := by
  have := sumTo_le (fun i => dst W (ix zs ((i + 1 : Nat) : Int)).toNat i) k 30 (fun i hi => by
    obtain ⟨p, e, hp, -⟩ := ix_ord ho hn (show i + 1 < n by omega)
    rw [e, Int.toNat_natCast]
    exact dst_le (by omega) (by omega) hW)
  unfold lsr
  omega

set_option maxHeartbeats 8000000 in
theorem SlideLeast_any (W H : Nat) (a : Option Addr) (n c : Nat) (zs : List Int) (w : World) (h : Rd w a n c zs) (hu : 2 ≤ W ∧ W ≤ 5) (hv : 2 ≤ H ∧ H ≤ 5) (hN : W * H = zs.length) (ho : IsOrd zs) :
    Calls Tryd.prog 18 #[.agg (gdA W H a n c)] w fun e w' => e = .returned (.int .i64 (lsr W zs (n - 1) : Nat)) ∧ Below w.heap.size w w' := by
  have hlen := h.len
  have hb := len_bd hu hv (hN.trans hlen)
  have hNn : W * H = n := hN.trans hlen
  obtain ⟨w1, hw1⟩ : ∃ w1, w.alloc (.cells (gdA W H a n c) 24) = w1 := ⟨_, rfl⟩
  have B1 : Below w.heap.size w w1 := by rw [← hw1]; exact (Below.refl _ _).alloc (Nat.le_refl _) _
  have HB1 := hide B1
  have K1 : Gd w1 w.heap.size W H a n c := by rw [← hw1]; exact Gd.new _ _ _ _ _ _
  have HR1 := hide (h.mono B1)
  have HO := hide ho
  have hs1 : w.heap.size < w1.heap.size := by rw [← hw1]; simp
  clear h B1 ho
  go_enter Tryd.func18, Tryd.ntmps18
  go_upto_region 1 with fail
  clear hw1
  obtain ⟨g0, g1, g2⟩ := K1.cells
  go_wp2_with fail
  refine (SlideHome_any W H n w1 hu hv hNn).mono ?_
  rintro e w2 ⟨ha, hc, rfl, hRh, hb2⟩
  have K12 := K1.below hb2 hs1
  have HB2 := hide (HB1.out.trans (hb2.mono HB1.out.size))
  have HR2 := hide (HR1.out.mono hb2)
  have HH2 := hide hRh
  have hs2 := hb2.size
  clear K1 HB1 HR1 hb2 hRh g0 g1 g2
  go_upto_region 2 with fail
  obtain ⟨w3, hw3⟩ : ∃ w3, w2.alloc (Obj.cells (gdA W H ha n hc) 24) = w3 := ⟨_, rfl⟩
  rw [hw3]
  have B23 : Below w2.heap.size w2 w3 := by rw [← hw3]; exact (Below.refl _ w2).alloc (Nat.le_refl _) _
  have K3 : Gd w3 w2.heap.size W H ha n hc := by rw [← hw3]; exact Gd.new _ _ _ _ _ _
  have K13 := K12.below B23 (by omega)
  have HB3 := hide (HB2.out.trans (B23.mono HB2.out.size))
  have HR3 := hide (HR2.out.mono B23)
  have HH3 := hide (HH2.out.mono B23)
  have hs3 : w2.heap.size < w3.heap.size := by rw [← hw3]; simp
  generalize hht : w2.heap.size = ht at *
  clear hw3 HB2 HR2 HH2 B23 hht K12
  obtain ⟨zb, zoff, rfl, hzc⟩ := HR3.out.cells (by omega)
  obtain ⟨hb', hoff, rfl, hhc⟩ := HH3.out.cells (by omega)
  have HZC := hide hzc
  have HHC := hide hhc
  have hcapz := HR3.out.cap
  have hmaxz := HR3.out.max
  have hcaph := HH3.out.cap
  have hmaxh := HH3.out.max
  unfold maxLen at hmaxz hmaxh
  have hzb : zb < w3.heap.size := World.block_lt_of_cell? w3 _ (hzc 0 (by omega))
  have hhb : hb' < w3.heap.size := World.block_lt_of_cell? w3 _ (hhc 0 (by omega))
  clear hzc hhc
  go_wp2_with fail
  go_loopw [4, 5] (fun v s wr => ∃ j : Nat, v = .int .i64 (lsr W zs j : Nat) ∧ s = .int .i64 ((j + 1 : Nat) : Int) ∧ j + 1 ≤ n ∧ Hid (Keeps (fun _ => False) w3 wr)) (fun _ s _ => n - (intOf s).toNat)
  case atStart => exact ⟨0, rfl, rfl, by omega, hide (Keeps.refl _ _)⟩
  case round =>
    obtain ⟨j, rfl, rfl, hj, hK⟩ := hrel
    have K1r := K13.keeps hK.out (fun h => h)
    have K3r := K3.keeps hK.out (fun h => h)
    have hle := lsr_le hu HO.out hlen (by omega) hj
    obtain ⟨p0, p1, p2⟩ := K1r.cells
    obtain ⟨k, hk⟩ : ∃ k : Nat, j + 1 = k := ⟨_, rfl⟩
    have HKJ := hide hk
    by_cases hjn : j + 1 < n
    · have HSU := hide (lsr_succ W zs j)
      obtain ⟨A, hA, hAn, -⟩ := ix_ord HO.out hlen hjn
      have hB := ix_home hjn
      rw [hA, Int.toNat_natCast] at HSU
      rw [hk] at hA hB
      generalize lsr W zs j = M at *
      have HA := hide hA
      have HBB := hide hB
      rw [hk] at hjn ⊢
      have hlt' : (k : Int) < (n : Int) := by omega
      clear hA hB hk
      have HRr := hide (HR3.out.keeps hK.out (fun _ _ _ h => h))
      have HHr := hide (HH3.out.keeps hK.out (fun _ _ _ h => h))
      have hxA : A % W < W := Nat.mod_lt _ (by omega)
      have hxj : j % W < W := Nat.mod_lt _ (by omega)
      have hyA : A / W ≤ 25 := Nat.le_trans (Nat.div_le_self _ _) (by omega)
      have hyj : j / W ≤ 25 := Nat.le_trans (Nat.div_le_self _ _) (by omega)
      have m1 : (A : Int).tmod (W : Int) = ((A % W : Nat) : Int) := by rw [Int.tmod_eq_emod_of_nonneg (by omega)]; simp
      have m2 : (j : Int).tmod (W : Int) = ((j % W : Nat) : Int) := by rw [Int.tmod_eq_emod_of_nonneg (by omega)]; simp
      have d1 : (A : Int).tdiv (W : Int) = ((A / W : Nat) : Int) := by rw [Int.tdiv_eq_ediv_of_nonneg (by omega)]; simp
      have d2 : (j : Int).tdiv (W : Int) = ((j / W : Nat) : Int) := by rw [Int.tdiv_eq_ediv_of_nonneg (by omega)]; simp
      have hdl : dst W A j ≤ 30 := dst_le (by omega) (by omega) hu
      have HD : Hid (dst W A j = (((A % W : Nat) : Int) - (j % W : Nat)).natAbs + (((A / W : Nat) : Int) - (j / W : Nat)).natAbs) := hide rfl
      generalize dst W A j = D at *
      generalize A % W = x1 at *
      generalize j % W = x2 at *
      generalize A / W = y1 at *
      generalize j / W = y2 at *
      have hW0 : ¬ (W : Int) = 0 := by omega
      have hW0n : ¬ W = 0 := by omega
      go_upto_region 6 with fail
      have KD : Keeps (fun _ => False) w3 wr.drew := hK.out.drew
      refine wp_region_held (S := fun W4 => Keeps (fun _ => False) w3 W4) (by kernel_rfl) ?_
      change wpAnyH _ _ _ _ _ _ _ _ (World.drew _)
      have SW := KD
      refine wpAnyH_take (i := 0) (v := .pointer (some ⟨w.heap.size, 2, none⟩)) rfl (by kernel_rfl) (by kernel_rfl) (by kernel_rfl) (fun _ _ _ h => h) (Or.inl ⟨by rfl, ?_⟩) SW ?_
      · intro W4 hW4
        go_simp <;> first | done | rfl | (rw [IntKind.wrap_i64]; omega) | omega
      go_simp
      refine wpAnyH_take (i := 1) (v := .slice (some ⟨zb, zoff, none⟩) n c) rfl (by kernel_rfl) (by kernel_rfl) (by kernel_rfl) (fun _ _ _ h => h) (Or.inl ⟨by rfl, ?_⟩) SW ?_
      · intro W4 hW4
        have hc := (K13.keeps hW4 (fun h => h)).cells
        go_simp <;> first | done | rfl | (rw [IntKind.wrap_i64]; omega) | omega
      go_simp
      refine wpAnyH_take (i := 2) (v := .int .i64 k) rfl (by kernel_rfl) (by kernel_rfl) (by kernel_rfl) (fun _ _ _ h => h) (Or.inl ⟨by rfl, ?_⟩) SW ?_
      · intro W4 hW4
        go_simp <;> first | done | rfl | (rw [IntKind.wrap_i64]; omega) | omega
      go_simp
      refine wpAnyH_take (i := 4) (v := .pointer (some ⟨ht, 2, none⟩)) rfl (by kernel_rfl) (by kernel_rfl) (by kernel_rfl) (fun _ _ _ h => h) (Or.inl ⟨by rfl, ?_⟩) SW ?_
      · intro W4 hW4
        go_simp <;> first | done | rfl | (rw [IntKind.wrap_i64]; omega) | omega
      go_simp
      refine wpAnyH_take (i := 5) (v := .slice (some ⟨hb', hoff, none⟩) n hc) rfl (by kernel_rfl) (by kernel_rfl) (by kernel_rfl) (fun _ _ _ h => h) (Or.inl ⟨by rfl, ?_⟩) SW ?_
      · intro W4 hW4
        have hc := (K3.keeps hW4 (fun h => h)).cells
        go_simp <;> first | done | rfl | (rw [IntKind.wrap_i64]; omega) | omega
      go_simp
      refine wpAnyH_take (i := 6) (v := .int .i64 k) rfl (by kernel_rfl) (by kernel_rfl) (by kernel_rfl) (fun _ _ _ h => h) (Or.inl ⟨by rfl, ?_⟩) SW ?_
      · intro W4 hW4
        go_simp <;> first | done | rfl | (rw [IntKind.wrap_i64]; omega) | omega
      go_simp
      refine wpAnyH_ready (rs := [3]) (by kernel_rfl) (by simp) ?_
      refine AllReadyH.cons rfl (fun K1 hK1 => ?_) AllReadyH.nil
      go_simp
      refine (at_any _ n _ zs k _ (HRr.out.keeps (X := fun _ => False) (Keeps.refl _ _).drew (fun _ _ _ h => h))).mono ?_
      rintro e w5 ⟨rfl, hw5⟩
      subst w5
      refine hK1.out _ _ SW (fun SW => ?_)
      clear hK1 K1
      rw [HA.out]
      go_simp
      refine wpAnyH_ready (rs := [7]) (by kernel_rfl) (by simp) ?_
      refine AllReadyH.cons rfl (fun K1 hK1 => ?_) AllReadyH.nil
      go_simp
      refine (at_any _ n _ (homeL n) k _ (HHr.out.keeps (X := fun _ => False) (Keeps.refl _ _).drew (fun _ _ _ h => h))).mono ?_
      rintro e w5 ⟨rfl, hw5⟩
      subst w5
      refine hK1.out _ _ SW (fun SW => ?_)
      clear hK1 K1
      rw [HBB.out]
      go_simp
      refine wpAnyH_ready (rs := [8]) (by kernel_rfl) (by simp) ?_
      refine AllReadyH.cons rfl (fun K1 hK1 => ?_) AllReadyH.nil
      go_simp
      refine hK1.out _ _ SW (fun SW => ?_)
      clear hK1 K1
      go_simp
      refine wpAnyH_ready (rs := [9]) (by kernel_rfl) (by simp) ?_
      refine AllReadyH.cons rfl (fun K1 hK1 => ?_) AllReadyH.nil
      go_simp
      refine hK1.out _ _ SW (fun SW => ?_)
      clear hK1 K1
      go_simp
      refine wpAnyH_done (by kernel_rfl) ?_ _
      have HK6 := hide SW
      clear SW KD
      go_upto_region 7 with fail
      have KD : Keeps (fun _ => False) w3 wr.drew.drew := HK6.out.drew
      refine wp_region_held (S := fun W4 => Keeps (fun _ => False) w3 W4) (by kernel_rfl) ?_
      change wpAnyH _ _ _ _ _ _ _ _ (World.drew _)
      have SW := KD
      refine wpAnyH_take (i := 0) (v := .int .i64 M) rfl (by kernel_rfl) (by kernel_rfl) (by kernel_rfl) (fun _ _ _ h => h) (Or.inl ⟨by rfl, ?_⟩) SW ?_
      · intro W4 hW4
        go_simp <;> first | done | rfl | (rw [IntKind.wrap_i64]; omega) | omega
      go_simp
      refine wpAnyH_take (i := 1) (v := .int .i64 A) rfl (by kernel_rfl) (by kernel_rfl) (by kernel_rfl) (fun _ _ _ h => h) (Or.inl ⟨by rfl, ?_⟩) SW ?_
      · intro W4 hW4
        go_simp <;> first | done | rfl | (rw [IntKind.wrap_i64]; omega) | omega
      go_simp
      refine wpAnyH_take (i := 2) (v := .pointer (some ⟨w.heap.size, 0, none⟩)) rfl (by kernel_rfl) (by kernel_rfl) (by kernel_rfl) (fun _ _ _ h => h) (Or.inl ⟨by rfl, ?_⟩) SW ?_
      · intro W4 hW4
        go_simp <;> first | done | rfl | (rw [IntKind.wrap_i64]; omega) | omega
      go_simp
      refine wpAnyH_take (i := 3) (v := .int .i64 W) rfl (by kernel_rfl) (by kernel_rfl) (by kernel_rfl) (fun _ _ _ h => h) (Or.inl ⟨by rfl, ?_⟩) SW ?_
      · intro W4 hW4
        have hc := (K13.keeps hW4 (fun h => h)).cells
        go_simp <;> first | done | rfl | (rw [IntKind.wrap_i64]; omega) | omega
      go_simp
      refine wpAnyH_take (i := 4) (v := .int .i64 x1) rfl (by kernel_rfl) (by kernel_rfl) (by kernel_rfl) (fun _ _ _ h => h) (Or.inl ⟨by rfl, ?_⟩) SW ?_
      · intro W4 hW4
        go_simp <;> first | done | rfl | (rw [IntKind.wrap_i64]; omega) | omega
      go_simp
      refine wpAnyH_take (i := 5) (v := .int .i64 j) rfl (by kernel_rfl) (by kernel_rfl) (by kernel_rfl) (fun _ _ _ h => h) (Or.inl ⟨by rfl, ?_⟩) SW ?_
      · intro W4 hW4
        go_simp <;> first | done | rfl | (rw [IntKind.wrap_i64]; omega) | omega
      go_simp
      refine wpAnyH_take (i := 6) (v := .pointer (some ⟨w.heap.size, 0, none⟩)) rfl (by kernel_rfl) (by kernel_rfl) (by kernel_rfl) (fun _ _ _ h => h) (Or.inl ⟨by rfl, ?_⟩) SW ?_
      · intro W4 hW4
        go_simp <;> first | done | rfl | (rw [IntKind.wrap_i64]; omega) | omega
      go_simp
      refine wpAnyH_take (i := 7) (v := .int .i64 W) rfl (by kernel_rfl) (by kernel_rfl) (by kernel_rfl) (fun _ _ _ h => h) (Or.inl ⟨by rfl, ?_⟩) SW ?_
      · intro W4 hW4
        have hc := (K13.keeps hW4 (fun h => h)).cells
        go_simp <;> first | done | rfl | (rw [IntKind.wrap_i64]; omega) | omega
      go_simp
      refine wpAnyH_take (i := 8) (v := .int .i64 x2) rfl (by kernel_rfl) (by kernel_rfl) (by kernel_rfl) (fun _ _ _ h => h) (Or.inl ⟨by rfl, ?_⟩) SW ?_
      · intro W4 hW4
        go_simp <;> first | done | rfl | (rw [IntKind.wrap_i64]; omega) | omega
      go_simp
      refine wpAnyH_take (i := 9) (v := .int .i64 ((x1 : Int) - x2)) rfl (by kernel_rfl) (by kernel_rfl) (by kernel_rfl) (fun _ _ _ h => h) (Or.inl ⟨by rfl, ?_⟩) SW ?_
      · intro W4 hW4
        go_simp <;> first | done | rfl | (rw [IntKind.wrap_i64]; omega) | omega
      go_simp
      refine wpAnyH_take (i := 11) (v := .int .i64 A) rfl (by kernel_rfl) (by kernel_rfl) (by kernel_rfl) (fun _ _ _ h => h) (Or.inl ⟨by rfl, ?_⟩) SW ?_
      · intro W4 hW4
        go_simp <;> first | done | rfl | (rw [IntKind.wrap_i64]; omega) | omega
      go_simp
      refine wpAnyH_take (i := 12) (v := .pointer (some ⟨w.heap.size, 0, none⟩)) rfl (by kernel_rfl) (by kernel_rfl) (by kernel_rfl) (fun _ _ _ h => h) (Or.inl ⟨by rfl, ?_⟩) SW ?_
      · intro W4 hW4
        go_simp <;> first | done | rfl | (rw [IntKind.wrap_i64]; omega) | omega
      go_simp
      refine wpAnyH_take (i := 13) (v := .int .i64 W) rfl (by kernel_rfl) (by kernel_rfl) (by kernel_rfl) (fun _ _ _ h => h) (Or.inl ⟨by rfl, ?_⟩) SW ?_
      · intro W4 hW4
        have hc := (K13.keeps hW4 (fun h => h)).cells
        go_simp <;> first | done | rfl | (rw [IntKind.wrap_i64]; omega) | omega
      go_simp
      refine wpAnyH_take (i := 14) (v := .int .i64 y1) rfl (by kernel_rfl) (by kernel_rfl) (by kernel_rfl) (fun _ _ _ h => h) (Or.inl ⟨by rfl, ?_⟩) SW ?_
      · intro W4 hW4
        go_simp <;> first | done | rfl | (rw [IntKind.wrap_i64]; omega) | omega
      go_simp
      refine wpAnyH_take (i := 15) (v := .int .i64 j) rfl (by kernel_rfl) (by kernel_rfl) (by kernel_rfl) (fun _ _ _ h => h) (Or.inl ⟨by rfl, ?_⟩) SW ?_
      · intro W4 hW4
        go_simp <;> first | done | rfl | (rw [IntKind.wrap_i64]; omega) | omega
      go_simp
      refine wpAnyH_take (i := 16) (v := .pointer (some ⟨w.heap.size, 0, none⟩)) rfl (by kernel_rfl) (by kernel_rfl) (by kernel_rfl) (fun _ _ _ h => h) (Or.inl ⟨by rfl, ?_⟩) SW ?_
      · intro W4 hW4
        go_simp <;> first | done | rfl | (rw [IntKind.wrap_i64]; omega) | omega
      go_simp
      refine wpAnyH_take (i := 17) (v := .int .i64 W) rfl (by kernel_rfl) (by kernel_rfl) (by kernel_rfl) (fun _ _ _ h => h) (Or.inl ⟨by rfl, ?_⟩) SW ?_
      · intro W4 hW4
        have hc := (K13.keeps hW4 (fun h => h)).cells
        go_simp <;> first | done | rfl | (rw [IntKind.wrap_i64]; omega) | omega
      go_simp
      refine wpAnyH_take (i := 18) (v := .int .i64 y2) rfl (by kernel_rfl) (by kernel_rfl) (by kernel_rfl) (fun _ _ _ h => h) (Or.inl ⟨by rfl, ?_⟩) SW ?_
      · intro W4 hW4
        go_simp <;> first | done | rfl | (rw [IntKind.wrap_i64]; omega) | omega
      go_simp
      refine wpAnyH_take (i := 19) (v := .int .i64 ((y1 : Int) - y2)) rfl (by kernel_rfl) (by kernel_rfl) (by kernel_rfl) (fun _ _ _ h => h) (Or.inl ⟨by rfl, ?_⟩) SW ?_
      · intro W4 hW4
        go_simp <;> first | done | rfl | (rw [IntKind.wrap_i64]; omega) | omega
      go_simp
      refine wpAnyH_ready (rs := [10]) (by kernel_rfl) (by simp) ?_
      refine AllReadyH.cons rfl (fun K1 hK1 => ?_) AllReadyH.nil
      go_simp
      refine (size_any ((x1 : Int) - x2) _ (by omega) (by omega)).mono ?_
      rintro e w5 ⟨rfl, hw5⟩
      subst w5
      refine hK1.out _ _ SW (fun SW => ?_)
      clear hK1 K1
      go_simp
      refine wpAnyH_ready (rs := [20]) (by kernel_rfl) (by simp) ?_
      refine AllReadyH.cons rfl (fun K1 hK1 => ?_) AllReadyH.nil
      go_simp
      refine (size_any ((y1 : Int) - y2) _ (by omega) (by omega)).mono ?_
      rintro e w5 ⟨rfl, hw5⟩
      subst w5
      refine hK1.out _ _ SW (fun SW => ?_)
      clear hK1 K1
      go_simp
      obtain ⟨u1, hu1⟩ : ∃ u1, ((x1 : Int) - x2).natAbs = u1 := ⟨_, rfl⟩
      obtain ⟨u2, hu2⟩ : ∃ u2, ((y1 : Int) - y2).natAbs = u2 := ⟨_, rfl⟩
      rw [hu1, hu2] at HD
      have hub1 : u1 ≤ 5 := by omega
      have hub2 : u2 ≤ 25 := by omega
      have HU1 := hide hu1
      have HU2 := hide hu2
      refine wpAnyH_take (i := 21) (v := .int .i64 ((u1 + u2 : Nat) : Int)) rfl (by kernel_rfl) (by kernel_rfl) (by kernel_rfl) (fun _ _ _ h => h) (Or.inl ⟨by rfl, ?_⟩) SW ?_
      · intro W4 hW4
        have e1 : ((x1 : Int) - x2).natAbs = u1 := HU1.out
        have e2 : ((y1 : Int) - y2).natAbs = u2 := HU2.out
        go_simp <;> first | done | rfl | (rw [IntKind.wrap_i64]; omega) | omega
      go_simp
      refine wpAnyH_take (i := 22) (v := .int .i64 ((M + (u1 + u2) : Nat) : Int)) rfl (by kernel_rfl) (by kernel_rfl) (by kernel_rfl) (fun _ _ _ h => h) (Or.inl ⟨by rfl, ?_⟩) SW ?_
      · intro W4 hW4
        go_simp <;> first | done | rfl | (rw [IntKind.wrap_i64]; omega) | omega
      go_simp
      refine wpAnyH_ready (rs := [23]) (by kernel_rfl) (by simp) ?_
      refine AllReadyH.cons rfl (fun K1 hK1 => ?_) AllReadyH.nil
      go_simp
      refine hK1.out _ _ SW (fun SW => ?_)
      clear hK1 K1
      go_simp
      refine wpAnyH_done (by kernel_rfl) ?_ _
      have HK8 := hide SW
      clear SW KD K1r K3r p0 p1 p2 m1 m2 d1 d2
      go_wp2_with fail
      go_roundw
      case rel => exact ⟨j + 1, by rw [HSU.out, HD.out]; first | rfl | go_num, by have := HKJ.out; go_num, by have := HKJ.out; omega, HK8⟩
      case measure => have := HKJ.out; simp [intOf]; omega
    · obtain rfl : k = n := by omega
      have hlt' : ¬ (k : Int) < (k : Int) := by omega
      have HJ : Hid (lsr W zs (k - 1) = lsr W zs j) := hide (by rw [show k - 1 = j by omega])
      have HBr : Hid (Below w.heap.size w wr) := hide (HB3.out.trans ((hK.out.mono (Y := fun q => w.heap.size ≤ q) (fun q _ e => e.elim)).below (B := w.heap.size) HB3.out.size (fun q hq e => by omega)))
      rw [hk]
      generalize lsr W zs j = M at *
      clear hk
      go_wp2_with fail
      go_ret
      exact ⟨by rw [HJ.out]; rfl, HBr.out⟩


end Go.Proofs.YticalbpohhpjaaaDoor
