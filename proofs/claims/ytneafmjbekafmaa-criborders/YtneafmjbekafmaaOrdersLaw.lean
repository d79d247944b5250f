/-
  The law 'CribOrders': every way through it ends with true. No conditions beyond those that each theorem bears.
-/
import Derived.Test.YtneafmjbekafmaaOrdMath
import Derived.Test.YtneafmjbekafmaaHand2
namespace Go.Proofs.Ytneafmjbekafmaa
open Go.RowKit Go.Shelf

theorem fO_all : ∀ q, q < 24 → (∀ i, i < 4 → (nthSt 4 q 4).1.getD i 0 = ((fO q i : Nat) : Int) ∧ fO q i < 4) ∧ [fO q 0, fO q 1, fO q 2, fO q 3].Perm [0, 1, 2, 3] := by decide +kernel

def partO (H : List Nat) (q j : Nat) : List Nat := (List.range j).map (fun i => H.getD (fO q i) 0)

theorem partO_succ (H : List Nat) (q j : Nat) : partO H q (j + 1) = partO H q j ++ [H.getD (fO q j) 0] := by
  simp [partO, List.range_succ]

theorem partO_perm (x0 x1 x2 x3 q : Nat) (hq : q < 24) : [x0, x1, x2, x3].Perm (partO [x0, x1, x2, x3] q 4) := by
  have h := ((fO_all q hq).2.map (fun i => [x0, x1, x2, x3].getD i 0)).symm
  exact h

theorem Rd.of_blk {w : World} {b t n : Nat} {T : List Nat} (h : Blk w b t T) (hl : T.length = n) (hn : n ≤ 1000) : Rd w (some ⟨b, 0, none⟩) n n (toI T) := by
  refine ⟨by rw [toI_length, hl], Nat.le_refl _, by unfold maxLen; omega, (fun h => by simp at h), fun _ => ⟨b, 0, rfl, fun i hi => ?_⟩⟩
  rw [Nat.zero_add, toI_getD]
  exact h.cell (by omega)

set_option maxRecDepth 100000 in
set_option maxHeartbeats 8000000 in
theorem orders_any (a : Option Addr) (n c : Nat) (zs : List Int) (o : Int) (hz : ∀ z ∈ zs, -9223372036854775808 ≤ z ∧ z ≤ 9223372036854775807) (ho1 : -9223372036854775808 ≤ o) (ho2 : o ≤ 9223372036854775807) (w : World) (h : Rd w a n c zs) :
    Calls Try.prog 6 #[.slice a n c, .int .i64 o] w fun e w' => e = .returned (.bool true) ∧ Below w.heap.size w w' := by
  have HR := hide h
  have HZ := hide hz
  clear h hz
  go_enter Try.func6, Try.ntmps6
  go_wp2_with fail
  refine (hand_keep a n c 5 zs HZ.out (by omega) w HR.out).mono ?_
  rintro e w1 ⟨L, a1, c1, hL1, hL2, hL3, rfl, hR1, hB1⟩
  obtain ⟨x0, x1, x2, x3, x4, rfl⟩ := five_of L hL1
  have HN : Hid (([x0, x1, x2, x3] ++ [x4]).Nodup) := hL2
  have HLT : Hid (∀ x ∈ [x0, x1, x2, x3] ++ [x4], x < 52) := hL3
  have hcap := hR1.cap
  have hmax := hR1.max
  unfold maxLen at hmax
  have hcc4 : ¬ (c1 : Int) < 4 := by omega
  have hcc4' : (4 : Int) ≤ (c1 : Int) := by omega
  obtain ⟨b, off, rfl, hc⟩ := hR1.cells (by omega)
  have c4 := hc 4 (by omega)
  rw [toI_getD] at c4
  have c4' : w1.cell? ⟨b, off + 4, none⟩ = some (.int .i64 x4) := c4
  have R4 : Rd w1 (some ⟨b, off, none⟩) 4 c1 (toI [x0, x1, x2, x3]) := hR1.upto (k := 4) (by omega)
  have HR1 := hide hR1
  have HR4 := hide R4
  have HC4 := hide c4'
  have HB1 := hide hB1
  have EVF := hide (shV_ok (L := [x0, x1, x2, x3]) (s := x4) false rfl HN.out HLT.out)
  have EVT := hide (shV_ok (L := [x0, x1, x2, x3]) (s := x4) true rfl HN.out HLT.out)
  have EE := hide (shE_ok (L := [x0, x1, x2, x3]) (s := x4) rfl HN.out HLT.out)
  have hA := scN_le [x0, x1, x2, x3] x4 false rfl HN.out HLT.out
  have hB := crib_le [x0, x1, x2, x3] x4
  have hC := hide (fun L' (hp : [x0, x1, x2, x3].Perm L') => (scN_perm hp rfl (fun x hx => HLT.out x (List.mem_append_left _ hx)) x4 false).symm)
  obtain ⟨A, hAe⟩ : ∃ A, scN [x0, x1, x2, x3] x4 false = A := ⟨_, rfl⟩
  obtain ⟨T, hTe⟩ : ∃ T, scN [x0, x1, x2, x3] x4 true = T := ⟨_, rfl⟩
  rw [hAe] at hA hB hC EVF
  rw [hTe] at hB EVT
  clear hAe hTe c4 c4' R4 hR1 hB1 hc hL1 hL2 hL3
  go_wp2_with fail
  refine wp_region_held (S := fun W => Below w1.heap.size w1 W) (by kernel_rfl) ?_
  change wpAnyH _ _ _ _ _ _ _ _ (World.drew _)
  have SW : Below w1.heap.size w1 w1.drew := (Below.refl _ w1).drew
  refine wpAnyH_take (i := 0) (v := .slice (some ⟨b, off, none⟩) 5 c1) rfl (by kernel_rfl) (by kernel_rfl) (by kernel_rfl) (fun _ _ _ h => h) (Or.inl ⟨by rfl, ?_⟩) SW ?_
  · intro W _
    go_simp
  go_simp
  refine wpAnyH_take (i := 1) (v := .slice (some ⟨b, off, none⟩) 4 c1) rfl (by kernel_rfl) (by kernel_rfl) (by kernel_rfl) (fun _ _ _ h => h) (Or.inl ⟨by rfl, ?_⟩) SW ?_
  · intro W _
    go_simp
  go_simp
  refine wpAnyH_take (i := 2) (v := .slice (some ⟨b, off, none⟩) 5 c1) rfl (by kernel_rfl) (by kernel_rfl) (by kernel_rfl) (fun _ _ _ h => h) (Or.inl ⟨by rfl, ?_⟩) SW ?_
  · intro W _
    go_simp
  go_simp
  refine wpAnyH_take (i := 3) (v := .pointer (some ⟨b, off + 4, none⟩)) rfl (by kernel_rfl) (by kernel_rfl) (by kernel_rfl) (fun _ _ _ h => h) (Or.inl ⟨by rfl, ?_⟩) SW ?_
  · intro W _
    go_simp
  go_simp
  refine wpAnyH_take (i := 4) (v := .int .i64 x4) rfl (by kernel_rfl) (by kernel_rfl) (by kernel_rfl) (fun _ _ _ h => h) (Or.inl ⟨by rfl, ?_⟩) SW ?_
  · intro W hW
    have hcell : W.cell? ⟨b, off + 4, none⟩ = _ := (hW.cell (p := ⟨b, off + 4, none⟩) (World.block_lt_of_cell? _ _ HC4.out)).trans HC4.out
    clear hW
    go_simp
  go_simp
  refine wpAnyH_ready (rs := [5]) (by kernel_rfl) (by simp) ?_
  refine AllReadyH.cons rfl (fun K1 hK1 => ?_) AllReadyH.nil
  go_simp
  refine (Show_any (some ⟨b, off, none⟩) 4 c1 (toI [x0, x1, x2, x3]) (x4 : Int) false _ (HR4.out.mono SW)).mono ?_
  rintro e w2 ⟨rfl, hBx⟩
  rw [EVF.out, EE.out]
  refine hK1.out _ _ (SW.trans (hBx.mono SW.size)) (fun SW => ?_)
  clear hK1 K1 hBx
  go_simp
  refine wpAnyH_take (i := 6) (v := .tuple #[.int .i64 A, .int .i64 0]) rfl (by kernel_rfl) (by kernel_rfl) (by kernel_rfl) (fun _ _ _ h => h) (Or.inl ⟨by rfl, ?_⟩) SW ?_
  · intro W _
    go_simp
  go_simp
  refine wpAnyH_take (i := 7) (v := .int .i64 A) rfl (by kernel_rfl) (by kernel_rfl) (by kernel_rfl) (fun _ _ _ h => h) (Or.inl ⟨by rfl, ?_⟩) SW ?_
  · intro W _
    go_simp
  go_simp
  refine wpAnyH_take (i := 8) (v := .int .i64 0) rfl (by kernel_rfl) (by kernel_rfl) (by kernel_rfl) (fun _ _ _ h => h) (Or.inl ⟨by rfl, ?_⟩) SW ?_
  · intro W _
    go_simp
  go_simp
  refine wpAnyH_take (i := 9) (v := .int .i64 A) rfl (by kernel_rfl) (by kernel_rfl) (by kernel_rfl) (fun _ _ _ h => h) (Or.inl ⟨by rfl, ?_⟩) SW ?_
  · intro W _
    go_simp
  go_simp
  refine wpAnyH_take (i := 10) (v := .int .i64 0) rfl (by kernel_rfl) (by kernel_rfl) (by kernel_rfl) (fun _ _ _ h => h) (Or.inl ⟨by rfl, ?_⟩) SW ?_
  · intro W _
    go_simp
  go_simp
  refine wpAnyH_done (by kernel_rfl) ?_ _
  have HB2 := hide (HB1.out.trans (SW.mono HB1.out.size))
  have HR42 := hide (HR4.out.mono SW)
  have HR12 := hide (HR1.out.mono SW)
  have HC42 : Hid (w2.cell? ⟨b, off + 4, none⟩ = some (.int .i64 x4)) := hide ((SW.cell (p := ⟨b, off + 4, none⟩) (World.block_lt_of_cell? _ _ HC4.out)).trans HC4.out)
  clear SW HB1 HR4 HR1 HC4
  go_wp2_with fail
  refine wp_region_held (S := fun W => Below w2.heap.size w2 W) (by kernel_rfl) ?_
  change wpAnyH _ _ _ _ _ _ _ _ (World.drew _)
  have SW : Below w2.heap.size w2 w2.drew := (Below.refl _ w2).drew
  refine wpAnyH_take (i := 0) (v := .slice (some ⟨b, off, none⟩) 5 c1) rfl (by kernel_rfl) (by kernel_rfl) (by kernel_rfl) (fun _ _ _ h => h) (Or.inl ⟨by rfl, ?_⟩) SW ?_
  · intro W _
    go_simp
  go_simp
  refine wpAnyH_take (i := 1) (v := .slice (some ⟨b, off, none⟩) 4 c1) rfl (by kernel_rfl) (by kernel_rfl) (by kernel_rfl) (fun _ _ _ h => h) (Or.inl ⟨by rfl, ?_⟩) SW ?_
  · intro W _
    go_simp
  go_simp
  refine wpAnyH_take (i := 2) (v := .slice (some ⟨b, off, none⟩) 5 c1) rfl (by kernel_rfl) (by kernel_rfl) (by kernel_rfl) (fun _ _ _ h => h) (Or.inl ⟨by rfl, ?_⟩) SW ?_
  · intro W _
    go_simp
  go_simp
  refine wpAnyH_take (i := 3) (v := .pointer (some ⟨b, off + 4, none⟩)) rfl (by kernel_rfl) (by kernel_rfl) (by kernel_rfl) (fun _ _ _ h => h) (Or.inl ⟨by rfl, ?_⟩) SW ?_
  · intro W _
    go_simp
  go_simp
  refine wpAnyH_take (i := 4) (v := .int .i64 x4) rfl (by kernel_rfl) (by kernel_rfl) (by kernel_rfl) (fun _ _ _ h => h) (Or.inl ⟨by rfl, ?_⟩) SW ?_
  · intro W hW
    have hcell : W.cell? ⟨b, off + 4, none⟩ = _ := (hW.cell (p := ⟨b, off + 4, none⟩) (World.block_lt_of_cell? _ _ HC42.out)).trans HC42.out
    clear hW
    go_simp
  go_simp
  refine wpAnyH_ready (rs := [5]) (by kernel_rfl) (by simp) ?_
  refine AllReadyH.cons rfl (fun K1 hK1 => ?_) AllReadyH.nil
  go_simp
  refine (Show_any (some ⟨b, off, none⟩) 4 c1 (toI [x0, x1, x2, x3]) (x4 : Int) true _ (HR42.out.mono SW)).mono ?_
  rintro e w3 ⟨rfl, hBx⟩
  rw [EVT.out, EE.out]
  refine hK1.out _ _ (SW.trans (hBx.mono SW.size)) (fun SW => ?_)
  clear hK1 K1 hBx
  go_simp
  refine wpAnyH_take (i := 6) (v := .tuple #[.int .i64 T, .int .i64 0]) rfl (by kernel_rfl) (by kernel_rfl) (by kernel_rfl) (fun _ _ _ h => h) (Or.inl ⟨by rfl, ?_⟩) SW ?_
  · intro W _
    go_simp
  go_simp
  refine wpAnyH_take (i := 7) (v := .int .i64 T) rfl (by kernel_rfl) (by kernel_rfl) (by kernel_rfl) (fun _ _ _ h => h) (Or.inl ⟨by rfl, ?_⟩) SW ?_
  · intro W _
    go_simp
  go_simp
  refine wpAnyH_take (i := 8) (v := .int .i64 0) rfl (by kernel_rfl) (by kernel_rfl) (by kernel_rfl) (fun _ _ _ h => h) (Or.inl ⟨by rfl, ?_⟩) SW ?_
  · intro W _
    go_simp
  go_simp
  refine wpAnyH_take (i := 9) (v := .int .i64 T) rfl (by kernel_rfl) (by kernel_rfl) (by kernel_rfl) (fun _ _ _ h => h) (Or.inl ⟨by rfl, ?_⟩) SW ?_
  · intro W _
    go_simp
  go_simp
  refine wpAnyH_take (i := 10) (v := .int .i64 0) rfl (by kernel_rfl) (by kernel_rfl) (by kernel_rfl) (fun _ _ _ h => h) (Or.inl ⟨by rfl, ?_⟩) SW ?_
  · intro W _
    go_simp
  go_simp
  refine wpAnyH_done (by kernel_rfl) ?_ _
  have HB3 := hide (HB2.out.trans (SW.mono HB2.out.size))
  have HR13 := hide (HR12.out.mono SW)
  clear SW HB2 HR42 HR12 HC42
  go_wp2_with fail
  refine (picked_any o 24 _ ho1 ho2 (by omega) (by omega)).mono ?_
  rintro e w7 ⟨rfl, hw⟩
  subst w7
  have hk24 : pk o 24 < 24 := pk_lt _ _ (by omega)
  obtain ⟨q, hq⟩ : ∃ q, pk o 24 = q := ⟨_, rfl⟩
  rw [hq] at hk24 ⊢
  clear hq
  go_wp2_with fail
  refine (Nth_yes 4 q _ (by omega) (by show q < 24; omega)).mono ?_
  rintro e w7 ⟨a7, c7, rfl, hR7, hB7⟩
  have HR7 := hide hR7
  have HB7 := hide (HB3.out.trans (hB7.mono HB3.out.size))
  have HL7 := hide (HR13.out.mono hB7)
  clear hR7 hB7 HB3 HR13
  have g1 : ¬ (A : Int) < 0 := by omega
  have g2 : ¬ (29 : Int) < (A : Int) := by omega
  have g3 : ¬ (A : Int) < (T : Int) := by omega
  have d1 : decide ((A : Int) < 0) = false := by simp
  have d2 : decide ((29 : Int) < (A : Int)) = false := by simp; omega
  have d3 : decide ((A : Int) < (T : Int)) = false := by simp; omega
  have d4 : decide (A < T) = false := by simp; omega
  have d5 : ¬ A < T := by omega
  go_wp2_with fail
  obtain ⟨b7, o7, ha7, hc7⟩ := HR7.out.cells (by omega)
  subst ha7
  have HC7 := hide hc7
  have HC1 : Hid (∀ i, i < 5 → w7.cell? ⟨b, off + i, none⟩ = some (.int .i64 (([x0, x1, x2, x3, x4].getD i 0 : Nat) : Int))) := hide (fun i hi => by
    obtain ⟨b', o', he, hcc⟩ := HL7.out.cells (by omega)
    obtain ⟨rfl, rfl⟩ : b = b' ∧ off = o' := by simpa using he
    have := hcc i hi
    rwa [toI_getD] at this)
  clear hc7 d1 d2 d3 d4 d5 g1 g2 g3 hcc4 hcc4' hA hB hcap hmax
  go_loopw [12, 13] (fun s v wr => ∃ (j : Nat), v = .int .i64 j ∧ j ≤ 4 ∧ (∃ ad cc, s = .slice ad j cc) ∧ Hid (wr.ownsRow w7.heap.size 3 1 s j ((toI (partO [x0, x1, x2, x3] q j)).map (Value.int .i64))) ∧ Hid (Below w7.heap.size w7 wr)) (fun _ v _ => 4 - (intOf v).toNat)
  case atStart => exact ⟨0, rfl, by omega, ⟨_, _, rfl⟩, World.ownsRow_nil _ _ _ _, Below.refl _ _⟩
  case round =>
    obtain ⟨j, rfl, hj, ⟨ad, cc, rfl⟩, hO, hBw⟩ := hrel
    by_cases hlt : j < 4
    · have hlt' : (j : Int) < 4 := by omega
      have hps := partO_succ [x0, x1, x2, x3] q j
      obtain ⟨fa, fb⟩ := (fO_all q hk24).1 j hlt
      have r7 := HC7.out j hlt
      rw [fa] at r7
      have r7' : wr.cell? ⟨b7, o7 + j, none⟩ = _ := (hBw.out.cell (p := ⟨b7, o7 + j, none⟩) (World.block_lt_of_cell? w7 _ r7)).trans r7
      obtain ⟨p, hp⟩ : ∃ p, fO q j = p := ⟨_, rfl⟩
      rw [hp] at r7' fb hps
      have r1 := HC1.out p (by omega)
      have e1 : [x0, x1, x2, x3, x4].getD p 0 = [x0, x1, x2, x3].getD p 0 := by
        obtain rfl | rfl | rfl | rfl : p = 0 ∨ p = 1 ∨ p = 2 ∨ p = 3 := by omega
        all_goals rfl
      rw [e1] at r1
      have r1' : wr.cell? ⟨b, off + p, none⟩ = _ := (hBw.out.cell (p := ⟨b, off + p, none⟩) (World.block_lt_of_cell? w7 _ r1)).trans r1
      obtain ⟨y5, hy5⟩ : ∃ y5, [x0, x1, x2, x3].getD p 0 = y5 := ⟨_, rfl⟩
      rw [hy5] at r1' hps
      have HPS := hide hps
      have hp5 : (p : Int) < 5 := by omega
      clear hps fa r7 r1 e1 hp hy5
      go_wp2_with (at_builtin; refine wpList_append_rd _ rfl (.tmp 76) (.tmp 84) rfl w7.heap.size _ j (toI (partO [x0, x1, x2, x3] q j)) rfl (hO.out.alloc _) _ 1 1 [(y5 : Int)] rfl (one_rd _ _) (by omega) (by have := hBw.out.size; simp; omega) ?_)
      intro v' w' hO' hG'
      obtain ⟨a', c', hv'⟩ := form_slice hO'
      rw [hv'] at hO' ⊢
      have hb0 : Below w7.heap.size w7 (wr.alloc (.cells #[.int .i64 (y5 : Int)] 3)) := hBw.out.alloc hBw.out.size _
      have HB' := hide (hb0.grown hG' hb0.size (fun j hj => (hO.out.lt j hj).1))
      have HO' := hide hO'
      clear hO' hG' hb0 hv'
      go_wp2_with fail
      go_roundw
      case rel =>
        refine ⟨j + 1, by go_num, by omega, ⟨a', c', rfl⟩, ?_, HB'.out⟩
        have := HO'.out
        rw [HPS.out]
        simp only [toI, List.map_append, List.map_cons, List.map_nil] at this ⊢
        exact this
      case measure => simp [intOf]; omega
    · obtain rfl : j = 4 := by omega
      rw [show (((4 : Nat)) : Int) = (4 : Int) from rfl]
      have hperm := partO_perm x0 x1 x2 x3 q hk24
      have hl4 : (partO [x0, x1, x2, x3] q 4).length = 4 := by simp [partO]
      have hn4 : (partO [x0, x1, x2, x3] q 4 ++ [x4]).Nodup := (hperm.append_right [x4]).nodup_iff.1 HN.out
      have ht4 : ∀ x ∈ partO [x0, x1, x2, x3] q 4 ++ [x4], x < 52 := fun x hx => HLT.out x ((hperm.append_right [x4]).mem_iff.2 hx)
      have EP := hide (shE_ok hl4 hn4 ht4)
      have VP : Hid (shV (toI (partO [x0, x1, x2, x3] q 4)) (x4 : Int) false = (A : Int)) := hide (by rw [shV_ok false hl4 hn4 ht4, hC.out _ hperm])
      have HRS := hide (Rd.of_own hO.out)
      have r4 := HC1.out 4 (by omega)
      have r4' : wr.cell? ⟨b, off + 4, none⟩ = some (.int .i64 x4) := (hBw.out.cell (p := ⟨b, off + 4, none⟩) (World.block_lt_of_cell? w7 _ r4)).trans r4
      have HB8 := hide (HB7.out.trans (hBw.out.mono HB7.out.size))
      clear hperm hl4 hn4 ht4 r4 HC7 HC1 hO hBw HL7 HR7
      go_wp2_with fail
      refine (Show_any ad 4 cc _ (x4 : Int) false wr HRS.out).mono ?_
      rintro e w9 ⟨rfl, hB9⟩
      rw [EP.out, VP.out]
      have HB9 := hide (HB8.out.trans (hB9.mono HB8.out.size))
      clear hB9 r4'
      have KB := hide (Rd.of_blk (n := 4) (Blk.new w9 3 [12, 13, 15, 38] _ rfl) rfl (by omega))
      have E29 := hide (shE_ok (L := [12, 13, 15, 38]) (s := 14) rfl (by decide) (by decide))
      have V29 : Hid (shV (toI [12, 13, 15, 38]) ((14 : Nat) : Int) false = 29) := hide (by rw [shV_ok (L := [12, 13, 15, 38]) (s := 14) false rfl (by decide) (by decide), best29]; rfl)
      go_wp2_with fail
      refine (Show_any (some ⟨w9.heap.size, 0, none⟩) 4 4 (toI [12, 13, 15, 38]) ((14 : Nat) : Int) false _ KB.out).mono ?_
      rintro e w10 ⟨rfl, hB10⟩
      rw [E29.out, V29.out]
      have hAA : ((A : Int) == (A : Int)) = true := by simp
      have HB10 := hide (HB9.out.trans (((Below.refl _ w9).alloc (Nat.le_refl _) _).trans (hB10.mono (by simp)) |>.mono HB9.out.size))
      clear hB10
      go_wp2_with fail
      go_ret
      exact ⟨rfl, HB10.out⟩

end Go.Proofs.Ytneafmjbekafmaa
