/-
  The search where the mover cannot move; the search at every board. No conditions beyond those that each theorem bears.
-/
import Derived.Test.YtkmghlmniahgbaaDoorBs
namespace Go.Proofs.YtkmghlmniahgbaaDoor
open Go.RowKit

attribute [local irreducible] so mvS ob pz bln num sps ldd

set_option maxRecDepth 100000 in
set_option maxHeartbeats 4000000 in
theorem bp_any (W H l : Nat) (hW : 1 ≤ W ∧ W ≤ 8) (hH : H ≤ 8) (Z : List Int) (m : Nat) (hm : m = 1 ∨ m = 2) (hl : l ≤ 5) (hs : sps W H Z m = []) (ih : sps W H Z (3 - m) ≠ [] → BsAt W H (l + 1) Z (3 - m)) (least most : Int) (w : World) (h1 : -65 ≤ least) (h2 : least < most) (h3 : most ≤ 65) (hT : DTab w) :
    Calls Tryd.prog 54 #[.agg (brd W H Z m), .int .i64 (l + 1 : Nat), .int .i64 least, .int .i64 most] w fun e w' => ∃ r, e = .returned (.int .i64 r) ∧ AB W (ob W H (l + 1) Z m) least most r 0 ∧ Below w.heap.size w w' := by
  have hWH : W * H ≤ 64 := by have : W * H ≤ 8 * 8 := Nat.mul_le_mul hW.2 hH; omega
  have hm' : 3 - m = 1 ∨ 3 - m = 2 := by omega
  have hmm : 3 - (3 - m) = m := by omega
  have HM2 := hide (fun W1 h1 => moves_any (Z := Z) (m := 3 - m) hW hH hm' W1 h1)
  have HPS := hide (fun W1 => passed_any (W := W) (H := H) (Z := Z) hm W1)
  have HLD := hide (fun W1 => lead_any (W := W) (H := H) (Z := Z) (m := m) hW hH W1)
  have HZ2 := hide (mvS_zero hW hH Z (3 - m))
  have HN : Hid (sps W H Z (3 - m) = [] → AB W (ob W H (l + 1) Z m) least most (ldd W H Z m) 0) := hide (fun e => by rw [ob_none hs e]; exact AB.exact (ldd_bd hWH Z m))
  have HP : Hid (sps W H Z (3 - m) ≠ [] → ∀ r a, AB W (ob W H (l + 1) Z (3 - m)) (-most) (-least) r a → AB W (ob W H (l + 1) Z m) least most (-r) 0) := hide (fun e r a h => by rw [ob_pass hm hs e]; exact h.neg)
  have HIH := hide (fun e W1 hT1 => ih e (-most) (-least) W1 (by omega) (by omega) (by omega) hT1)
  have HT := hide hT
  have h0w := hT.lt
  obtain ⟨L1, hL1⟩ : ∃ L1 : Nat, l + 1 = L1 := ⟨_, rfl⟩
  have hl6 : (L1 : Int) ≤ 6 := by omega
  rw [hL1] at HN HP HIH ⊢
  dsimp only [brd] at HM2 HPS HLD HIH ⊢
  rw [hmm] at HM2 HPS HIH
  clear hL1 ih hT hm hm' hmm hW hH hs hWH
  generalize so W H Z m = o at *
  generalize so W H Z (3 - m) = t at *
  generalize so W H Z 0 = e at *
  generalize ldd W H Z m = LD at *
  obtain ⟨w1, hw1⟩ : ∃ w1, w.alloc (.cells (bdA o t e) 55) = w1 := ⟨_, rfl⟩
  have K1 : Bd w1 w.heap.size o t e := by rw [← hw1]; exact Bd.new w o t e
  have HB1 : Hid (Below w.heap.size w w1) := hide (by rw [← hw1]; exact (Below.refl _ _).alloc (Nat.le_refl _) _)
  go_enter Tryd.func54, Tryd.ntmps54
  go_upto_region 1 with fail
  clear hw1
  go_wp2_with (refine wpList_load_bd rfl (.tmp 4) rfl w.heap.size rfl K1 ?_)
  refine (HPS.out _).mono ?_
  rintro r w2 ⟨rfl, hb2⟩
  have HK2 := hide (K1.below hb2 K1.lt)
  have HB2 := hide (HB1.out.trans (hb2.mono HB1.out.size))
  have K22 := Bd.new w2 0 0 0
  clear hb2 K1 HPS
  go_upto_region 2 with (refine wpList_store_bd rfl (.tmp 9) (.tmp 13) rfl w2.heap.size rfl rfl K22 ?_; intro w3 V3 kk3)
  have B23 : Below w2.heap.size w2 w3 := (((Keeps.refl (fun k => k = w2.heap.size) w2).alloc _).trans kk3).below (Nat.le_refl _) (fun k hk e => by omega)
  have HK3 := hide (HK2.out.below B23 HK2.out.lt)
  have HB3 := hide (HB2.out.trans (B23.mono HB2.out.size))
  have HC3 := hide (HM2.out w3 (HT.out.mono HB3.out))
  clear kk3 B23 K22 HB2 HK2 HM2
  go_wp2_with (refine wpList_load_bd rfl (.tmp 9) rfl w2.heap.size rfl V3 ?_)
  refine HC3.out.mono ?_
  rintro r w4 ⟨rfl, hb4⟩
  have V4 := V3.below hb4 V3.lt
  have K4 := HK3.out.below hb4 HK3.out.lt
  have HB4 := hide (HB3.out.trans (hb4.mono HB3.out.size))
  clear hb4 V3 HC3 HB3 HK3
  by_cases hs2 : sps W H Z (3 - m) = []
  · have hz2 := HZ2.out.2 hs2
    have HAB := hide (HN.out hs2)
    have hzz : (((0 : Nat) : Int) == 0) = true := by rfl
    rw [hz2]
    clear hs2 hz2 HIH
    go_wp2_with (refine wpList_load_bd rfl (.tmp 4) rfl w.heap.size rfl K4 ?_)
    refine (HLD.out _).mono ?_
    rintro r w5 ⟨rfl, hb5⟩
    have HB5 := hide (HB4.out.trans (hb5.mono HB4.out.size))
    clear hb5
    go_wp2_with fail
    go_ret
    exact ⟨_, rfl, HAB.out, HB5.out⟩
  · have hz2 : mvS W H Z (3 - m) ≠ 0 := fun e => hs2 (HZ2.out.1 e)
    have HAB := hide (HP.out hs2)
    have HC4 := hide (HIH.out hs2 w4 (HT.out.mono HB4.out))
    obtain ⟨MV, hMV⟩ : ∃ MV, mvS W H Z (3 - m) = MV := ⟨_, rfl⟩
    rw [hMV] at hz2 ⊢
    have hzz : ((MV : Int) == 0) = false := by rw [beq_eq_false_iff_ne]; omega
    clear hs2 hz2 hMV HIH
    go_wp2_with (refine wpList_load_bd rfl (.tmp 9) rfl w2.heap.size rfl V4 ?_)
    refine HC4.out.mono ?_
    rintro r0 w5 ⟨r, a, rfl, hA, hb5⟩
    have HB5 := hide (HB4.out.trans (hb5.mono HB4.out.size))
    have HA := hide (HAB.out r a hA)
    have hrb := hA.bd
    clear hb5 hA HC4
    go_wp2_with fail
    go_ret
    exact ⟨_, rfl, HA.out, HB5.out⟩

set_option maxRecDepth 100000 in
set_option maxHeartbeats 4000000 in
theorem bs_pass (W H l : Nat) (hW : 1 ≤ W ∧ W ≤ 8) (hH : H ≤ 8) (Z : List Int) (m : Nat) (hm : m = 1 ∨ m = 2) (hl : l ≤ 5) (hs : sps W H Z m = []) (ih : sps W H Z (3 - m) ≠ [] → BsAt W H (l + 1) Z (3 - m)) : BsAt W H (l + 1) Z m := by
  intro least most w h1 h2 h3 hT
  have HM1 := hide (fun W1 h1 => moves_any (Z := Z) hW hH hm W1 h1)
  have HZ1 : Hid (mvS W H Z m = 0) := hide ((mvS_zero hW hH Z m).2 hs)
  have HBP := hide (fun W1 hT1 => bp_any W H l hW hH Z m hm hl hs ih least most W1 h1 h2 h3 hT1)
  rw [HZ1.out] at HM1
  have HT := hide hT
  obtain ⟨s, hs'⟩ : ∃ s, ob W H (l + 1) Z m = s := ⟨_, rfl⟩
  rw [hs'] at HBP ⊢
  obtain ⟨L1, hL1⟩ : ∃ L1 : Nat, l + 1 = L1 := ⟨_, rfl⟩
  have hl6 : (L1 : Int) ≤ 6 := by omega
  have hl0 : ((L1 : Int) == 0) = false := by rw [beq_eq_false_iff_ne]; omega
  rw [hL1] at HBP ⊢
  dsimp only [brd] at HM1 HBP ⊢
  clear hs' hL1 ih hT hm hW hH hs HZ1
  generalize so W H Z m = o at *
  generalize so W H Z (3 - m) = t at *
  generalize so W H Z 0 = e at *
  refine (callsIn_wide (n := 3)).1 ?_
  refine callsIn_of_wp_marks Tryd.func43 rfl trivial ?_ rfl
  simp only [Tryd.ntmps43, List.size_toArray, List.length_cons, List.length_nil, Nat.reduceAdd, Nat.reduceSub, Array.replicate_succ, Array.replicate_zero, List.push_toArray, List.append_toArray, List.nil_append, List.cons_append]
  refine wpIn_wide.2 ?_
  go_upto_region 1 with fail
  obtain ⟨w1, hw1⟩ : ∃ w1, ((w.alloc (.cells (bdA o t e) 55)).alloc (.cells #[.int .i64 (L1 : Int)] 3)).alloc (.cells #[.int .i64 most] 3) = w1 := ⟨_, rfl⟩
  have K1 : Bd w1 w.heap.size o t e := by rw [← hw1]; exact ((Bd.new w o t e).old _).old _
  have cl1 : w1.cell? ⟨w.heap.size + 1, 0, none⟩ = some (.int .i64 (L1 : Nat)) := by
    rw [← hw1]
    have := old_cell (.cells #[.int .i64 most] 3) (new_cell (w.alloc (.cells (bdA o t e) 55)) (.int .i64 (L1 : Nat)) 3)
    rw [World.size_alloc] at this
    exact this
  have cm1 : w1.cell? ⟨w.heap.size + 2, 0, none⟩ = some (.int .i64 most) := by
    rw [← hw1]
    have := new_cell ((w.alloc (.cells (bdA o t e) 55)).alloc (.cells #[.int .i64 (L1 : Int)] 3)) (.int .i64 most) 3
    rw [World.size_alloc, World.size_alloc] at this
    exact this
  have HB1 : Hid (Below w.heap.size w w1) := hide (by rw [← hw1]; exact (((Below.refl _ w).alloc (Nat.le_refl _) _).alloc (by simp) _).alloc (by simp; omega) _)
  rw [hw1]
  clear hw1
  have HC1 := hide (HM1.out w1 (HT.out.mono HB1.out))
  go_wp2_with (refine wpList_load_bd rfl (.tmp 4) rfl w.heap.size rfl K1 ?_)
  refine HC1.out.mono ?_
  rintro r w2 ⟨rfl, hb2⟩
  have K2 := K1.below hb2 K1.lt
  have cl2 := (hb2.cell (p := ⟨w.heap.size + 1, 0, none⟩) (World.block_lt_of_cell? w1 _ cl1)).trans cl1
  have cm2 := (hb2.cell (p := ⟨w.heap.size + 2, 0, none⟩) (World.block_lt_of_cell? w1 _ cm1)).trans cm1
  have HBW := hide (HB1.out.trans (hb2.mono HB1.out.size))
  have HC2 := hide (HBP.out w2 (HT.out.mono HBW.out))
  have hzz : (((0 : Nat) : Int) == 0) = true := by rfl
  clear K1 cl1 cm1 HC1 hb2 HM1 HB1 HBP
  go_wp2_with (refine wpList_load_bd rfl (.tmp 4) rfl w.heap.size rfl K2 ?_)
  refine HC2.out.mono ?_
  rintro r0 w3 ⟨r, rfl, hA, hb3⟩
  have HB3 := hide (HBW.out.trans (hb3.mono HBW.out.size))
  have HA := hide hA
  clear hb3 hA HC2
  go_wp2_with fail
  exact ⟨_, results_two3 rfl _ _ rfl rfl, _, _, rfl, HA.out, HB3.out⟩

theorem bs_all (W H : Nat) (hW : 1 ≤ W ∧ W ≤ 8) (hH : H ≤ 8) : ∀ l, l ≤ 6 → ∀ (Z : List Int) (m : Nat), (m = 1 ∨ m = 2) → BsAt W H l Z m
  | 0, _, Z, m, _ => bs_zero W H hW hH Z m
  | l + 1, hl, Z, m, hm => by
    have ih := bs_all W H hW hH l (by omega)
    have mv : ∀ m', (m' = 1 ∨ m' = 2) → sps W H Z m' ≠ [] → BsAt W H (l + 1) Z m' := fun m' hm' hs => bs_moves W H l hW hH Z m' hm' (by omega) hs (fun p => ih _ _ (by omega))
    by_cases hs : sps W H Z m = []
    · exact bs_pass W H l hW hH Z m hm (by omega) hs (fun e => mv (3 - m) (by omega) e)
    · exact mv m hm hs

end Go.Proofs.YtkmghlmniahgbaaDoor
