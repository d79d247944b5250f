/-
  What a sign turns; a board behind a move, and passed; by how many signs the mover is ahead: walked. No conditions beyond those that each theorem bears.
-/
import Derived.Test.YtkmghlmniahgbaaDoorBo
import Derived.Test.YtkmghlmniahgbaaDoorPz
namespace Go.Proofs.YtkmghlmniahgbaaDoor
open Go.RowKit

theorem tr_len {c : Int → Int → Int} {m d i r : Nat} {x y : Int} (hc : OnC c) (hm : m = 1 ∨ m = 2) (hd : d < 8) (hb : onB 8 8 x y = true) (h : TrI c m (dxs d) (dys d) x y i r) : i ≤ 7 := by
  by_cases hi : i = 0
  · omega
  · have h1 := h.2.1 i (by omega) (by omega)
    exact far_8 (ds_dir hd) hb (hc _ _ (by rw [h1]; omega))

theorem one_int (x t : Int) : x + ((0 + 1 : Nat) : Int) * t = x + t := by simp

/-- The next place of a way. -/
theorem bv_way {d : Nat} (hd : d < 8) {x y : Int} (i : Nat) (h : onB 8 8 (x + ((i + 1 : Nat) : Int) * dxs d) (y + ((i + 1 : Nat) : Int) * dys d) = true) : stp d (bv (x + ((i + 1 : Nat) : Int) * dxs d) (y + ((i + 1 : Nat) : Int) * dys d)) = bv (x + ((i + 1 + 1 : Nat) : Int) * dxs d) (y + ((i + 1 + 1 : Nat) : Int) * dys d) := by
  rw [bv_step hd h]
  congr 1
  · rw [sh1 (i + 1)]; omega
  · rw [sh1 (i + 1)]; omega

/-- The place at the i-th step. -/
def wayB (x y : Int) (d i : Nat) : Nat := bv (x + ((i + 1 : Nat) : Int) * dxs d) (y + ((i + 1 : Nat) : Int) * dys d)

attribute [local irreducible] stp shi mks wayB

set_option maxRecDepth 100000 in
set_option maxHeartbeats 4000000 in
theorem turned_raw (c : Int → Int → Int) (m o t e : Nat) (x y : Int) (hc : OnC c) (hm : m = 1 ∨ m = 2) (ho : o < 2 ^ 64) (ht : t < 2 ^ 64) (hb : onB 8 8 x y = true) (hbo : ∀ x y, bt o x y = true ↔ c x y = (m : Int)) (hbt : ∀ x y, bt t x y = true ↔ c x y = 3 - (m : Int)) (w : World) (hT : DTab w) :
    Calls Tryd.prog 36 #[.agg (bdA o t e), .int .u64 (bv x y : Nat)] w fun r w' => ∃ a, r = .returned (.int .u64 (a : Nat)) ∧ AlI c m x y 8 a ∧ Below w.heap.size w w' := by
  have HT := hide hT
  have HSTEP := hide (fun d p (hd : d < 8) (hp : p < 2 ^ 64) W => step_any d p hd hp W)
  have HFIRST : Hid (∀ d, d < 8 → stp d (bv x y) = wayB x y d 0) := hide (fun d hd => by unfold wayB; rw [bv_step hd hb, one_int, one_int])
  have HON : Hid (∀ d i, c (x + ((i + 1 : Nat) : Int) * dxs d) (y + ((i + 1 : Nat) : Int) * dys d) = 3 - (m : Int) → d < 8 → stp d (wayB x y d i) = wayB x y d (i + 1) ∧ bits BinOp.and IntKind.u64 (wayB x y d i : Nat) (t : Int) = (wayB x y d i : Nat) ∧ wayB x y d i ≠ 0) := hide (fun d i h hd => by
    have h8 := hc _ _ (show 0 ≤ c _ _ by rw [h]; omega)
    have hn : wayB x y d i ≠ 0 := fun e => by
      unfold wayB at e
      rw [bv_zero, h8] at e; cases e
    refine ⟨by unfold wayB; exact bv_way hd i h8, ?_, hn⟩
    rw [u64_and_nat _ _ (by rw [← p64]; unfold wayB; exact bv_lt _ _) (by rw [← p64]; exact ht)]
    unfold wayB
    rw [bv_and, if_pos ((hbt _ _).2 h)])
  have HOFF : Hid (∀ d i, ¬ c (x + ((i + 1 : Nat) : Int) * dxs d) (y + ((i + 1 : Nat) : Int) * dys d) = 3 - (m : Int) → bits BinOp.and IntKind.u64 (wayB x y d i : Nat) (t : Int) = 0) := hide (fun d i h => by
    rw [u64_and_nat _ _ (by rw [← p64]; unfold wayB; exact bv_lt _ _) (by rw [← p64]; exact ht)]
    unfold wayB
    rw [bv_and, if_neg (fun e => h ((hbt _ _).1 e))]; rfl)
  have HOWN : Hid (∀ d i, c (x + ((i + 1 : Nat) : Int) * dxs d) (y + ((i + 1 : Nat) : Int) * dys d) = (m : Int) → bits BinOp.and IntKind.u64 (wayB x y d i : Nat) (o : Int) = (wayB x y d i : Nat) ∧ wayB x y d i ≠ 0) := hide (fun d i h => by
    have h8 := hc _ _ (show 0 ≤ c _ _ by rw [h]; omega)
    have hn : wayB x y d i ≠ 0 := fun e => by
      unfold wayB at e
      rw [bv_zero, h8] at e; cases e
    refine ⟨?_, hn⟩
    rw [u64_and_nat _ _ (by rw [← p64]; unfold wayB; exact bv_lt _ _) (by rw [← p64]; exact ho)]
    unfold wayB
    rw [bv_and, if_pos ((hbo _ _).2 h)])
  have HNOT : Hid (∀ d i, ¬ c (x + ((i + 1 : Nat) : Int) * dxs d) (y + ((i + 1 : Nat) : Int) * dys d) = (m : Int) → bits BinOp.and IntKind.u64 (wayB x y d i : Nat) (o : Int) = 0) := hide (fun d i h => by
    rw [u64_and_nat _ _ (by rw [← p64]; unfold wayB; exact bv_lt _ _) (by rw [← p64]; exact ho)]
    unfold wayB
    rw [bv_and, if_neg (fun e => h ((hbo _ _).1 e))]; rfl)
  have HTN : Hid (∀ d i r, TrI c m (dxs d) (dys d) x y i r → c (x + ((i + 1 : Nat) : Int) * dxs d) (y + ((i + 1 : Nat) : Int) * dys d) = 3 - (m : Int) → TrI c m (dxs d) (dys d) x y (i + 1) (r ||| wayB x y d i)) := hide (fun d i r h h2 => by unfold wayB; exact tr_next hc (by omega) h h2)
  have HLEN := hide (fun d i r (hd : d < 8) h => tr_len (c := c) (m := m) (d := d) (i := i) (r := r) (x := x) (y := y) hc hm hd hb h)
  have HWL : Hid (∀ d i, wayB x y d i < 2 ^ 64) := hide (fun d i => by unfold wayB; exact bv_lt _ _)
  have HBL := hide (bv_lt x y)
  obtain ⟨B, hB⟩ : ∃ B, bv x y = B := ⟨_, rfl⟩
  rw [hB] at HFIRST HBL ⊢
  clear hT hc hm ho ht hb hbo hbt hB
  go_enter Tryd.func36, Tryd.ntmps36
  go_upto_region 1 with fail
  obtain ⟨w1, hw1⟩ : ∃ w1, w.alloc (.cells (bdA o t e) 55) = w1 := ⟨_, rfl⟩
  have HB0 : Hid (Below w.heap.size w w1) := hide (by rw [← hw1]; exact (Below.refl _ _).alloc (Nat.le_refl _) _)
  have HBD : Hid (Bd w1 w.heap.size o t e) := hide (by rw [← hw1]; exact Bd.new w o t e)
  have HR0 := HT.out.mono HB0.out
  have hs1 : w.heap.size < w1.heap.size := HBD.out.lt
  rw [hw1]
  clear hw1
  go_wp2_with (refine wpList_load_mid rfl 74 _ rfl 0 0 rfl dirV _ HR0 Tryd.underlying74 rfl size74 ?_)
  clear HR0
  go_loopw [5, 11] (fun u v wr => ∃ j f : Nat, v = .int .i64 j ∧ u = .int .u64 f ∧ j ≤ 8 ∧ Hid (AlI c m x y j f) ∧ Hid (Below w1.heap.size w1 wr)) (fun _ v _ => 8 - (intOf v).toNat)
  case atStart => exact ⟨0, 0, rfl, rfl, by omega, hide (al_start _ _ _ _), hide (Below.refl _ _)⟩
  case round =>
    obtain ⟨j, f, rfl, rfl, hj8, hF, hB⟩ := hrel
    by_cases hj : j < 8
    · have hj' : (j : Int) < 8 := by omega
      have hidx := run_dir j hj
      obtain ⟨W0, hW0⟩ : ∃ W0, wr.alloc (.cells (dirA j) 73) = W0 := ⟨_, rfl⟩
      obtain ⟨db, hdb⟩ : ∃ db, wr.heap.size = db := ⟨_, rfl⟩
      have HDB : Hid (Dr W0 db j) := hide (by rw [← hW0, ← hdb]; exact Dr.new wr j)
      have HBB : Hid (Bd W0 w.heap.size o t e) := hide (by rw [← hW0]; exact (HBD.out.below hB.out hs1).old _)
      have HBW : Hid (Below w1.heap.size w1 W0) := hide (by rw [← hW0]; exact hB.out.alloc hB.out.size _)
      have HC := hide (fun p hp W => HSTEP.out j p hj hp W)
      have HC0 := hide (fun W => HC.out B HBL.out W)
      rw [HFIRST.out j hj] at HC0
      obtain ⟨s0, hs0⟩ : ∃ s0, wayB x y j 0 = s0 := ⟨_, rfl⟩
      rw [hs0] at HC0
      have HS0 := hide hs0
      have HJ := hide hj
      clear hs0 hB
      go_upto_region 6 with fail
      clear hW0 hdb hidx
      have D0 := HDB.out
      go_wp2_with (refine wpList_load_dr rfl (.tmp 7) rfl db rfl D0 ?_)
      refine (HC0.out _).mono ?_
      rintro e9 w5 ⟨rfl, hb5⟩
      have HB5 := hide hb5
      clear hb5 HC0 D0
      go_wp2_with fail
      go_loopg [8, 9] 8 (fun k u v wr => ∃ i r s : Nat, u = .int .u64 r ∧ v = .int .u64 s ∧ i + k = 8 ∧ Hid (wayB x y j i = s) ∧ Hid (TrI c m (dxs j) (dys j) x y i r) ∧ Hid (Below W0.heap.size W0 wr))
      case atStart => exact ⟨0, 0, s0, rfl, rfl, by omega, HS0, hide (tr_start _ _ _ _ _ _), HB5⟩
      case round =>
        clear HS0 HB5
        obtain ⟨i, r, s, rfl, rfl, hik, hS, hR, hB⟩ := hrel
        have HIK := hide hik
        clear hik
        obtain ⟨-, c1, -⟩ := (HBB.out.below hB.out HBB.out.lt).cells
        by_cases hot : c (x + ((i + 1 : Nat) : Int) * dxs j) (y + ((i + 1 : Nat) : Int) * dys j) = 3 - (m : Int)
        · obtain ⟨h1, h2, h3⟩ := HON.out j i hot HJ.out
          have HTR := hide (HTN.out j i r hR.out hot)
          have hl := HLEN.out j (i + 1) _ HJ.out HTR.out
          have HCr := hide (fun W => HC.out _ (HWL.out j i) W)
          rw [h1] at HCr
          have hsb := HWL.out j i
          rw [hS.out] at h2 h3 HTR HCr hsb
          obtain ⟨s1, hs1'⟩ : ∃ s1, wayB x y j (i + 1) = s1 := ⟨_, rfl⟩
          rw [hs1'] at HCr
          have HS1 := hide hs1'
          have hz : ((s : Int) != 0) = true := u64_ne h3
          obtain ⟨r1, hr1⟩ : ∃ r1, r ||| s = r1 := ⟨_, rfl⟩
          rw [hr1] at HTR
          have er1 : bits BinOp.or IntKind.u64 (r : Int) (s : Int) = (r1 : Int) := by rw [u64_or_nat _ _ (by rw [← p64]; exact hR.out.1) (by rw [← p64]; exact hsb), hr1]
          have D0 := HDB.out.below hB.out HDB.out.lt
          clear h1 h3 hs1' hr1 hot hsb
          go_wp2_with (refine wpList_load_dr rfl (.tmp 7) rfl db rfl D0 ?_)
          refine (HCr.out _).mono ?_
          rintro e9 w5 ⟨rfl, hb5⟩
          have HB5 : Hid (Below W0.heap.size W0 w5) := hide (hB.out.trans (hb5.mono hB.out.size))
          clear hb5 D0 hB HCr c1
          go_wp2_with fail
          go_roundg (gk - 1)
          case measure => have := HIK.out; omega
          case rel => exact ⟨i + 1, r1, s1, rfl, rfl, by have := HIK.out; omega, HS1, HTR, HB5⟩
        · have h2 := HOFF.out j i hot
          have hl := HLEN.out j i r HJ.out hR.out
          have HFL := hide (fl_exit (show i < 8 by omega) hR.out.2.1 hot)
          obtain ⟨c0, -, -⟩ := (HBB.out.below hB.out HBB.out.lt).cells
          by_cases hom : c (x + ((i + 1 : Nat) : Int) * dxs j) (y + ((i + 1 : Nat) : Int) * dys j) = (m : Int)
          · obtain ⟨h3, h4⟩ := HOWN.out j i hom
            have HAL : Hid (AlI c m x y (j + 1) (f ||| r)) := hide (al_yes hF.out hR.out (by rw [HFL.out, if_pos hom]))
            rw [hS.out] at h2 h3 h4
            have hz : ((s : Int) != 0) = true := u64_ne h4
            obtain ⟨g1, hg1⟩ : ∃ g1, f ||| r = g1 := ⟨_, rfl⟩
            rw [hg1] at HAL
            have eg1 : bits BinOp.or IntKind.u64 (f : Int) (r : Int) = (g1 : Int) := by rw [u64_or_nat _ _ (by rw [← p64]; exact hF.out.1) (by rw [← p64]; exact hR.out.1), hg1]
            clear h4 hg1 hot hom
            go_wp2_with fail
            refine ⟨⟨j + 1, g1, by go_num, rfl, by omega, HAL, hide (HBW.out.trans (hB.out.mono HBW.out.size))⟩, by simp [intOf]; omega⟩
          · have h3 := HNOT.out j i hom
            have HAL : Hid (AlI c m x y (j + 1) f) := hide (al_no hF.out (by rw [HFL.out, if_neg hom]))
            rw [hS.out] at h2 h3
            clear hot hom
            go_wp2_with fail
            refine ⟨⟨j + 1, f, by go_num, rfl, by omega, HAL, hide (HBW.out.trans (hB.out.mono HBW.out.size))⟩, by simp [intOf]; omega⟩
    · have hj' : ¬ (j : Int) < 8 := by omega
      obtain rfl : j = 8 := by omega
      go_wp2_with fail
      go_ret
      exact ⟨f, rfl, hF.out, HB0.out.trans (hB.out.mono (Nat.le_of_lt hs1))⟩

end Go.Proofs.YtkmghlmniahgbaaDoor
