/-
  four.Best: what it refuses, and what it answers. No conditions beyond those that each theorem bears.
-/
import Derived.Test.YtaglhmkjdajgpaaDoorWo
import Derived.Test.YtaglhmkjdajgpaaDoorBdM
namespace Go.Proofs.YtaglhmkjdajgpaaDoor
open Go.RowKit

set_option maxRecDepth 100000 in
set_option maxHeartbeats 2000000 in
theorem Best_state (W H : Int) (a : Option Addr) (n c : Nat) (zs : List Int) (k deep : Int) (w : World) (h : Rd w a n c zs) (hno : wmG W H zs = false) :
    Calls Tryd.prog 17 #[.agg (gdA W H a n c), .int .i64 k, .int .i64 deep] w fun e w' => e = .returned (.tuple #[.int .i64 0, .int .i64 0, .int .i64 12]) ∧ Below w.heap.size w w' := by
  have HB0 : Hid (Below w.heap.size w (w.alloc (.cells (gdA W H a n c) 24))) := hide ((Below.refl _ _).alloc (Nat.le_refl _) _)
  have HW := hide (wellOf_no W H a n c zs k _ (h.mono HB0.out) hno)
  have G0 := Gd.new w W H a n c
  clear h hno
  go_enter Tryd.func17, Tryd.ntmps17
  go_wp2_with (refine wpList_load_gd rfl (.tmp 3) rfl w.heap.size rfl G0 ?_)
  clear G0
  refine HW.out.mono ?_
  rintro e w2 ⟨rfl, hb2⟩
  have HB2 := hide (HB0.out.trans (hb2.mono HB0.out.size))
  clear hb2 HW HB0
  go_wp2_with fail
  go_ret3
  exact ⟨rfl, HB2.out⟩

set_option maxRecDepth 100000 in
set_option maxHeartbeats 2000000 in
theorem Best_k (gW gH : Nat) (a : Option Addr) (n c : Nat) (zs : List Int) (k deep : Int) (w : World) (h : Rd w a n c zs) (hgW : 1 ≤ gW ∧ gW ≤ 10) (hgH : 1 ≤ gH ∧ gH ≤ 10) (hgm : gW * gH = n) (hmay : mayP gW gH zs) (hh : hng gW zs = false) (hk : ¬ (1 ≤ k ∧ k ≤ 10)) :
    Calls Tryd.prog 17 #[.agg (gdA gW gH a n c), .int .i64 k, .int .i64 deep] w fun e w' => e = .returned (.tuple #[.int .i64 0, .int .i64 0, .int .i64 3]) ∧ Below w.heap.size w w' := by
  have HB0 : Hid (Below w.heap.size w (w.alloc (.cells (gdA gW gH a n c) 24))) := hide ((Below.refl _ _).alloc (Nat.le_refl _) _)
  have HW := hide (wellOf_k gW gH a n c zs k _ (h.mono HB0.out) hgW hgH hgm hmay hh hk)
  have G0 := Gd.new w gW gH a n c
  clear h hgm hmay hh hk
  go_enter Tryd.func17, Tryd.ntmps17
  go_wp2_with (refine wpList_load_gd rfl (.tmp 3) rfl w.heap.size rfl G0 ?_)
  clear G0
  refine HW.out.mono ?_
  rintro e w2 ⟨rfl, hb2⟩
  have HB2 := hide (HB0.out.trans (hb2.mono HB0.out.size))
  clear hb2 HW HB0
  go_wp2_with fail
  go_ret3
  exact ⟨rfl, HB2.out⟩

/-- A board that may be a well: its numbers. -/
structure Bw (gW gH n : Nat) (zs : List Int) : Prop where
  wd : 1 ≤ gW ∧ gW ≤ 10
  ht : 1 ≤ gH ∧ gH ≤ 10
  mul : gW * gH = n
  may : mayP gW gH zs
  hn : hng gW zs = false
  z : Zok n zs

theorem Bw.n100 {gW gH n : Nat} {zs : List Int} (b : Bw gW gH n zs) : n ≤ 100 := by
  have : gW * gH ≤ 10 * 10 := Nat.mul_le_mul b.wd.2 b.ht.2
  have := b.mul
  omega

set_option maxRecDepth 100000 in
set_option maxHeartbeats 2000000 in
theorem Best_deep (gW gH : Nat) (a : Option Addr) (n c k : Nat) (zs : List Int) (deep : Int) (w : World) (hT : Tab w) (h : Rd w a n c zs) (b : Bw gW gH n zs) (hk : 1 ≤ k ∧ k ≤ 10) (hd : deep < 0 ∨ (0 ≤ deep ∧ 6 < deep)) :
    Calls Tryd.prog 17 #[.agg (gdA gW gH a n c), .int .i64 (k : Nat), .int .i64 deep] w fun e w' => e = .returned (.tuple #[.int .i64 0, .int .i64 0, .int .i64 3]) ∧ Below w.heap.size w w' := by
  have HB0 : Hid (Below w.heap.size w (w.alloc (.cells (gdA gW gH a n c) 24))) := hide ((Below.refl _ _).alloc (Nat.le_refl _) _)
  have HW := hide (wellOf_yes gW gH a n c k zs _ (hT.mono HB0.out) (h.mono HB0.out) b.wd b.ht b.mul b.may b.hn hk)
  have G0 := Gd.new w gW gH a n c
  clear h b hk hT
  rcases hd with hd | ⟨hd, hd2⟩
  all_goals
    go_enter Tryd.func17, Tryd.ntmps17
    go_wp2_with (refine wpList_load_gd rfl (.tmp 3) rfl w.heap.size rfl G0 ?_)
    clear G0
    refine HW.out.mono ?_
    rintro e w2 ⟨cc, wb, cb, -, rfl, -, hb2, -, -⟩
    have HB2 := hide (HB0.out.trans (hb2.mono HB0.out.size))
    clear hb2 HW HB0
    go_wp2_with fail
    go_ret3
    exact ⟨rfl, HB2.out⟩

set_option maxRecDepth 100000 in
set_option maxHeartbeats 4000000 in
theorem Best_in (gW gH : Nat) (a : Option Addr) (n c k d : Nat) (zs : List Int) (w : World) (hT : Tab w) (h : Rd w a n c zs) (b : Bw gW gH n zs) (hk : 1 ≤ k ∧ k ≤ 10) (hd : d ≤ 6) :
    Calls Tryd.prog 17 #[.agg (gdA gW gH a n c), .int .i64 (k : Nat), .int .i64 (d : Nat)] w fun e w' => e = .returned (.tuple #[.int .i64 (if mvO zs = 0 then 0 else (rbd gW gH k d 0 zs (mvO zs)).1), .int .i64 (if mvO zs = 0 then 0 else (rbd gW gH k d 0 zs (mvO zs)).2), .int .i64 (if mvO zs = 0 then 7 else 0)]) ∧ Below w.heap.size w w' := by
  have HB0 : Hid (Below w.heap.size w (w.alloc (.cells (gdA gW gH a n c) 24))) := hide ((Below.refl _ _).alloc (Nat.le_refl _) _)
  have HW := hide (wellOf_yes gW gH a n c k zs _ (hT.mono HB0.out) (h.mono HB0.out) b.wd b.ht b.mul b.may b.hn hk)
  have G0 := Gd.new w gW gH a n c
  have HMV := hide (fun (ad : Option Addr) cc W1 (hR : Rd W1 ad n cc zs) => moverOf_any gW gH ad n cc zs b.n100 b.z.2 W1 hR)
  have hm2 := mvO_12 zs
  have hd0 : ¬ (d : Int) < 0 := by omega
  have hd6 : ¬ (6 : Int) < (d : Int) := by omega
  have HBV := hide (fun m (hm : m = 1 ∨ m = 2) (h0 : wnZ gW gH k zs = 0) => (rbd_bvl (H := gH) b.wd hk.1 d 0 zs m hm (by omega) (by rw [b.mul]; exact b.z) h0).1)
  have HRW := hide (fun m (h0 : wnZ gW gH k zs = m) => rbd_who (d := d) (s := 0) h0)
  have HRN := hide (fun m (h0 : ¬ wnZ gW gH k zs = m) h1 => rbd_won (d := d) (s := 0) h0 h1)
  have HZ := hide b.z
  obtain ⟨M, hM⟩ : ∃ M, mvO zs = M := ⟨_, rfl⟩
  rw [hM] at HMV hm2 ⊢
  by_cases hM0 : M = 0
  · rw [if_pos hM0, if_pos hM0, if_pos hM0]
    subst hM0
    clear h b hk hT HBV HRW HRN hM
    go_enter Tryd.func17, Tryd.ntmps17
    go_wp2_with (refine wpList_load_gd rfl (.tmp 3) rfl w.heap.size rfl G0 ?_)
    clear G0
    refine HW.out.mono ?_
    rintro e w2 ⟨cc, wb, cb, hok, rfl, hws, hb2, -, -⟩
    have HB2 := hide (HB0.out.trans (hb2.mono HB0.out.size))
    have HMV2 := hide (HMV.out _ _ w2 hws.rd)
    have HR := hws.range
    clear hb2 HW HB0 HMV hws hok
    go_wp2_with (refine wpList_load_mid rfl 24 _ rfl wb 0 rfl [.int .i64 (gW : Nat), .int .i64 (gH : Nat), .slice (some ⟨cb, 0, none⟩) n cc] _ HR Tryd.underlying24 rfl size24 ?_)
    clear HR
    refine HMV2.out.mono ?_
    rintro e w3 ⟨rfl, hb3⟩
    have HB3 := hide (HB2.out.trans (hb3.mono HB2.out.size))
    clear hb3 HMV2
    go_wp2_with fail
    go_ret3
    exact ⟨rfl, HB3.out⟩
  rw [if_neg hM0, if_neg hM0, if_neg hM0]
  have hM12 : M = 1 ∨ M = 2 := by omega
  have hMz : ((M : Int) == 0) = false := by simp; omega
  obtain ⟨WN, hWN⟩ : ∃ WN, wnZ gW gH k zs = WN := ⟨_, rfl⟩
  rw [hWN] at HBV HRW HRN
  have HWNE := hide hWN
  obtain ⟨⟨Rv, Rc⟩, hR⟩ : ∃ P, rbd gW gH k d 0 zs M = P := ⟨_, rfl⟩
  have HBV2 : Hid (WN = 0 → bvl gW gH k d 0 zs M = (Rv, Rc)) := hide (fun h0 => by rw [← hR]; exact (HBV.out M hM12 h0).symm)
  have HRW2 : Hid (WN = M → Rv = 100 ∧ Rc = -1) := hide (fun h0 => by have := HRW.out M h0; rw [hR] at this; exact ⟨congrArg Prod.fst this, congrArg Prod.snd this⟩)
  have HRN2 : Hid (¬ WN = M → 0 < WN → Rv = -100 ∧ Rc = -1) := hide (fun h0 h1 => by have := HRN.out M h0 h1; rw [hR] at this; exact ⟨congrArg Prod.fst this, congrArg Prod.snd this⟩)
  rw [hR]
  dsimp only
  clear h b hk hT HBV HRW HRN hM hR hWN
  go_enter Tryd.func17, Tryd.ntmps17
  go_wp2_with (refine wpList_load_gd rfl (.tmp 3) rfl w.heap.size rfl G0 ?_)
  clear G0
  refine HW.out.mono ?_
  rintro e w2 ⟨cc, wb, cb, hok, rfl, hws, hb2, -, -⟩
  have HB2 := hide (HB0.out.trans (hb2.mono HB0.out.size))
  have HMV2 := hide (HMV.out _ _ w2 hws.rd)
  have HWS := hide hws
  have HOK := hide hok
  have HR := hws.range
  clear hb2 HW HB0 HMV hws hok
  go_wp2_with (refine wpList_load_mid rfl 24 _ rfl wb 0 rfl [.int .i64 (gW : Nat), .int .i64 (gH : Nat), .slice (some ⟨cb, 0, none⟩) n cc] _ HR Tryd.underlying24 rfl size24 ?_)
  clear HR
  refine HMV2.out.mono ?_
  rintro e w3 ⟨rfl, hb3⟩
  have HB3 := hide (HB2.out.trans (hb3.mono HB2.out.size))
  have HWS3 := hide (HWS.out.grow hb3)
  clear hb3 HMV2 HWS HB2
  have HWI := hide (winner_any ⟨gW, gH, k, n, cc, wb, cb⟩ HOK.out zs HZ.out w3 HWS3.out)
  dsimp only at HWI
  rw [HWNE.out] at HWI
  go_wp2_with fail
  refine HWI.out.mono ?_
  rintro e w4 ⟨rfl, hb4⟩
  have HB4 := hide (HB3.out.trans (hb4.mono HB3.out.size))
  have HWS4 := hide (HWS3.out.grow hb4)
  clear hb4 HWI HB3 HWS3
  by_cases e0 : WN = 0
  · have hb0 : ((WN : Int) == 0) = true := by simp; omega
    have HBS := hide (bs_all ⟨gW, gH, k, n, cc, wb, cb⟩ HOK.out d zs M 0 w4 hM12 (by omega) HWS4.out)
    dsimp only at HBS
    rw [HBV2.out e0, Nat.zero_add] at HBS
    dsimp only at HBS
    clear e0
    go_wp2_with fail
    refine HBS.out.mono ?_
    rintro e w5 ⟨rfl, hb5⟩
    have HB5 := hide (HB4.out.trans (hb5.mono HB4.out.size))
    clear hb5 HBS
    go_wp2_with fail
    go_ret3
    exact ⟨rfl, HB5.out⟩
  · have hb0 : ((WN : Int) == 0) = false := by simp; omega
    by_cases e1 : WN = M
    · have hb1 : ((WN : Int) == (M : Int)) = true := by simp; omega
      have HV := hide (HRW2.out e1)
      clear e0 e1
      go_wp2_with fail
      go_ret3
      exact ⟨by rw [HV.out.1, HV.out.2]; rfl, HB4.out⟩
    · have hb1 : ((WN : Int) == (M : Int)) = false := by simp; omega
      have HV := hide (HRN2.out e1 (by omega))
      clear e0 e1
      go_wp2_with fail
      go_ret3
      exact ⟨by rw [HV.out.1, HV.out.2]; rfl, HB4.out⟩

end Go.Proofs.YtaglhmkjdajgpaaDoor
