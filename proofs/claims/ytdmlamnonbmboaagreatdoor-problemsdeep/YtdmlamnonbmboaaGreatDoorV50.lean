/-
  Chess as texts: castles, sides, places and numbers read. No conditions beyond those that each theorem bears.
  Chess as texts: a text read as a position. No conditions beyond those that each theorem bears.
  Chess: the position at the beginning, as a text and as a position. No conditions beyond those that each theorem bears.
  Chess as texts: a rank's text. No conditions beyond those that each theorem bears.
  Chess as texts: a rank's text. No conditions beyond those that each theorem bears.
  Chess as texts: the places' text. No conditions beyond those that each theorem bears.
-/
import Derived.Test.YtdmlamnonbmboaaGreatDoorV49
import Derived.Lib.AtoiErrMem
import Derived.Test.YtdmlamnonbmboaaGreatDoorV41
import Derived.Test.YtdmlamnonbmboaaGreatDoorV48
namespace Go.Proofs.YtdmlamnonbmboaaGreatDoor
open Go.RowKit

theorem ct_all : (List.range 16).all (fun i => (List.range 16).all fun k => decide (ctT i = ctT k) == decide (i = k)) = true := by kernel_rfl
theorem ctT_inj (i k : Nat) (hi : i < 16) (hk : k < 16) (h : ctT i = ctT k) : i = k := by
  have h2 := List.all_eq_true.1 (List.all_eq_true.1 ct_all i (List.mem_range.2 hi)) k (List.mem_range.2 hk)
  rw [beq_iff_eq, decide_eq_true h] at h2
  exact of_decide_eq_true h2.symm

theorem ctT_ne (i k : Nat) (hi : i < 16) (hk : k < 16) (h : i ≠ k) : ((ctT i).toList == (ctT k).toList) = false := by
  rw [beq_eq_false_iff_ne, ByteArray.toList_eq, ByteArray.toList_eq]
  intro e
  exact h (ctT_inj i k hi hk (ByteArray.ext (Array.toList_inj.1 e)))

set_option maxRecDepth 1000000 in
set_option maxHeartbeats 4000000 in
theorem readCastle_yes (k : Nat) (hk : k < 16) (w : World) :
    Calls Tryz.prog 35 #[.string (ctT k)] w fun e w' => e = .returned (.tuple #[.int .i64 k, .bool true]) ∧ Below w.heap.size w w' := by
  go_enter Tryz.func35, Tryz.ntmps35
  go_wp2_with fail
  go_loopw [5] (fun v wr => ∃ i : Nat, v = .int .i64 i ∧ i ≤ k ∧ Hid (Below w.heap.size w wr)) (fun v _ => 16 - (RowKit.intOf v).toNat)
  case atStart => exact ⟨0, rfl, by omega, hide (Below.refl _ _)⟩
  case round =>
    obtain ⟨i, rfl, hi, hb⟩ := hrel
    have hlt' : (i : Int) < 16 := by omega
    have HC := hide (castleText_any i (by omega) wr)
    by_cases hik : i = k
    · subst hik
      go_wp2_with fail
      refine HC.out.mono ?_
      rintro e w2 ⟨rfl, hb2⟩
      have HB2 := hide (hb.out.trans (hb2.mono hb.out.size))
      clear hb2 HC
      go_wp2_with fail
      try simp only [Exit.inBlock, Exit.then]
      exact bodyPost_ret (results_tmp2 rfl _ _ _) rfl ⟨rfl, HB2.out⟩
    · have hne : ((ctT i).toList == (ctT k).toList) = false := ctT_ne i k (by omega) hk hik
      go_wp2_with fail
      refine HC.out.mono ?_
      rintro e w2 ⟨rfl, hb2⟩
      have HB2 := hide (hb.out.trans (hb2.mono hb.out.size))
      clear hb2 HC
      go_wp2_with fail
      exact ⟨⟨i + 1, by go_num, by omega, HB2⟩, by simp [RowKit.intOf]; omega⟩

set_option maxRecDepth 1000000 in
set_option maxHeartbeats 4000000 in
theorem placeText_none (w : World) : Calls Tryz.prog 71 #[.int .i64 (-1)] w fun e w' => e = .returned (.string ⟨#[45]⟩) ∧ w' = w := by
  go_enter Tryz.func71, Tryz.ntmps71
  go_wp2_with fail
  go_ret
  exact ⟨rfl, rfl⟩

set_option maxRecDepth 1000000 in
set_option maxHeartbeats 4000000 in
theorem readPlace_none (w : World) :
    Calls Tryz.prog 36 #[.string ⟨#[45]⟩] w fun e w' => e = .returned (.tuple #[.int .i64 (-1), .bool true]) ∧ w' = w := by
  go_enter Tryz.func36, Tryz.ntmps36
  go_wp2_with fail
  go_loopw [4] (fun v wr => v = .int .i64 (-1) ∧ wr = w) (fun v _ => 0)
  case atStart => exact ⟨rfl, rfl⟩
  case round =>
    obtain ⟨rfl, rfl⟩ := hrel
    have HP := hide (placeText_none wr)
    go_wp2_with fail
    refine HP.out.mono ?_
    rintro e w2 ⟨rfl, rfl⟩
    go_wp2_with fail
    try simp only [Exit.inBlock, Exit.then]
    exact bodyPost_ret (results_tmp2 rfl _ _ _) rfl ⟨rfl, rfl⟩

set_option maxRecDepth 1000000 in
set_option maxHeartbeats 4000000 in
theorem readSide_yes (t : Nat) (c : UInt8) (hc : c = 119 ∧ t = 0 ∨ c = 98 ∧ t = 1) (w : World) :
    Calls Tryz.prog 34 #[.string ⟨#[c]⟩] w fun e w' => e = .returned (.tuple #[.int .i64 t, .bool true]) ∧ w' = w := by
  have h := Tryz.strings_Index_one ⟨#[119, 98]⟩ c w
  have e : Lib.indexByte (⟨#[119, 98]⟩ : ByteArray).data.toList c = (t : Int) := by
    rcases hc with ⟨rfl, rfl⟩ | ⟨rfl, rfl⟩ <;> rfl
  rw [e] at h
  have HH := hide h
  clear h e
  go_enter Tryz.func34, Tryz.ntmps34
  go_wp2_with fail
  refine HH.out.mono ?_
  rintro e w2 ⟨rfl, rfl⟩
  have h0 : (0 : Int) ≤ (t : Int) := by omega
  go_wp2_with fail
  try simp only [Exit.inBlock, Exit.then]
  exact bodyPost_ret (results_tmp2 rfl _ _ _) rfl ⟨rfl, rfl⟩

theorem atoi_below (s : ByteArray) (n : Int) (hl : s.size ≤ 18) (h : Lib.atoi s.data.toList = some n) (w : World) :
    Calls Tryz.prog 72 #[.string s] w fun e w' => e = .returned (.tuple #[.int .i64 n, .nilIface]) ∧ Below w.heap.size w w' := by
  refine (Tryz.strconv_Atoi s n hl h w).mono ?_
  intro e w2 h
  refine ⟨h.1, ?_⟩
  obtain ⟨t, ht⟩ := h.2
  rw [ht]
  exact Lib.bytesWorld_below _ _ _

set_option maxRecDepth 1000000 in
set_option maxHeartbeats 4000000 in
theorem readNumber_small (n : Nat) (hn : n < 100) (s : ByteArray) (hs : s = ⟨(Lib.decDigits n).toArray⟩) (hl : s.size ≤ 18) (ha : Lib.atoi s.data.toList = some (n : Int)) (w : World) :
    Calls Tryz.prog 37 #[.string s] w fun e w' => e = .returned (.tuple #[.int .i64 n, .bool true]) ∧ Below w.heap.size w w' := by
  have HA := hide (atoi_below s n hl ha w)
  have HI : Hid (∀ W, Calls Tryz.prog 73 #[.int .i64 n] W fun e w' => e = .returned (.string s) ∧ w' = W) := hide (fun W => by
    have h := Tryz.strconv_Itoa_small n hn W
    rwa [← hs] at h)
  clear hl ha hs
  go_enter Tryz.func37, Tryz.ntmps37
  go_wp2_with fail
  refine HA.out.mono ?_
  rintro e w2 ⟨rfl, hw2⟩
  have HB := hide hw2
  have h0 : (0 : Int) ≤ (n : Int) := by omega
  have h9 : (n : Int) ≤ 999 := by omega
  clear hw2 HA
  go_wp2_with fail
  refine (HI.out _).mono ?_
  rintro e w3 ⟨rfl, rfl⟩
  go_wp2_with fail
  try simp only [Exit.inBlock, Exit.then]
  exact bodyPost_ret (results_tmp2 rfl _ _ _) rfl ⟨rfl, HB.out⟩

end Go.Proofs.YtdmlamnonbmboaaGreatDoor

namespace Go.Proofs.YtdmlamnonbmboaaGreatDoor
open Go.RowKit Go.Shelf
open Go.Lib

theorem split_cells (w1 : World) (g : Nat) (L : List ByteArray) (n : Nat) (hg : w1.heap.size = g) : ∀ W, Below (g + 1) (w1.alloc (.cells (cellsOf L n) 9)) W → ∀ j x, L[j]? = some x → W.cell? ⟨g, j, none⟩ = some (.string x) := by
  intro W hW j x hj
  have hc := cellsOf_at L n j x hj
  have h := Vb.new w1 9 (cellsOf L n).toList
  rw [hg] at h
  have h2 : Vb (w1.alloc (.cells (cellsOf L n) 9)) g 9 (cellsOf L n).toList := by simpa using h
  exact (hW.cell (p := ⟨g, j, none⟩) (by show g < _; omega)).trans (h2.cell hc)

attribute [local irreducible] rkR runesOf plZ rwZ ctT
attribute [local go_sem] Oper.semAt_some wide_fn wide_fn0 wide_depth

set_option maxRecDepth 1000000 in
set_option maxHeartbeats 4000000 in
theorem read_ok (s : ByteArray) (hs : s.size < 4294967281) (h6 : 6 ≤ s.size) (s0 s1 s2 s3 s4 s5 : ByteArray) (hL : splitB ⟨#[32]⟩ 0 6 s = [s0, s1, s2, s3, s4, s5]) (mx : Int) (Z : List Int) (t k e h f : Int)
    (H0 : Hid (∀ W : World, W.cell? ⟨3, 0, none⟩ = some (.int .i64 mx) → Calls Tryz.prog 33 #[.string s0] W fun r W' => ∃ b, r = .returned (.tuple #[.slice (some ⟨b, 0, none⟩) 64 64, .bool true]) ∧ Rd W' (some ⟨b, 0, none⟩) 64 64 Z ∧ Below W.heap.size W W'))
    (H1 : Hid (∀ W : World, Calls Tryz.prog 34 #[.string s1] W fun r W' => r = .returned (.tuple #[.int .i64 t, .bool true]) ∧ Below W.heap.size W W'))
    (H2 : Hid (∀ W : World, Calls Tryz.prog 35 #[.string s2] W fun r W' => r = .returned (.tuple #[.int .i64 k, .bool true]) ∧ Below W.heap.size W W'))
    (H3 : Hid (∀ W : World, Calls Tryz.prog 36 #[.string s3] W fun r W' => r = .returned (.tuple #[.int .i64 e, .bool true]) ∧ Below W.heap.size W W'))
    (H4 : Hid (∀ W : World, Calls Tryz.prog 37 #[.string s4] W fun r W' => r = .returned (.tuple #[.int .i64 h, .bool true]) ∧ Below W.heap.size W W'))
    (H5 : Hid (∀ W : World, Calls Tryz.prog 37 #[.string s5] W fun r W' => r = .returned (.tuple #[.int .i64 f, .bool true]) ∧ Below W.heap.size W W'))
    (w : World) (hm : w.cell? ⟨3, 0, none⟩ = some (.int .i64 mx)) (h4 : 4 ≤ w.heap.size) :
    Calls Tryz.prog 14 #[.string s] w fun r w' => ∃ b, r = .returned (.tuple #[.agg (chA (some ⟨b, 0, none⟩) 64 64 t k e h f), .bool true]) ∧ Rd w' (some ⟨b, 0, none⟩) 64 64 Z ∧ Below w.heap.size w w' := by
  obtain ⟨g, hg⟩ : ∃ g, w.heap.size = g := ⟨_, rfl⟩
  obtain ⟨w1, hw1⟩ : ∃ w1, w.alloc (.cells (chA none 0 0 0 0 0 0 0) 24) = w1 := ⟨_, rfl⟩
  have B1 : Below w.heap.size w w1 := by rw [← hw1]; exact (Below.refl _ w).alloc (Nat.le_refl _) _
  have R1 : Ch w1 g none 0 0 0 0 0 0 0 := by rw [← hw1, ← hg]; exact Ch.new w none 0 0 0 0 0 0 0
  have s1z : w1.heap.size = g + 1 := by rw [← hw1, ← hg]; simp
  have hm1 : w1.cell? ⟨3, 0, none⟩ = some (.int .i64 mx) := (B1.cell (p := ⟨3, 0, none⟩) (by show 3 < _; omega)).trans hm
  have hsp := Tryz.strings_SplitN s ⟨#[32]⟩ 7 mx w1 hs hm1 (by decide) (by decide) (by decide)
  have hmin : min 7 (s.size + 1) = 7 := by omega
  rw [hmin, show (7 : Nat) - 1 = 6 from rfl, hL, s1z] at hsp
  have HSC := hide (split_cells w1 (g + 1) [s0, s1, s2, s3, s4, s5] 7 s1z)
  obtain ⟨w2, hw2⟩ : ∃ w2, w1.alloc (.cells (cellsOf [s0, s1, s2, s3, s4, s5] 7) 9) = w2 := ⟨_, rfl⟩
  rw [hw2] at hsp HSC
  have b12 : Below w1.heap.size w1 w2 := by rw [← hw2]; exact (Below.refl _ _).alloc (Nat.le_refl _) _
  have s2z : Hid (w2.heap.size = g + 2) := hide (by rw [← hw2, World.size_alloc, s1z])
  have HR2 : Hid (Ch w2 g none 0 0 0 0 0 0 0) := hide (R1.below b12 R1.lt)
  have HB2 : Hid (Below w.heap.size w w2) := hide (B1.trans (b12.mono B1.size))
  have HM2 : Hid (∀ W, Below (g + 2) w2 W → W.cell? ⟨3, 0, none⟩ = some (.int .i64 mx)) := hide (fun W hW => (hW.cell (p := ⟨3, 0, none⟩) (by show 3 < _; omega)).trans ((b12.cell (p := ⟨3, 0, none⟩) (by show 3 < _; omega)).trans hm1))
  have HSP := hide hsp
  have HG := hide hg
  clear hsp b12 B1 R1 hm1 hmin hw2 s1z hs h6 hL
  go_enter Tryz.func14, Tryz.ntmps14
  go_upto_region 1 with fail
  try rw [hg]
  try rw [hw1]
  clear hw1 hg
  go_wp2_with fail
  refine HSP.out.mono ?_
  rintro r v2 ⟨rfl, rfl⟩
  have c0 := HSC.out v2 (Below.refl _ _) 0 s0 rfl
  have X0 := hide (H0.out v2 (HM2.out v2 (Below.refl _ _)))
  go_wp2_with fail
  refine X0.out.mono ?_
  rintro r v3 ⟨b, rfl, hz, hb⟩
  have HZ3 := hide hz
  have HW3 : Hid (Below v2.heap.size v2 v3) := hide hb
  have HZS : Hid (v2.heap.size ≤ v3.heap.size) := hide hb.size
  clear hz hb X0 c0 H0
  have c1 := HSC.out v3 (HW3.out.mono (by rw [s2z.out]; exact Nat.le_refl _)) 1 s1 rfl
  have X1 := hide (H1.out v3)
  go_wp2_with fail
  refine X1.out.mono ?_
  rintro r v4 ⟨rfl, hb⟩
  have HW4 : Hid (Below v2.heap.size v2 v4) := hide (HW3.out.trans (hb.mono HW3.out.size))
  have HZ4 := hide (HZ3.out.mono hb)
  clear hb X1 c1 H1
  have c2 := HSC.out v4 (HW4.out.mono (by rw [s2z.out]; exact Nat.le_refl _)) 2 s2 rfl
  have X2 := hide (H2.out v4)
  go_wp2_with fail
  refine X2.out.mono ?_
  rintro r v5 ⟨rfl, hb⟩
  have HW5 : Hid (Below v2.heap.size v2 v5) := hide (HW4.out.trans (hb.mono HW4.out.size))
  have HZ5 := hide (HZ4.out.mono hb)
  clear hb X2 c2 H2
  have c3 := HSC.out v5 (HW5.out.mono (by rw [s2z.out]; exact Nat.le_refl _)) 3 s3 rfl
  have X3 := hide (H3.out v5)
  go_wp2_with fail
  refine X3.out.mono ?_
  rintro r v6 ⟨rfl, hb⟩
  have HW6 : Hid (Below v2.heap.size v2 v6) := hide (HW5.out.trans (hb.mono HW5.out.size))
  have HZ6 := hide (HZ5.out.mono hb)
  clear hb X3 c3 H3
  have c4 := HSC.out v6 (HW6.out.mono (by rw [s2z.out]; exact Nat.le_refl _)) 4 s4 rfl
  have X4 := hide (H4.out v6)
  go_wp2_with fail
  refine X4.out.mono ?_
  rintro r v7 ⟨rfl, hb⟩
  have HW7 : Hid (Below v2.heap.size v2 v7) := hide (HW6.out.trans (hb.mono HW6.out.size))
  have HZ7 := hide (HZ6.out.mono hb)
  clear hb X4 c4 H4
  have c5 := HSC.out v7 (HW7.out.mono (by rw [s2z.out]; exact Nat.le_refl _)) 5 s5 rfl
  have X5 := hide (H5.out v7)
  go_wp2_with fail
  refine X5.out.mono ?_
  rintro r v8 ⟨rfl, hb⟩
  have HW8 : Hid (Below v2.heap.size v2 v8) := hide (HW7.out.trans (hb.mono HW7.out.size))
  have HZ8 := hide (HZ7.out.mono hb)
  clear hb X5 c5 H5
  have HR8 := HR2.out.below HW8.out HR2.out.lt
  have HS8 : Hid (g + 2 ≤ v8.heap.size) := hide (by have := HW8.out.size; rw [s2z.out] at this; exact this)
  obtain ⟨d, hd⟩ : ∃ d, v8.heap.size = d := ⟨_, rfl⟩
  obtain ⟨w9, hw9⟩ : ∃ w9, v8.alloc (.cells (chA none 0 0 0 0 0 0 0) 24) = w9 := ⟨_, rfl⟩
  have R9 : Ch w9 d none 0 0 0 0 0 0 0 := by rw [← hw9, ← hd]; exact Ch.new v8 none 0 0 0 0 0 0 0
  have b89 : Below v8.heap.size v8 w9 := by rw [← hw9]; exact (Below.refl _ _).alloc (Nat.le_refl _) _
  have HB89 := hide b89
  have HD : Hid (g + 2 ≤ d) := hide (by rw [← hd]; exact HS8.out)
  have HDE := hide hd
  clear b89
  go_upto_region 11 with (refine wpList_store_ch rfl (.tmp 17) (.tmp 72) rfl d rfl rfl R9 ?_; intro wA kA kkA)
  have HBA : Hid (Below v8.heap.size v8 wA) := hide (HB89.out.trans (kkA.below HB89.out.size (fun j hj e => by rw [HDE.out] at hj; omega)))
  have RA := HR8.below HBA.out HR8.lt
  clear R9 hw9 kkA hd
  go_wp2_with (first | (refine wpList_load_ch rfl (.tmp 17) rfl d rfl kA ?_) | (refine wpList_store_ch rfl (.tmp 2) (.tmp 73) rfl g rfl rfl RA ?_; intro wB kB kkB))
  have HBB : Hid (Keeps (fun j => j = g) wA wB) := hide kkB
  have HKB := hide kB
  try simp only [Exit.inBlock, Exit.then]
  refine bodyPost_ret (results_cht rfl _ _ g rfl rfl HKB.out) rfl ?_
  have hbg : b ≠ g := by
    rintro rfl
    have h1 := (HZ8.out.cell (i := 0) (by decide)).2
    rw [Nat.add_zero, HR8.cells.1] at h1
    exact nomatch h1
  have HWB : Hid (Below w.heap.size w wA) := hide ((HB2.out.trans (HW8.out.mono HB2.out.size)).trans (HBA.out.mono (Nat.le_trans HB2.out.size HW8.out.size)))
  exact ⟨b, rfl, (HZ8.out.mono HBA.out).keepsX HBB.out hbg, HWB.out.trans (HBB.out.below HWB.out.size (fun j hj e => by rw [HG.out] at hj; omega))⟩

end Go.Proofs.YtdmlamnonbmboaaGreatDoor

namespace Go.Proofs.YtdmlamnonbmboaaGreatDoor
open Go.RowKit Go.Shelf
open Go.Lib

def begT : ByteArray := ⟨#[114, 110, 98, 113, 107, 98, 110, 114, 47, 112, 112, 112, 112, 112, 112, 112, 112, 47, 56, 47, 56, 47, 56, 47, 56, 47, 80, 80, 80, 80, 80, 80, 80, 80, 47, 82, 78, 66, 81, 75, 66, 78, 82, 32, 119, 32, 75, 81, 107, 113, 32, 45, 32, 48, 32, 49]⟩
def begP : ByteArray := ⟨#[114, 110, 98, 113, 107, 98, 110, 114, 47, 112, 112, 112, 112, 112, 112, 112, 112, 47, 56, 47, 56, 47, 56, 47, 56, 47, 80, 80, 80, 80, 80, 80, 80, 80, 47, 82, 78, 66, 81, 75, 66, 78, 82]⟩
def begL : List ByteArray := [⟨#[114, 110, 98, 113, 107, 98, 110, 114]⟩, ⟨#[112, 112, 112, 112, 112, 112, 112, 112]⟩, ⟨#[56]⟩, ⟨#[56]⟩, ⟨#[56]⟩, ⟨#[56]⟩, ⟨#[80, 80, 80, 80, 80, 80, 80, 80]⟩, ⟨#[82, 78, 66, 81, 75, 66, 78, 82]⟩]
def begZ : List Int := [4, 2, 3, 5, 6, 3, 2, 4] ++ List.replicate 8 1 ++ List.replicate 32 0 ++ List.replicate 8 (-1) ++ [-4, -2, -3, -5, -6, -3, -2, -4]
theorem beg_words : splitB ⟨#[32]⟩ 0 6 begT = [begP, ⟨#[119]⟩, ctT 15, ⟨#[45]⟩, ⟨#[48]⟩, ⟨#[49]⟩] := by kernel_rfl
theorem beg_ranks : splitB ⟨#[47]⟩ 0 8 begP = begL := by kernel_rfl
theorem beg_runes : begL.all (fun x => (runesOf x).all (fun y => decide (0 ≤ y) && decide (y < 128)) && (rkR (runesOf x) 0 z8).2) = true := by kernel_rfl
theorem beg_places : plZ begL 8 = begZ := by kernel_rfl

def begS : Ps := ⟨begZ, 0, 15, -1, 0, 1⟩
theorem beg_count : (mvs begS).length = 20 := by kernel_rfl
theorem beg_okS : (List.range 64).all (fun i => decide (-6 ≤ zg begZ i) && decide (zg begZ i ≤ 6) && (decide ((zg begZ i).natAbs ≠ 1) || (decide (8 ≤ i) && decide (i < 56)))) = true := by kernel_rfl
theorem beg_cas : (List.range 4).all (fun i => decide (zg begZ (kgP i) = pc (sdP i) 6) && decide (zg begZ (rkP i) = pc (sdP i) 4)) = true := by kernel_rfl
theorem beg_king : (List.range 64).all (fun i => decide (zg begZ i ≠ -6) || decide (i = 60)) = true := by kernel_rfl
theorem beg_std : Std begZ := by
  refine ⟨by kernel_rfl, fun i hi => ?_, by kernel_rfl, by kernel_rfl⟩
  have h := allN beg_okS hi
  simp only [Bool.and_eq_true, Bool.or_eq_true, decide_eq_true_eq] at h
  exact ⟨h.1.1, h.1.2, fun h1 => h.2.elim (fun h2 => absurd h1 h2) id⟩
theorem beg_kg : kg begZ (-6) = 60 := by
  have h := kg_fst beg_std.2.2.2
  have h2 := allN beg_king h.1
  simp only [Bool.or_eq_true, decide_eq_true_eq] at h2
  exact h2.elim (fun h3 => absurd h.2.1 h3) id
theorem beg_may : MayP begS := by
  refine ⟨beg_std, Or.inl rfl, ⟨by decide, by decide, fun i hi _ => ?_⟩, Or.inl rfl, by decide, by decide, by decide, by decide, ?_⟩
  · have h := allN beg_cas hi
    simp only [Bool.and_eq_true, decide_eq_true_eq] at h
    exact h
  · show chk begZ 1 = false
    unfold chk
    rw [show pc 1 6 = -6 from rfl, beg_kg]
    exact decide_eq_false (fun h => h (by kernel_rfl))

set_option maxRecDepth 1000000 in
set_option maxHeartbeats 4000000 in
theorem read_beg (mx : Int) (w : World) (hm : w.cell? ⟨3, 0, none⟩ = some (.int .i64 mx)) (h4 : 4 ≤ w.heap.size) :
    Calls Tryz.prog 14 #[.string begT] w fun r w' => ∃ b, r = .returned (.tuple #[.agg (chA (some ⟨b, 0, none⟩) 64 64 0 15 (-1) 0 1), .bool true]) ∧ Rd w' (some ⟨b, 0, none⟩) 64 64 begZ ∧ Below w.heap.size w w' := by
  refine read_ok begT (by decide) (by decide) begP ⟨#[119]⟩ (ctT 15) ⟨#[45]⟩ ⟨#[48]⟩ ⟨#[49]⟩ beg_words mx begZ 0 15 (-1) 0 1 (hide fun W hW => ?_) (hide fun W => ?_) (hide fun W => ?_) (hide fun W => ?_) (hide fun W => ?_) (hide fun W => ?_) w hm h4
  · rw [← beg_places]
    refine readPlaces_ok begP (by decide) (by decide) begL beg_ranks rfl ?_ W mx hW
    intro x hx
    have h := List.all_eq_true.1 beg_runes x hx
    rw [Bool.and_eq_true, List.all_eq_true] at h
    refine ⟨fun y hy => ?_, h.2⟩
    have h2 := h.1 y hy
    simp only [Bool.and_eq_true, decide_eq_true_eq] at h2
    exact ⟨y.toNat, by omega, by omega⟩
  · refine (readSide_yes 0 119 (Or.inl ⟨rfl, rfl⟩) W).mono ?_
    rintro r W' ⟨rfl, rfl⟩
    exact ⟨rfl, Below.refl _ _⟩
  · exact readCastle_yes 15 (by decide) W
  · refine (readPlace_none W).mono ?_
    rintro r W' ⟨rfl, rfl⟩
    exact ⟨rfl, Below.refl _ _⟩
  · exact readNumber_small 0 (by decide) _ (by kernel_rfl) (by decide) (by kernel_rfl) W
  · exact readNumber_small 1 (by decide) _ (by kernel_rfl) (by decide) (by kernel_rfl) W

end Go.Proofs.YtdmlamnonbmboaaGreatDoor

namespace Go.Proofs.YtdmlamnonbmboaaGreatDoor
open Go.RowKit

def ltr (x : Int) : UInt8 := if 0 < x then #[80, 78, 66, 82, 81, 75].getD (x - 1).toNat 0 else #[112, 110, 98, 114, 113, 107].getD (-x - 1).toNat 0
def gapB (n : Nat) : List UInt8 := if n = 0 then [] else Lib.decDigits n
def rtS (Z : List Int) : Nat → List UInt8 × Nat
  | 0 => ([], 0)
  | i + 1 => if zg Z i = 0 then ((rtS Z i).1, (rtS Z i).2 + 1) else ((rtS Z i).1 ++ gapB (rtS Z i).2 ++ [ltr (zg Z i)], 0)
def rtT (Z : List Int) : ByteArray := ⟨((rtS Z 8).1 ++ gapB (rtS Z 8).2).toArray⟩

theorem piece12 {x : Int} (h1 : -6 ≤ x) (h2 : x ≤ 6) (h0 : x ≠ 0) : x = 1 ∨ x = 2 ∨ x = 3 ∨ x = 4 ∨ x = 5 ∨ x = 6 ∨ x = -1 ∨ x = -2 ∨ x = -3 ∨ x = -4 ∨ x = -5 ∨ x = -6 := by omega
theorem rune_ltr {x : Int} (h1 : -6 ≤ x) (h2 : x ≤ 6) (h0 : x ≠ 0) : Lib.runeCells ((ltr x).toNat : Int) = Lib.byteCells [ltr x] ∧ (ltr x).toNat < 128 := by
  rcases piece12 h1 h2 h0 with rfl | rfl | rfl | rfl | rfl | rfl | rfl | rfl | rfl | rfl | rfl | rfl <;> exact ⟨by kernel_rfl, by decide⟩
theorem letter_any {x : Int} (h1 : -6 ≤ x) (h2 : x ≤ 6) (h0 : x ≠ 0) (w : World) : Calls Tryz.prog 140 #[.int .i64 x] w fun e w' => e = .returned (.int .i32 ((ltr x).toNat : Int)) ∧ w' = w := by
  rcases piece12 h1 h2 h0 with rfl | rfl | rfl | rfl | rfl | rfl | rfl | rfl | rfl | rfl | rfl | rfl <;>
  · go_enter Tryz.func140, Tryz.ntmps140
    go_wp2
    go_ret
    exact ⟨by kernel_rfl, rfl⟩

theorem bld_gap {B b g : Nat} {bs L : List Value} {w : World} (h : Lib.IsBuilderF 128 5 B b bs w) (hg : Vb w g 3 L) (i : Nat) (v : Value) : Lib.IsBuilderF 128 5 B b bs (w.setCell ⟨g, i, none⟩ v) := by
  have hg' : w.heap[g]? = _ := hg
  have key : ∀ p, Lib.BuilderAtF 128 5 B b p bs w → Lib.BuilderAtF 128 5 B b p bs (w.setCell ⟨g, i, none⟩ v) := by
    rintro p ⟨hB, u, hb, hown, hn⟩
    have hbg : b ≠ g := by
      rintro rfl
      rw [hb] at hg'
      injection hg' with h1
      injection h1 with _ h2 _
      exact absurd h2 (by decide)
    refine ⟨hB, u, ?_, ⟨hown.1, ?_⟩, hn⟩
    · rw [Below.heap_setCell _ _ _ _ (fun e => hbg e)]; exact hb
    · rcases hown.2 with h0 | ⟨k, cap, cur, fz, hv, hk, hh, hr⟩
      · exact Or.inl h0
      · refine Or.inr ⟨k, cap, cur, fz, hv, hk, ?_, hr⟩
        rw [Below.heap_setCell _ _ _ _ ?_]
        · exact hh
        · intro e
          have e' : k = g := e
          rw [← e', hh] at hg'
          injection hg' with h1
          injection h1 with _ h2 _
          exact absurd h2 (by decide)
  rcases h with h | h
  · exact Or.inl (key _ h)
  · exact Or.inr (key _ h)

theorem dec_all : (List.range 9).all (fun n => decide ((Lib.decDigits n).length ≤ 1)) = true := by kernel_rfl
theorem dec_len (n : Nat) (hn : n ≤ 8) : (Lib.decDigits n).length ≤ 1 := of_decide_eq_true (List.all_eq_true.1 dec_all n (List.mem_range.2 (by omega)))

set_option maxRecDepth 1000000 in
set_option maxHeartbeats 4000000 in
theorem gap_any (B b g n : Nat) (l : List UInt8) (w : World) (hn : n ≤ 8) (hl : l.length ≤ 100) (hBw : B ≤ w.heap.size) (hBg : B ≤ g) (h : Lib.IsBuilderF 128 5 B b (Lib.byteCells l) w) (hg : Vb w g 3 [.int .i64 n]) :
    Calls Tryz.prog 138 #[.pointer (some ⟨g, 0, none⟩), .pointer (some ⟨b, 0, none⟩)] w fun e w' => e = .returned (.tuple #[]) ∧ Lib.IsBuilderF 128 5 B b (Lib.byteCells (l ++ gapB n)) w' ∧ Vb w' g 3 [.int .i64 0] ∧ Below B w w' := by
  have c0 : w.cell? ⟨g, 0, none⟩ = some (.int .i64 n) := hg.cell rfl
  have f0 := hg.frozen 0
  have HG := hide hg
  have HH := hide h
  clear h hg
  by_cases h0 : n = 0
  · subst h0
    go_enter Tryz.func138, Tryz.ntmps138
    go_wp2
    go_end0
    have V2 := HG.out.set 0 (.int .i64 0)
    refine ⟨rfl, ?_, V2, (Below.refl B w).setCell (p := ⟨g, 0, none⟩) hBg _⟩
    rw [show gapB 0 = [] from rfl, List.append_nil]
    exact bld_gap HH.out HG.out 0 _
  · have hp : (0 : Int) < (n : Int) := by omega
    have HI := hide (Tryz.strconv_Itoa_small n (by omega) w)
    go_enter Tryz.func138, Tryz.ntmps138
    go_wp2_with fail
    refine HI.out.mono ?_
    rintro e w2 ⟨rfl, rfl⟩
    have HW := hide (write_k B b (Lib.byteCells l) ⟨(Lib.decDigits n).toArray⟩ w2 HH.out (by rw [Lib.byteCells_length]; have := dec_len n hn; show _ + (Lib.decDigits n).toArray.size ≤ _; rw [List.size_toArray]; omega) hBw)
    rw [show Lib.strCells ⟨(Lib.decDigits n).toArray⟩ = Lib.byteCells (Lib.decDigits n) from rfl] at HW
    clear c0 f0 HI
    go_wp2_with fail
    refine HW.out.mono ?_
    rintro e w3 ⟨rfl, hb3, hl3, hk3⟩
    have hne : b ≠ g := by
      rintro rfl
      have h1 := hb3.cell0
      obtain ⟨_, u, hu, _⟩ := hb3
      rcases HH.out with h | h
      · obtain ⟨_, u2, hu2, _⟩ := h
        have h3 := HG.out
        unfold Vb at h3
        rw [hu2] at h3
        injection h3 with h4
        injection h4 with _ h5 _
        exact absurd h5 (by decide)
      · obtain ⟨_, u2, hu2, _⟩ := h
        have h3 := HG.out
        unfold Vb at h3
        rw [hu2] at h3
        injection h3 with h4
        injection h4 with _ h5 _
        exact absurd h5 (by decide)
    have V3 : Vb w3 g 3 [.int .i64 n] := hk3 g _ HG.out (fun e => hne (Option.some.inj e).symm) (fun c fz e => by injection e with _ h5 _; exact absurd h5 (by decide))
    have c3 : w3.cell? ⟨g, 0, none⟩ = some (.int .i64 n) := V3.cell rfl
    have f3 := V3.frozen 0
    have HB3 := hide hb3
    have HL3 := hide hl3
    have HV3 := hide V3
    clear hb3 hl3 hk3 V3
    go_wp2_with fail
    go_end0
    have V4 := HV3.out.set 0 (.int .i64 0)
    refine ⟨rfl, ?_, V4, HL3.out.setCell (p := ⟨g, 0, none⟩) hBg _⟩
    have e : Lib.byteCells (l ++ gapB n) = Lib.byteCells l ++ Lib.byteCells (Lib.decDigits n) := by
      unfold gapB
      rw [if_neg h0]
      simp [Lib.byteCells]
    rw [e]
    exact bld_gap (Or.inr HB3.out) HV3.out 0 _

end Go.Proofs.YtdmlamnonbmboaaGreatDoor

namespace Go.Proofs.YtdmlamnonbmboaaGreatDoor
open Go.RowKit

theorem gap_len (n : Nat) (hn : n ≤ 8) : (gapB n).length ≤ 1 := by
  unfold gapB
  split
  · exact Nat.zero_le _
  · exact dec_len n hn
theorem rtS_bd (Z : List Int) : ∀ i, i ≤ 8 → (rtS Z i).1.length ≤ 2 * i ∧ (rtS Z i).2 ≤ i
  | 0, _ => ⟨Nat.le_refl _, Nat.le_refl _⟩
  | i + 1, hi => by
    have h := rtS_bd Z i (by omega)
    have h2 := gap_len (rtS Z i).2 (by omega)
    unfold rtS
    split
    · exact ⟨by show (rtS Z i).1.length ≤ _; omega, by show (rtS Z i).2 + 1 ≤ _; omega⟩
    · refine ⟨?_, Nat.zero_le _⟩
      show ((rtS Z i).1 ++ gapB (rtS Z i).2 ++ [ltr (zg Z i)]).length ≤ _
      rw [List.length_append, List.length_append]
      simp only [List.length_singleton]
      omega
theorem rtS_gap (Z : List Int) (i : Nat) (h : zg Z i = 0) : rtS Z (i + 1) = ((rtS Z i).1, (rtS Z i).2 + 1) := by
  conv => lhs; unfold rtS
  rw [if_pos h]
theorem rtS_on (Z : List Int) (i : Nat) (h : zg Z i ≠ 0) : rtS Z (i + 1) = ((rtS Z i).1 ++ gapB (rtS Z i).2 ++ [ltr (zg Z i)], 0) := by
  conv => lhs; unfold rtS
  rw [if_neg h]
theorem bytes_app (l m : List UInt8) : Lib.byteCells (l ++ m) = Lib.byteCells l ++ Lib.byteCells m := by simp [Lib.byteCells]

attribute [local irreducible] rtS gapB ltr

set_option maxRecDepth 1000000 in
set_option maxHeartbeats 4000000 in
theorem rankText_any (zb off c : Nat) (Z : List Int) (hZ : ∀ i, i < 8 → -6 ≤ zg Z i ∧ zg Z i ≤ 6) (w : World) (hz : Rd w (some ⟨zb, off, none⟩) 8 c Z) :
    Calls Tryz.prog 108 #[.slice (some ⟨zb, off, none⟩) 8 c] w fun e w' => e = .returned (.string (rtT Z)) ∧ Below w.heap.size w w' := by
  have HT : Hid (rtT Z = ⟨((rtS Z 8).1 ++ gapB (rtS Z 8).2).toArray⟩) := hide rfl
  obtain ⟨g, hg⟩ : ∃ g, w.heap.size = g := ⟨_, rfl⟩
  obtain ⟨w1, hw1⟩ : ∃ w1, (w.alloc (.cells #[.pointer none, .slice none 0 0] 128)).alloc (.cells #[.int .i64 0] 3) = w1 := ⟨_, rfl⟩
  have HN : Hid (Lib.IsBuilderF 128 5 g g (Lib.byteCells (rtS Z 0).1) w1) := hide (by
    rw [← hw1, ← hg, show (rtS Z 0).1 = [] by unfold rtS; rfl]
    exact (Lib.IsBuilderF.of (bld_new w)).alloc _)
  have HV1 : Hid (Vb w1 (g + 1) 3 [.int .i64 ((rtS Z 0).2 : Nat)]) := hide (by
    rw [← hw1, ← hg, show (rtS Z 0).2 = 0 by unfold rtS; rfl]
    have h := Vb.new (w.alloc (.cells #[.pointer none, .slice none 0 0] 128)) 3 [.int .i64 0]
    rw [World.size_alloc] at h
    exact h)
  have HB1 : Hid (Below w.heap.size w w1) := hide (by rw [← hw1]; exact ((Below.refl _ _).alloc (Nat.le_refl _) _).alloc (by simp) _)
  have HG := hide hg
  have HW1 := hide hw1
  clear hw1 hg
  have HZ := hide hz
  have HBD := hide (rtS_bd Z)
  have HZZ := hide hZ
  clear hz hZ
  go_enter Tryz.func108, Tryz.ntmps108
  go_upto_region 3 with fail
  rw [HG.out, HW1.out]
  clear HW1
  go_wp2_with fail
  go_loopw [11] (fun v wr => ∃ i : Nat, v = .int .i64 i ∧ i ≤ 8 ∧ Hid (Lib.IsBuilderF 128 5 g g (Lib.byteCells (rtS Z i).1) wr) ∧ Hid (Vb wr (g + 1) 3 [.int .i64 ((rtS Z i).2 : Nat)]) ∧ Hid (Below w.heap.size w wr)) (fun v _ => 8 - (RowKit.intOf v).toNat)
  case atStart => exact ⟨0, rfl, by omega, HN, HV1, HB1⟩
  case round =>
    obtain ⟨i, rfl, hi, hB, hV, hb⟩ := hrel
    have hsz : g ≤ wr.heap.size := by rw [← HG.out]; exact hb.out.size
    have hbd := HBD.out i hi
    by_cases hlt : i < 8
    · have hlt' : (i : Int) < 8 := by omega
      have hzr := HZ.out.mono hb.out
      have cz := (hzr.cell hlt).2
      have hzz := HZZ.out i hlt
      rw [show Z.getD i 0 = zg Z i from rfl] at cz
      by_cases h0 : zg Z i = 0
      · have hst := rtS_gap Z i h0
        rw [h0] at cz
        have cg := hV.out.cell (i := 0) rfl
        have fg := hV.out.frozen 0
        have V2 : Hid (Vb (wr.setCell ⟨g + 1, 0, none⟩ (.int .i64 (((rtS Z i).2 : Nat) + 1))) (g + 1) 3 [.int .i64 ((rtS Z (i + 1)).2 : Nat)]) := hide (by rw [hst]; exact hV.out.set 0 _)
        have B2 : Hid (Lib.IsBuilderF 128 5 g g (Lib.byteCells (rtS Z (i + 1)).1) (wr.setCell ⟨g + 1, 0, none⟩ (.int .i64 (((rtS Z i).2 : Nat) + 1)))) := hide (by rw [hst]; exact bld_gap hB.out hV.out 0 _)
        have HB2 : Hid (Below w.heap.size w (wr.setCell ⟨g + 1, 0, none⟩ (.int .i64 (((rtS Z i).2 : Nat) + 1)))) := hide (hb.out.setCell (p := ⟨g + 1, 0, none⟩) (by rw [HG.out]; exact Nat.le_succ g) _)
        clear hzr
        go_wp2_with fail
        exact ⟨⟨i + 1, by go_num, by omega, B2, V2, HB2⟩, by simp [RowKit.intOf]; omega⟩
      · have hst := rtS_on Z i h0
        have hgl := gap_len (rtS Z i).2 (by omega)
        obtain ⟨x, hx⟩ : ∃ x, zg Z i = x := ⟨_, rfl⟩
        rw [hx] at cz hzz h0 hst
        have HE := hide (gap_any g g (g + 1) (rtS Z i).2 (rtS Z i).1 wr (by omega) (by omega) hsz (by omega) hB.out hV.out)
        have HL := hide (fun W => letter_any hzz.1 hzz.2 h0 W)
        have hrl := rune_ltr hzz.1 hzz.2 h0
        have HST := hide hst
        clear hzr hst hx
        go_wp2_with fail
        refine HE.out.mono ?_
        rintro e w3 ⟨rfl, hB3, hV3, hb3⟩
        have hsz3 : g ≤ w3.heap.size := Nat.le_trans hsz hb3.size
        have HRN := hide (rune_k g g (Lib.byteCells ((rtS Z i).1 ++ gapB (rtS Z i).2)) ((ltr x).toNat : Int) (by omega) (by omega) w3 hB3 (by rw [Lib.byteCells_length, List.length_append]; omega) hsz3)
        rw [hrl.1, ← bytes_app] at HRN
        have HB3 : Hid (Below w.heap.size w w3) := hide (hb.out.trans (hb3.mono (by rw [HG.out]; exact Nat.le_refl _)))
        have HV3 := hide hV3
        clear hB3 hV3 hb3 HE hrl
        go_wp2_with fail
        refine (HL.out _).mono ?_
        rintro e w4 ⟨rfl, rfl⟩
        go_wp2_with fail
        refine HRN.out.mono ?_
        rintro e w5 ⟨⟨v5, rfl⟩, hB5, hb5, hk5⟩
        have HV5 : Hid (Vb w5 (g + 1) 3 [.int .i64 ((rtS Z (i + 1)).2 : Nat)]) := hide (by
          rw [HST.out]
          exact hk5 (g + 1) _ HV3.out (fun e => absurd (Option.some.inj e) (by omega)) (fun c fz e => by injection e with _ h5 _; exact absurd h5 (by decide)))
        have HB5 : Hid (Lib.IsBuilderF 128 5 g g (Lib.byteCells (rtS Z (i + 1)).1) w5) := hide (by rw [HST.out]; exact Or.inr hB5)
        have HBB : Hid (Below w.heap.size w w5) := hide (HB3.out.trans (hb5.mono (by rw [HG.out]; exact Nat.le_refl _)))
        clear hB5 hb5 hk5 HRN
        go_wp2_with fail
        exact ⟨⟨i + 1, by go_num, by omega, HB5, HV5, HBB⟩, by simp [RowKit.intOf]; omega⟩
    · obtain rfl : i = 8 := by omega
      have HE := hide (gap_any g g (g + 1) (rtS Z 8).2 (rtS Z 8).1 wr (by omega) (by omega) hsz (by omega) hB.out hV.out)
      go_wp2_with fail
      refine HE.out.mono ?_
      rintro e w3 ⟨rfl, hB3, hV3, hb3⟩
      have hsz3 : g ≤ w3.heap.size := Nat.le_trans hsz hb3.size
      have HS := hide (Tryz.Builder_String_any_f g g ((rtS Z 8).1 ++ gapB (rtS Z 8).2) w3 hB3 hsz3)
      have HB3 : Hid (Below w.heap.size w w3) := hide (hb.out.trans (hb3.mono (by rw [HG.out]; exact Nat.le_refl _)))
      clear hB3 hV3 hb3 HE
      go_wp2_with fail
      refine HS.out.mono ?_
      rintro e w4 ⟨rfl, _, hb4⟩
      go_wp2_with fail
      go_ret
      exact ⟨by rw [HT.out]; rfl, HB3.out.trans (hb4.mono (by rw [HG.out]; exact Nat.le_refl _))⟩

end Go.Proofs.YtdmlamnonbmboaaGreatDoor

namespace Go.Proofs.YtdmlamnonbmboaaGreatDoor
open Go.RowKit

def rowZ (Z : List Int) (r : Nat) : List Int := (Z.drop (r * 8)).take 8
def txL (Z : List Int) (r : Nat) : List ByteArray := List.replicate (8 - r) ⟨#[]⟩ ++ (List.range r).reverse.map fun i => rtT (rowZ Z i)
def ptT (Z : List Int) : ByteArray := ⟨(Lib.join ((txL Z 8).map (·.data.toList)) [47]).toArray⟩
def sts (L : List ByteArray) : List Value := L.map Value.string
theorem txL_len (Z : List Int) (r : Nat) (h : r ≤ 8) : (txL Z r).length = 8 := by unfold txL; simp; omega
theorem txL_zero (Z : List Int) : txL Z 0 = List.replicate 8 ⟨#[]⟩ := by unfold txL; simp
theorem txL_succ (Z : List Int) (r : Nat) (h : r < 8) : (txL Z r).set (7 - r) (rtT (rowZ Z r)) = txL Z (r + 1) := by
  unfold txL
  rw [show 8 - r = (7 - r) + 1 by omega, show 8 - (r + 1) = 7 - r by omega, List.replicate_succ', List.append_assoc, List.set_append_right _ _ (by simp)]
  simp [List.range_succ]
theorem sts_set (L : List ByteArray) (i : Nat) (x : ByteArray) : (sts L).set i (.string x) = sts (L.set i x) := by simp [sts, List.map_set]
theorem rowZ_zg (Z : List Int) (r i : Nat) (hi : i < 8) : zg (rowZ Z r) i = zg Z (r * 8 + i) := by
  unfold zg rowZ
  rw [List.getD_eq_getElem?_getD, List.getD_eq_getElem?_getD, List.getElem?_take_of_lt hi, List.getElem?_drop]

attribute [local irreducible] rtT rowZ txL

set_option maxRecDepth 1000000 in
set_option maxHeartbeats 4000000 in
theorem placesText_any (zb c : Nat) (Z : List Int) (hZ : ∀ i, i < 64 → -6 ≤ zg Z i ∧ zg Z i ≤ 6) (w : World) (hz : Rd w (some ⟨zb, 0, none⟩) 64 c Z) (hj : (Lib.join ((txL Z 8).map (·.data.toList)) [47]).length ≤ 140737488355328) :
    Calls Tryz.prog 85 #[.slice (some ⟨zb, 0, none⟩) 64 c] w fun e w' => e = .returned (.string (ptT Z)) ∧ Below w.heap.size w w' := by
  have HT : Hid (ptT Z = ⟨(Lib.join ((txL Z 8).map (·.data.toList)) [47]).toArray⟩) := hide rfl
  obtain ⟨g, hg⟩ : ∃ g, w.heap.size = g := ⟨_, rfl⟩
  have hc64 := hz.cap
  have HG := hide hg
  have HZ := hide hz
  have HZZ := hide hZ
  have HJ := hide hj
  clear hz hZ hj hg
  go_enter Tryz.func85, Tryz.ntmps85
  go_upto_region 2 with fail
  obtain ⟨w1, hw1⟩ : ∃ w1, w.alloc (.cells #[.string ⟨#[]⟩, .string ⟨#[]⟩, .string ⟨#[]⟩, .string ⟨#[]⟩, .string ⟨#[]⟩, .string ⟨#[]⟩, .string ⟨#[]⟩, .string ⟨#[]⟩] 133) = w1 := ⟨_, rfl⟩
  rw [HG.out, hw1]
  have HV1 : Hid (Vb w1 g 133 (sts (txL Z 0))) := hide (by rw [← hw1, ← HG.out, txL_zero]; exact Vb.new w 133 _)
  have HB1 : Hid (Below w.heap.size w w1) := hide (by rw [← hw1]; exact (Below.refl _ _).alloc (Nat.le_refl _) _)
  clear hw1
  go_wp2_with fail
  go_loopw [5] (fun v wr => ∃ i : Nat, v = .int .i64 i ∧ i ≤ 8 ∧ Hid (Vb wr g 133 (sts (txL Z i))) ∧ Hid (Below w.heap.size w wr)) (fun v _ => 8 - (RowKit.intOf v).toNat)
  case atStart => exact ⟨0, rfl, by omega, HV1, HB1⟩
  case round =>
    obtain ⟨i, rfl, hi, hV, hb⟩ := hrel
    by_cases hlt : i < 8
    · have hlt' : (i : Int) < 8 := by omega
      have e1 : ((i : Int) * 8).toNat = i * 8 := by omega
      have e2 : (((i : Int) + 1) * 8).toNat = i * 8 + 8 := by omega
      have hzr := HZ.out.mono hb.out
      have hz1 := (hzr.from (k := i * 8) (by omega)).upto (k := 8) (by omega)
      rw [if_neg (by omega), show Option.map (fun x => x.add (i * 8)) (some (⟨zb, 0, none⟩ : Addr)) = some ⟨zb, i * 8, none⟩ by show some (Addr.add ⟨zb, 0, none⟩ (i * 8)) = _; rw [Addr.add_lit, Nat.zero_add]] at hz1
      have HRT := hide (rankText_any zb (i * 8) (c - i * 8) (rowZ Z i) (fun j hj => by rw [rowZ_zg Z i j hj]; exact HZZ.out _ (by omega)) wr (by unfold rowZ; exact hz1))
      clear hzr hz1
      go_wp2_with fail
      refine HRT.out.mono ?_
      rintro e w3 ⟨rfl, hb3⟩
      have V3 := hV.out.below hb3 hV.out.lt
      have HB3 : Hid (Below w.heap.size w w3) := hide (hb.out.trans (hb3.mono hb.out.size))
      have e7 : ((7 : Int) - (i : Int)).toNat = 7 - i := by omega
      obtain ⟨v0, hv0⟩ : ∃ v0, (sts (txL Z i))[7 - i]? = some v0 := ⟨(sts (txL Z i))[7 - i]'(by unfold sts; rw [List.length_map, txL_len Z i hi]; omega), List.getElem?_eq_getElem _⟩
      have c3 := V3.cell hv0
      have f3 := V3.frozen (7 - i)
      have V4 := V3.set (7 - i) (.string (rtT (rowZ Z i)))
      rw [sts_set, txL_succ Z i hlt] at V4
      have HV4 := hide V4
      have HB4 : Hid (Below w.heap.size w (w3.setCell ⟨g, 7 - i, none⟩ (.string (rtT (rowZ Z i))))) := hide (HB3.out.setCell (p := ⟨g, 7 - i, none⟩) (by rw [HG.out]; exact Nat.le_refl _) _)
      clear hb3 hv0 V4 HRT
      go_wp2_with fail
      exact ⟨⟨i + 1, by go_num, by omega, HV4, HB4⟩, by simp [RowKit.intOf]; omega⟩
    · obtain rfl : i = 8 := by omega
      have HJN := hide (Tryz.strings_Join g 0 8 (txL Z 8) ⟨#[47]⟩ wr (fun j x hx => by rw [Nat.zero_add]; exact hV.out.cell (by unfold sts; rw [List.getElem?_map, hx]; rfl)) hV.out.lt (by rw [txL_len Z 8 hi]; decide) (by rw [txL_len Z 8 hi]; decide) HJ.out)
      rw [txL_len Z 8 hi] at HJN
      go_wp2_with fail
      refine HJN.out.mono ?_
      rintro e w3 ⟨rfl, hb3⟩
      go_wp2_with fail
      go_ret
      exact ⟨by rw [HT.out]; rfl, hb.out.trans (hb3.mono hb.out.size)⟩

end Go.Proofs.YtdmlamnonbmboaaGreatDoor
