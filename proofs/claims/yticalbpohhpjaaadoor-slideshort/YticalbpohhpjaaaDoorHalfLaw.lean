/-
  The law of halves: two stones that change places. No conditions beyond those that each theorem bears.
-/
import Derived.Test.YticalbpohhpjaaaDoorPb
import Derived.Test.YticalbpohhpjaaaDoorDo
import Derived.Deep.DeepCutAuto
namespace Go.Proofs.YticalbpohhpjaaaDoor
open Go.RowKit

theorem Keeps.afterB {X Y : Nat → Prop} {a b c : World} (h : Keeps X a b) (k : Keeps Y b c) (hs : ∀ i, i < a.heap.size → Y i → X i) : Keeps X a c :=
  ⟨k.os.trans h.os, k.tape.trans h.tape, k.output.trans h.output, Nat.le_trans h.size k.size, fun i hi hx => (k.block i (Nat.lt_of_lt_of_le hi h.size) (fun y => hx (hs i hi y))).trans (h.block i hi hx)⟩

theorem below_callB {w a b : World} (h : Below w.heap.size w a) (k : Below a.heap.size a b) : Below w.heap.size w b := h.trans (k.mono h.size)

def pk (n : Int) (m : Nat) : Nat := (if n < 0 then -(n + 1) else n).toNat % m

theorem pk_lt (n : Int) (m : Nat) (h : 0 < m) : pk n m < m := Nat.mod_lt _ h

set_option maxHeartbeats 400000 in
theorem picked_any (n : Int) (m : Nat) (w : World) (h1 : -9223372036854775808 ≤ n) (h2 : n ≤ 9223372036854775807) (hm : 1 ≤ m) (hm2 : m ≤ 479001600) :
    Calls Tryd.prog 23 #[.int .i64 n, .int .i64 m] w fun e w' => e = .returned (.int .i64 (pk n m : Nat)) ∧ w' = w := by
  have hm' : ¬ (m : Int) = 0 := by omega
  by_cases hn : n < 0
  · obtain ⟨q, hq⟩ := Int.eq_ofNat_of_zero_le (show 0 ≤ -(n + 1) by omega)
    have HP : Hid (pk n m = q % m) := hide (by unfold pk; rw [if_pos hn, hq]; rfl)
    have e0 : n = -(q : Int) - 1 := by omega
    have hq2 : (q : Int) ≤ 9223372036854775807 := by omega
    subst e0
    have hmod : (q : Int) % (m : Int) = ((q % m : Nat) : Int) := by simp
    have hneg : -(-(q : Int) - 1 + 1) = (q : Int) := by omega
    generalize q % m = R at *
    clear hq
    go_enter Tryd.func23, Tryd.ntmps23
    go_wp2
    go_ret
    refine ⟨ret_int ?_, rfl⟩
    rw [HP.out, ← hmod]
  · obtain ⟨q, rfl⟩ := Int.eq_ofNat_of_zero_le (show 0 ≤ n by omega)
    have HP : Hid (pk (q : Int) m = q % m) := hide (by unfold pk; rw [if_neg hn]; rfl)
    have hmod : (q : Int) % (m : Int) = ((q % m : Nat) : Int) := by simp
    generalize q % m = R at *
    go_enter Tryd.func23, Tryd.ntmps23
    go_wp2
    go_ret
    refine ⟨?_, rfl⟩
    rw [HP.out]
    rfl


set_option maxHeartbeats 2000000 in
theorem tray_any (X Y n k : Nat) (w : World) (hN : X * Y = n) (hn : 4 ≤ n ∧ n ≤ 12) (hk : k < fact n) :
    Calls Tryd.prog 24 #[.int .i64 X, .int .i64 Y, .int .i64 k] w fun e w' => ∃ a' c', e = .returned (.tuple #[.agg (gdA X Y a' n c'), .bool true]) ∧ Rd w' a' n c' (nthSt n k n).1 ∧ Below w.heap.size w w' := by
  have hXY : (X : Int) * (Y : Int) = (n : Int) := by rw [← hN]; simp
  obtain ⟨w1, hw1⟩ : ∃ w1, w.alloc (.cells (gdA 0 0 none 0 0) 24) = w1 := ⟨_, rfl⟩
  have HB1 : Hid (Below w.heap.size w w1) := hide (by rw [← hw1]; exact (Below.refl _ _).alloc (Nat.le_refl _) _)
  have K1 : Gd w1 w.heap.size 0 0 none 0 0 := by rw [← hw1]; exact Gd.new _ _ _ _ _ _
  have s1 : w.heap.size < w1.heap.size := by rw [← hw1]; simp
  go_enter Tryd.func24, Tryd.ntmps24
  go_upto_region 1 with fail
  clear hw1
  go_wp2_with fail
  refine (Nth_yes n k w1 hn.2 hk).mono ?_
  rintro e w2 ⟨a', c', rfl, hR, b2⟩
  have K2 := K1.below b2 s1
  have HB2 := hide (below_callB HB1.out b2)
  have HR2 := hide hR
  have hcap := hR.cap
  have hmax := hR.max
  unfold maxLen at hmax
  clear K1 HB1 b2 hR
  go_wp2_with (refine wpList_store_gd (W := X) (H := Y) (ad := a') (n := n) (c := c') rfl (.tmp 6) (.tmp 21) rfl w.heap.size rfl rfl K2 ?_; intro w6 k6 kk6)
  refine bodyPost_ret (results_g1 rfl _ _ w.heap.size rfl k6 rfl) rfl ⟨a', c', rfl, ?_, ?_⟩
  · exact HR2.out.keeps kk6 (fun b off e => by
      subst e
      rintro rfl
      have h1 := (HR2.out.cell (i := 3) (by omega)).2
      have h2 : w2.heap[w.heap.size]? = _ := K2
      simp [World.cell?, h2] at h1)
  · exact HB2.out.trans ((kk6.mono (Y := fun q => w.heap.size ≤ q) (fun q _ e => by omega)).below (B := w.heap.size) HB2.out.size (fun q hq e => by omega))

/-- How many orders there are. -/
def allN (n : Nat) : Nat := fact n

theorem pk2 (x : Int) : pk x 2 = 0 ∨ pk x 2 = 1 := by have := pk_lt x 2 (by omega); omega

set_option maxRecDepth 100000 in
set_option maxHeartbeats 16000000 in
theorem half_any (pw ph pk0 pa pb pd : Int) (w : World) (hT : Tab w) (bw : -9223372036854775808 ≤ pw ∧ pw ≤ 9223372036854775807) (bh : -9223372036854775808 ≤ ph ∧ ph ≤ 9223372036854775807) (bk : -9223372036854775808 ≤ pk0 ∧ pk0 ≤ 9223372036854775807) (ba : -9223372036854775808 ≤ pa ∧ pa ≤ 9223372036854775807) (bb : -9223372036854775808 ≤ pb ∧ pb ≤ 9223372036854775807) (bd : -9223372036854775808 ≤ pd ∧ pd ≤ 9223372036854775807) :
    Calls Tryd.prog 5 #[.int .i64 pw, .int .i64 ph, .int .i64 pk0, .int .i64 pa, .int .i64 pb, .int .i64 pd] w fun e w' => e = .returned (.bool true) ∧ Below w.heap.size w w' := by
  obtain ⟨X, hX⟩ : ∃ X : Nat, (2 : Int) + (pk pw 2 : Nat) = (X : Int) := ⟨2 + pk pw 2, by simp⟩
  obtain ⟨Y, hY⟩ : ∃ Y : Nat, (2 : Int) + (pk ph 2 : Nat) = (Y : Int) := ⟨2 + pk ph 2, by simp⟩
  have hXc : X = 2 ∨ X = 3 := by have := pk2 pw; omega
  have hYc : Y = 2 ∨ Y = 3 := by have := pk2 ph; omega
  obtain ⟨n, hN⟩ : ∃ n : Nat, X * Y = n := ⟨_, rfl⟩
  have hnc : n = 4 ∨ n = 6 ∨ n = 9 := by rcases hXc with rfl | rfl <;> rcases hYc with rfl | rfl <;> omega
  have hXY : (X : Int) * (Y : Int) = (n : Int) := by rw [← hN]; simp
  have HF : Hid (fact 4 = 24 ∧ fact 6 = 720 ∧ fact 9 = 362880) := hide (by decide)
  have HT := hide hT
  have HN := hide hN
  have HC1 := hide (picked_any pw 2 w bw.1 bw.2 (by omega) (by omega))
  have HC2 := hide (picked_any ph 2 w bh.1 bh.2 (by omega) (by omega))
  have hx1 := pk_lt pw 2 (by omega)
  have hx2 := pk_lt ph 2 (by omega)
  generalize pk pw 2 = px at *
  generalize pk ph 2 = py at *
  clear hT hN
  go_enter Tryd.func5, Tryd.ntmps5
  go_wp2_with fail
  refine HC1.out.mono ?_
  rintro e wx ⟨rfl, hwx⟩
  subst wx
  go_wp2_with fail
  refine HC2.out.mono ?_
  rintro e wx ⟨rfl, hwx⟩
  subst wx
  go_upto_if 38 with fail
  go_cut [15] (fun s wc => s = .int .i64 (if n = 6 then 720 else 24) ∧ wc = w)
  case first =>
    by_cases h6 : n = 6
    · have hb6 : ((n : Int) == 6) = true := by rw [beq_iff_eq]; omega
      go_wp2
      go_meet
      case rel => exact ⟨by rw [if_pos h6], rfl⟩
    · have hb6 : ((n : Int) == 6) = false := by rw [beq_eq_false_iff_ne]; omega
      go_wp2
      go_meet
      case rel => exact ⟨by rw [if_neg h6], rfl⟩
  case rest =>
    obtain ⟨rfl, hwc⟩ := hcut
    have hwc' := hwc.symm
    subst hwc'
    clear hwc
    go_upto_if 42 with fail
    go_cut [15] (fun s wc => s = .int .i64 (fact n : Nat) ∧ wc = w)
    case first =>
      obtain ⟨f4, f6, f9⟩ := HF.out
      have H4 := hide f4
      have H6 := hide f6
      have H9 := hide f9
      clear f4 f6 f9 hXY HN
      rcases hnc with rfl | rfl | rfl
      · go_wp2
        go_meet
        case rel => exact ⟨by rw [H4.out]; rfl, rfl⟩
      · go_wp2
        go_meet
        case rel => exact ⟨by rw [H6.out]; rfl, rfl⟩
      · go_wp2
        go_meet
        case rel => exact ⟨by rw [H9.out]; rfl, rfl⟩
    case rest =>
    obtain ⟨rfl, hwc⟩ := hcut
    have hwc' := hwc.symm
    subst hwc'
    clear hwc
    have hfb : 24 ≤ fact n ∧ fact n ≤ 362880 := by rcases hnc with rfl | rfl | rfl <;> (have := HF.out; omega)
    have hnb : 4 ≤ n ∧ n ≤ 9 := by omega
    have HNC := hide hnc
    have HC3 := hide (picked_any pk0 (fact n) w bk.1 bk.2 (by omega) (by omega))
    have hkF := pk_lt pk0 (fact n) (by omega)
    generalize pk pk0 (fact n) = kk at *
    have HK := hide hkF
    have HTR := hide (tray_any X Y n kk w HN.out ⟨by omega, by omega⟩ hkF)
    have HOZ : Hid (IsOrd (nthSt n kk n).1) := hide (nth_ord n kk hkF)
    generalize (nthSt n kk n).1 = Z at *
    generalize fact n = F at *
    clear hkF hfb
    go_wp2_with fail
    refine HC3.out.mono ?_
    rintro e wx ⟨rfl, hwx⟩
    subst wx
    go_wp2_with fail
    refine HTR.out.mono ?_
    rintro e w1 ⟨a1, c1, rfl, hR1, b1⟩
    have HR1 := hide hR1
    have HB1 := hide b1
    have HT1 := hide (HT.out.mono b1)
    have hlen : Z.length = n := hR1.len
    clear hR1 b1
    go_upto_region 8 with fail
    obtain ⟨w2, hw2⟩ : ∃ w2, w1.alloc (Obj.cells (gdA X Y a1 n c1) 24) = w2 := ⟨_, rfl⟩
    rw [hw2]
    have b2 : Below w1.heap.size w1 w2 := by rw [← hw2]; exact (Below.refl _ w1).alloc (Nat.le_refl _) _
    have K2 : Gd w2 w1.heap.size X Y a1 n c1 := by rw [← hw2]; exact Gd.new _ _ _ _ _ _
    have S2 : Hid (w1.heap.size < w2.heap.size) := hide (by rw [← hw2]; simp)
    have HR2 := hide (HR1.out.mono b2)
    have HB2 := hide (below_callB HB1.out b2)
    have HT2 := hide (HT1.out.mono b2)
    have SW1 : Hid (w.heap.size ≤ w1.heap.size) := hide HB1.out.size
    generalize w1.heap.size = gb at *
    clear hw2 b2 HR1 HB1 HT1
    have hu : 2 ≤ X ∧ X ≤ 5 := by omega
    have hv : 2 ≤ Y ∧ Y ≤ 5 := by omega
    have HM : Hid (mayS X Y Z) := hide ⟨by omega, by omega, by omega, by omega, by rw [hlen, hXY], fun i hi => HOZ.out.mem i hi⟩
    have hNz : X * Y = Z.length := by rw [HN.out, hlen]
    obtain ⟨g, hg, hgn, hgz⟩ := HOZ.out.gap hlen (by omega)
    obtain ⟨CZ, hCZ⟩ : ∃ CZ, canZ Z X n g = CZ := ⟨_, rfl⟩
    have HCZ : Hid (decide (pairs (hms Z n) % 2 = dst X g (hom Z n g) % 2) = CZ) := hide hCZ
    have HCZ2 := hide hCZ
    clear hCZ
    have hcap1 := HR2.out.cap
    have hmax1 := HR2.out.max
    unfold maxLen at hmax1
    go_wp2_with (refine wpList_load_gd rfl (.tmp 16) rfl gb rfl K2 ?_)
    refine (Can_yes X Y a1 n c1 g Z w2 HR2.out HM.out hu hv hNz HOZ.out hg hgn).mono ?_
    rintro e w3 ⟨rfl, b3⟩
    rw [HCZ.out]
    have K3 := K2.below b3 S2.out
    have S3 : Hid (gb < w3.heap.size) := hide (by have := S2.out; have := b3.size; omega)
    have HR3 := hide (HR2.out.mono b3)
    have HB3 := hide (below_callB HB2.out b3)
    have HT3 := hide (HT2.out.mono b3)
    clear K2 S2 HR2 HB2 HT2 b3
    go_wp2_with (refine wpList_load_gd rfl (.tmp 16) rfl gb rfl K3 ?_)
    refine (May_any X Y a1 n c1 Z w3 HR3.out).mono ?_
    rintro e w4 ⟨rfl, b4⟩
    rw [mayB_yes HM.out]
    have K4 := K3.below b4 S3.out
    have S4 : Hid (gb < w4.heap.size) := hide (by have := S3.out; have := b4.size; omega)
    have HR4 := hide (HR3.out.mono b4)
    have HB4 := hide (below_callB HB3.out b4)
    have HT4 := hide (HT3.out.mono b4)
    clear K3 S3 HR3 HB3 HT3 b4
    have HC5 := hide (fun W0 => picked_any pd 4 W0 bd.1 bd.2 (by omega) (by omega))
    have hm4 := pk_lt pd 4 (by omega)
    generalize pk pd 4 = m at *
    obtain ⟨RR, hRR⟩ : ∃ RR, runA X Y Z g 0 [(m : Int)] = RR := ⟨_, rfl⟩
    have HRR := hide hRR
    clear hRR
    obtain ⟨m0, hm0⟩ : ∃ m0, RR.2.1 = m0 := ⟨_, rfl⟩
    obtain ⟨e0, he0⟩ : ∃ e0, errR RR.2.2 = e0 := ⟨_, rfl⟩
    have HM0 := hide hm0
    have HE0 := hide he0
    clear hm0 he0
    go_upto_region 11 with fail
    go_cut [20, 21, 22] (fun s20 s21 s22 wc => ∃ nb cb2 cc2 : Nat, s20 = .pointer (some ⟨nb, 0, none⟩) ∧ s21 = .int .i64 m0 ∧ s22 = .int .i64 e0 ∧ Hid (Gd wc nb X Y (some ⟨cb2, 0, none⟩) n cc2) ∧ Hid (Bw wc cb2 n cc2 RR.1) ∧ Hid (Keeps (fun _ => False) w4 wc))
    case first =>
      refine wp_region_held (S := fun W4 => Keeps (fun _ => False) w4 W4) (by kernel_rfl) ?_
      change wpAnyH _ _ _ _ _ _ _ _ (World.drew _)
      have SW : Keeps (fun _ => False) w4 w4.drew := (Keeps.refl _ w4).drew
      obtain ⟨wd, hwd⟩ : ∃ wd, w4.drew = wd := ⟨_, rfl⟩
      rw [hwd] at SW ⊢
      clear hwd
      refine wpAnyH_take (i := 0) (v := .agg (gdA X Y a1 n c1)) rfl (by kernel_rfl) (by kernel_rfl) (by kernel_rfl) (fun _ _ _ h => h) (yieldsIf_load_mid (by rfl) 24 _ rfl gb 0 (by rfl) (gdA X Y a1 n c1).toList _ (fun W4 hW4 => World.rangeAt_of_block (K4.keeps hW4 (fun h => h)) 0 3) Tryd.underlying24 rfl (by exact size24)) SW ?_
      go_simp
      refine wpAnyH_take (i := 1) (v := .int .i64 pd) rfl (by kernel_rfl) (by kernel_rfl) (by kernel_rfl) (fun _ _ _ h => h) (Or.inl ⟨by rfl, ?_⟩) SW ?_
      · intro W4 hW4
        go_simp <;> first | done | rfl | (rw [IntKind.wrap_i64]; omega) | omega
      go_simp
      refine wpAnyH_ready (rs := [2, 9]) (by kernel_rfl) (by simp) ?_
      refine AllReadyH.cons rfl (fun K1 hK1 => ?_) (AllReadyH.cons rfl (fun K1 hK1 => ?_) AllReadyH.nil)
      · skip
        go_simp
        refine (HC5.out _).mono ?_
        rintro e wx ⟨rfl, hwx⟩
        subst wx
        refine hK1.out _ _ SW (fun SW => ?_)
        clear hK1 K1
        go_simp
        refine wpAnyH_ready (rs := [3, 9]) (by kernel_rfl) (by simp) ?_
        refine AllReadyH.cons rfl (fun K1 hK1 => ?_) (AllReadyH.cons rfl (fun K1 hK1 => ?_) AllReadyH.nil)
        · skip
          go_simp
          have SWa := SW.alloc (.cells #[.int .i64 (m : Int)] 3)
          have RL : Rd ((wd).alloc (.cells #[.int .i64 (m : Int)] 3)) (some ⟨(wd).heap.size, 0, none⟩) 1 1 [(m : Int)] := Rd.of_blk (Blk.new wd 3 [(m : Int)] _ rfl) rfl (by decide)
          obtain ⟨wd3, hwd3⟩ : ∃ wd3, (wd).alloc (.cells #[.int .i64 (m : Int)] 3) = wd3 := ⟨_, rfl⟩
          rw [hwd3] at SWa RL ⊢
          refine hK1.out _ _ SWa (fun SW => ?_)
          clear hK1 K1 hwd3
          obtain ⟨lb, hlb⟩ : ∃ lb, (wd).heap.size = lb := ⟨_, rfl⟩
          rw [hlb] at RL
          go_simp
          refine wpAnyH_ready (rs := [4, 9]) (by kernel_rfl) (by simp) ?_
          refine AllReadyH.cons rfl (fun K1 hK1 => ?_) (AllReadyH.cons rfl (fun K1 hK1 => ?_) AllReadyH.nil)
          · skip
            go_simp
            refine (Do_yes X Y a1 _ n c1 1 1 g Z [(m : Int)] wd3 (HT4.out.keeps SW (fun h => h)) (HR4.out.keeps SW (fun _ _ _ h => h)) RL HM.out hu hv hNz hg hgn).mono ?_
            rintro e wd34 ⟨cb2, cc2, rfl, bw2, -, bwd34⟩
            rw [HRR.out] at bw2 ⊢
            rw [HM0.out, HE0.out]
            have HBW := hide bw2
            clear bw2
            refine hK1.out _ _ (SW.trans (Keeps.of_all bwd34)) (fun SW => ?_)
            clear hK1 K1 bwd34
            go_simp
            refine wpAnyH_take (i := 5) (v := .tuple #[.agg (gdA X Y (some ⟨cb2, 0, none⟩) n cc2), .int .i64 m0, .int .i64 e0]) rfl (by kernel_rfl) (by kernel_rfl) (by kernel_rfl) (fun _ _ _ h => h) (Or.inl ⟨by rfl, ?_⟩) SW ?_
            · intro W4 hW4
              go_simp <;> first | done | rfl | (rw [IntKind.wrap_i64]; omega) | omega
            go_simp
            refine wpAnyH_take (i := 6) (v := .agg (gdA X Y (some ⟨cb2, 0, none⟩) n cc2)) rfl (by kernel_rfl) (by kernel_rfl) (by kernel_rfl) (fun _ _ _ h => h) (Or.inl ⟨by rfl, ?_⟩) SW ?_
            · intro W4 hW4
              go_simp <;> first | done | rfl | (rw [IntKind.wrap_i64]; omega) | omega
            go_simp
            refine wpAnyH_take (i := 7) (v := .int .i64 m0) rfl (by kernel_rfl) (by kernel_rfl) (by kernel_rfl) (fun _ _ _ h => h) (Or.inl ⟨by rfl, ?_⟩) SW ?_
            · intro W4 hW4
              go_simp <;> first | done | rfl | (rw [IntKind.wrap_i64]; omega) | omega
            go_simp
            refine wpAnyH_take (i := 8) (v := .int .i64 e0) rfl (by kernel_rfl) (by kernel_rfl) (by kernel_rfl) (fun _ _ _ h => h) (Or.inl ⟨by rfl, ?_⟩) SW ?_
            · intro W4 hW4
              go_simp <;> first | done | rfl | (rw [IntKind.wrap_i64]; omega) | omega
            go_simp
            refine wpAnyH_ready (rs := [9]) (by kernel_rfl) (by simp) ?_
            refine AllReadyH.cons rfl (fun K1 hK1 => ?_) AllReadyH.nil
            go_simp
            have SWa := SW.alloc (.cells (gdA 0 0 none 0 0) 24)
            have G0 := Gd.new wd34 0 0 none 0 0
            have hsz9 : w4.heap.size ≤ (wd34).heap.size := SW.size
            have HBWa := HBW.out.mono ((Below.refl _ wd34).alloc (Nat.le_refl _) (.cells (gdA 0 0 none 0 0) 24))
            have hcn0 := HBW.out.lt
            obtain ⟨nz, hnz⟩ : ∃ nz, (wd34).heap.size = nz := ⟨_, rfl⟩
            obtain ⟨wd349, hwd349⟩ : ∃ wd349, (wd34).alloc (.cells (gdA 0 0 none 0 0) 24) = wd349 := ⟨_, rfl⟩
            rw [hwd349] at SWa G0 HBWa ⊢
            rw [hnz] at G0 hsz9 hcn0 
            refine hK1.out _ _ SWa (fun SW => ?_)
            clear hK1 K1 hwd349
            have hcn : cb2 ≠ nz := by omega
            have HBW := hide HBWa
            go_simp
            refine wpAnyH_ready (rs := [10]) (by kernel_rfl) (by simp) ?_
            refine AllReadyH.cons rfl (fun K1 hK1 => ?_) AllReadyH.nil
            refine wp_storeG (.tmp 20) (.tmp 74) rfl _ rfl rfl G0 ?_
            intro wz kz kkz
            refine hK1.out _ _ (SW.afterB kkz (fun i hi e => by omega)) (fun SW => ?_)
            clear hK1 K1
            go_simp
            refine wpAnyH_ready (rs := [11]) (by kernel_rfl) (by simp) ?_
            refine AllReadyH.cons rfl (fun K1 hK1 => ?_) AllReadyH.nil
            go_simp
            refine hK1.out _ _ SW (fun SW => ?_)
            clear hK1 K1
            go_simp
            refine wpAnyH_ready (rs := [12]) (by kernel_rfl) (by simp) ?_
            refine AllReadyH.cons rfl (fun K1 hK1 => ?_) AllReadyH.nil
            go_simp
            refine hK1.out _ _ SW (fun SW => ?_)
            clear hK1 K1
            go_simp
            refine wpAnyH_done (by kernel_rfl) ?_ _
            have HGz := hide kz
            have HBz := hide (HBW.out.keeps kkz hcn)
            have HKz := hide SW
            go_wp2
            go_meet
            case rel => exact ⟨nz, cb2, cc2, rfl, rfl, rfl, HGz, HBz, HKz⟩
          · skip
            go_simp
            have SWa := SW.alloc (.cells (gdA 0 0 none 0 0) 24)
            have G0 := Gd.new wd3 0 0 none 0 0
            have hsz9 : w4.heap.size ≤ (wd3).heap.size := SW.size
            have RL := RL.alloc (.cells (gdA 0 0 none 0 0) 24)
            obtain ⟨nz, hnz⟩ : ∃ nz, (wd3).heap.size = nz := ⟨_, rfl⟩
            obtain ⟨wd39, hwd39⟩ : ∃ wd39, (wd3).alloc (.cells (gdA 0 0 none 0 0) 24) = wd39 := ⟨_, rfl⟩
            rw [hwd39] at SWa G0 RL ⊢
            rw [hnz] at G0 hsz9 
            refine hK1.out _ _ SWa (fun SW => ?_)
            clear hK1 K1 hwd39
            go_simp
            refine wpAnyH_ready (rs := [4]) (by kernel_rfl) (by simp) ?_
            refine AllReadyH.cons rfl (fun K1 hK1 => ?_) AllReadyH.nil
            go_simp
            refine (Do_yes X Y a1 _ n c1 1 1 g Z [(m : Int)] wd39 (HT4.out.keeps SW (fun h => h)) (HR4.out.keeps SW (fun _ _ _ h => h)) RL HM.out hu hv hNz hg hgn).mono ?_
            rintro e wd394 ⟨cb2, cc2, rfl, bw2, -, bwd394⟩
            rw [HRR.out] at bw2 ⊢
            rw [HM0.out, HE0.out]
            have HBW := hide bw2
            clear bw2
            have G0 := G0.below bwd394 G0.lt
            have hcn : cb2 ≠ nz := HBW.out.notCells G0 (by decide)
            refine hK1.out _ _ (SW.trans (Keeps.of_all bwd394)) (fun SW => ?_)
            clear hK1 K1 bwd394
            go_simp
            refine wpAnyH_take (i := 5) (v := .tuple #[.agg (gdA X Y (some ⟨cb2, 0, none⟩) n cc2), .int .i64 m0, .int .i64 e0]) rfl (by kernel_rfl) (by kernel_rfl) (by kernel_rfl) (fun _ _ _ h => h) (Or.inl ⟨by rfl, ?_⟩) SW ?_
            · intro W4 hW4
              go_simp <;> first | done | rfl | (rw [IntKind.wrap_i64]; omega) | omega
            go_simp
            refine wpAnyH_take (i := 6) (v := .agg (gdA X Y (some ⟨cb2, 0, none⟩) n cc2)) rfl (by kernel_rfl) (by kernel_rfl) (by kernel_rfl) (fun _ _ _ h => h) (Or.inl ⟨by rfl, ?_⟩) SW ?_
            · intro W4 hW4
              go_simp <;> first | done | rfl | (rw [IntKind.wrap_i64]; omega) | omega
            go_simp
            refine wpAnyH_take (i := 7) (v := .int .i64 m0) rfl (by kernel_rfl) (by kernel_rfl) (by kernel_rfl) (fun _ _ _ h => h) (Or.inl ⟨by rfl, ?_⟩) SW ?_
            · intro W4 hW4
              go_simp <;> first | done | rfl | (rw [IntKind.wrap_i64]; omega) | omega
            go_simp
            refine wpAnyH_take (i := 8) (v := .int .i64 e0) rfl (by kernel_rfl) (by kernel_rfl) (by kernel_rfl) (fun _ _ _ h => h) (Or.inl ⟨by rfl, ?_⟩) SW ?_
            · intro W4 hW4
              go_simp <;> first | done | rfl | (rw [IntKind.wrap_i64]; omega) | omega
            go_simp
            refine wpAnyH_ready (rs := [10]) (by kernel_rfl) (by simp) ?_
            refine AllReadyH.cons rfl (fun K1 hK1 => ?_) AllReadyH.nil
            refine wp_storeG (.tmp 20) (.tmp 74) rfl _ rfl rfl G0 ?_
            intro wz kz kkz
            refine hK1.out _ _ (SW.afterB kkz (fun i hi e => by omega)) (fun SW => ?_)
            clear hK1 K1
            go_simp
            refine wpAnyH_ready (rs := [11]) (by kernel_rfl) (by simp) ?_
            refine AllReadyH.cons rfl (fun K1 hK1 => ?_) AllReadyH.nil
            go_simp
            refine hK1.out _ _ SW (fun SW => ?_)
            clear hK1 K1
            go_simp
            refine wpAnyH_ready (rs := [12]) (by kernel_rfl) (by simp) ?_
            refine AllReadyH.cons rfl (fun K1 hK1 => ?_) AllReadyH.nil
            go_simp
            refine hK1.out _ _ SW (fun SW => ?_)
            clear hK1 K1
            go_simp
            refine wpAnyH_done (by kernel_rfl) ?_ _
            have HGz := hide kz
            have HBz := hide (HBW.out.keeps kkz hcn)
            have HKz := hide SW
            go_wp2
            go_meet
            case rel => exact ⟨nz, cb2, cc2, rfl, rfl, rfl, HGz, HBz, HKz⟩
        · skip
          go_simp
          have SWa := SW.alloc (.cells (gdA 0 0 none 0 0) 24)
          have G0 := Gd.new wd 0 0 none 0 0
          have hsz9 : w4.heap.size ≤ (wd).heap.size := SW.size
          obtain ⟨nz, hnz⟩ : ∃ nz, (wd).heap.size = nz := ⟨_, rfl⟩
          obtain ⟨wd9, hwd9⟩ : ∃ wd9, (wd).alloc (.cells (gdA 0 0 none 0 0) 24) = wd9 := ⟨_, rfl⟩
          rw [hwd9] at SWa G0 ⊢
          rw [hnz] at G0 hsz9 
          refine hK1.out _ _ SWa (fun SW => ?_)
          clear hK1 K1 hwd9
          go_simp
          refine wpAnyH_ready (rs := [3]) (by kernel_rfl) (by simp) ?_
          refine AllReadyH.cons rfl (fun K1 hK1 => ?_) AllReadyH.nil
          go_simp
          have SWa := SW.alloc (.cells #[.int .i64 (m : Int)] 3)
          have RL : Rd ((wd9).alloc (.cells #[.int .i64 (m : Int)] 3)) (some ⟨(wd9).heap.size, 0, none⟩) 1 1 [(m : Int)] := Rd.of_blk (Blk.new wd9 3 [(m : Int)] _ rfl) rfl (by decide)
          have G0 := G0.old (.cells #[.int .i64 (m : Int)] 3)
          obtain ⟨wd93, hwd93⟩ : ∃ wd93, (wd9).alloc (.cells #[.int .i64 (m : Int)] 3) = wd93 := ⟨_, rfl⟩
          rw [hwd93] at SWa RL G0 ⊢
          refine hK1.out _ _ SWa (fun SW => ?_)
          clear hK1 K1 hwd93
          obtain ⟨lb, hlb⟩ : ∃ lb, (wd9).heap.size = lb := ⟨_, rfl⟩
          rw [hlb] at RL
          go_simp
          refine wpAnyH_ready (rs := [4]) (by kernel_rfl) (by simp) ?_
          refine AllReadyH.cons rfl (fun K1 hK1 => ?_) AllReadyH.nil
          go_simp
          refine (Do_yes X Y a1 _ n c1 1 1 g Z [(m : Int)] wd93 (HT4.out.keeps SW (fun h => h)) (HR4.out.keeps SW (fun _ _ _ h => h)) RL HM.out hu hv hNz hg hgn).mono ?_
          rintro e wd934 ⟨cb2, cc2, rfl, bw2, -, bwd934⟩
          rw [HRR.out] at bw2 ⊢
          rw [HM0.out, HE0.out]
          have HBW := hide bw2
          clear bw2
          have G0 := G0.below bwd934 G0.lt
          have hcn : cb2 ≠ nz := HBW.out.notCells G0 (by decide)
          refine hK1.out _ _ (SW.trans (Keeps.of_all bwd934)) (fun SW => ?_)
          clear hK1 K1 bwd934
          go_simp
          refine wpAnyH_take (i := 5) (v := .tuple #[.agg (gdA X Y (some ⟨cb2, 0, none⟩) n cc2), .int .i64 m0, .int .i64 e0]) rfl (by kernel_rfl) (by kernel_rfl) (by kernel_rfl) (fun _ _ _ h => h) (Or.inl ⟨by rfl, ?_⟩) SW ?_
          · intro W4 hW4
            go_simp <;> first | done | rfl | (rw [IntKind.wrap_i64]; omega) | omega
          go_simp
          refine wpAnyH_take (i := 6) (v := .agg (gdA X Y (some ⟨cb2, 0, none⟩) n cc2)) rfl (by kernel_rfl) (by kernel_rfl) (by kernel_rfl) (fun _ _ _ h => h) (Or.inl ⟨by rfl, ?_⟩) SW ?_
          · intro W4 hW4
            go_simp <;> first | done | rfl | (rw [IntKind.wrap_i64]; omega) | omega
          go_simp
          refine wpAnyH_take (i := 7) (v := .int .i64 m0) rfl (by kernel_rfl) (by kernel_rfl) (by kernel_rfl) (fun _ _ _ h => h) (Or.inl ⟨by rfl, ?_⟩) SW ?_
          · intro W4 hW4
            go_simp <;> first | done | rfl | (rw [IntKind.wrap_i64]; omega) | omega
          go_simp
          refine wpAnyH_take (i := 8) (v := .int .i64 e0) rfl (by kernel_rfl) (by kernel_rfl) (by kernel_rfl) (fun _ _ _ h => h) (Or.inl ⟨by rfl, ?_⟩) SW ?_
          · intro W4 hW4
            go_simp <;> first | done | rfl | (rw [IntKind.wrap_i64]; omega) | omega
          go_simp
          refine wpAnyH_ready (rs := [10]) (by kernel_rfl) (by simp) ?_
          refine AllReadyH.cons rfl (fun K1 hK1 => ?_) AllReadyH.nil
          refine wp_storeG (.tmp 20) (.tmp 74) rfl _ rfl rfl G0 ?_
          intro wz kz kkz
          refine hK1.out _ _ (SW.afterB kkz (fun i hi e => by omega)) (fun SW => ?_)
          clear hK1 K1
          go_simp
          refine wpAnyH_ready (rs := [11]) (by kernel_rfl) (by simp) ?_
          refine AllReadyH.cons rfl (fun K1 hK1 => ?_) AllReadyH.nil
          go_simp
          refine hK1.out _ _ SW (fun SW => ?_)
          clear hK1 K1
          go_simp
          refine wpAnyH_ready (rs := [12]) (by kernel_rfl) (by simp) ?_
          refine AllReadyH.cons rfl (fun K1 hK1 => ?_) AllReadyH.nil
          go_simp
          refine hK1.out _ _ SW (fun SW => ?_)
          clear hK1 K1
          go_simp
          refine wpAnyH_done (by kernel_rfl) ?_ _
          have HGz := hide kz
          have HBz := hide (HBW.out.keeps kkz hcn)
          have HKz := hide SW
          go_wp2
          go_meet
          case rel => exact ⟨nz, cb2, cc2, rfl, rfl, rfl, HGz, HBz, HKz⟩
      · skip
        go_simp
        have SWa := SW.alloc (.cells (gdA 0 0 none 0 0) 24)
        have G0 := Gd.new wd 0 0 none 0 0
        have hsz9 : w4.heap.size ≤ (wd).heap.size := SW.size
        obtain ⟨nz, hnz⟩ : ∃ nz, (wd).heap.size = nz := ⟨_, rfl⟩
        obtain ⟨wd9, hwd9⟩ : ∃ wd9, (wd).alloc (.cells (gdA 0 0 none 0 0) 24) = wd9 := ⟨_, rfl⟩
        rw [hwd9] at SWa G0 ⊢
        rw [hnz] at G0 hsz9 
        refine hK1.out _ _ SWa (fun SW => ?_)
        clear hK1 K1 hwd9
        go_simp
        refine wpAnyH_ready (rs := [2]) (by kernel_rfl) (by simp) ?_
        refine AllReadyH.cons rfl (fun K1 hK1 => ?_) AllReadyH.nil
        go_simp
        refine (HC5.out _).mono ?_
        rintro e wx ⟨rfl, hwx⟩
        subst wx
        refine hK1.out _ _ SW (fun SW => ?_)
        clear hK1 K1
        go_simp
        refine wpAnyH_ready (rs := [3]) (by kernel_rfl) (by simp) ?_
        refine AllReadyH.cons rfl (fun K1 hK1 => ?_) AllReadyH.nil
        go_simp
        have SWa := SW.alloc (.cells #[.int .i64 (m : Int)] 3)
        have RL : Rd ((wd9).alloc (.cells #[.int .i64 (m : Int)] 3)) (some ⟨(wd9).heap.size, 0, none⟩) 1 1 [(m : Int)] := Rd.of_blk (Blk.new wd9 3 [(m : Int)] _ rfl) rfl (by decide)
        have G0 := G0.old (.cells #[.int .i64 (m : Int)] 3)
        obtain ⟨wd93, hwd93⟩ : ∃ wd93, (wd9).alloc (.cells #[.int .i64 (m : Int)] 3) = wd93 := ⟨_, rfl⟩
        rw [hwd93] at SWa RL G0 ⊢
        refine hK1.out _ _ SWa (fun SW => ?_)
        clear hK1 K1 hwd93
        obtain ⟨lb, hlb⟩ : ∃ lb, (wd9).heap.size = lb := ⟨_, rfl⟩
        rw [hlb] at RL
        go_simp
        refine wpAnyH_ready (rs := [4]) (by kernel_rfl) (by simp) ?_
        refine AllReadyH.cons rfl (fun K1 hK1 => ?_) AllReadyH.nil
        go_simp
        refine (Do_yes X Y a1 _ n c1 1 1 g Z [(m : Int)] wd93 (HT4.out.keeps SW (fun h => h)) (HR4.out.keeps SW (fun _ _ _ h => h)) RL HM.out hu hv hNz hg hgn).mono ?_
        rintro e wd934 ⟨cb2, cc2, rfl, bw2, -, bwd934⟩
        rw [HRR.out] at bw2 ⊢
        rw [HM0.out, HE0.out]
        have HBW := hide bw2
        clear bw2
        have G0 := G0.below bwd934 G0.lt
        have hcn : cb2 ≠ nz := HBW.out.notCells G0 (by decide)
        refine hK1.out _ _ (SW.trans (Keeps.of_all bwd934)) (fun SW => ?_)
        clear hK1 K1 bwd934
        go_simp
        refine wpAnyH_take (i := 5) (v := .tuple #[.agg (gdA X Y (some ⟨cb2, 0, none⟩) n cc2), .int .i64 m0, .int .i64 e0]) rfl (by kernel_rfl) (by kernel_rfl) (by kernel_rfl) (fun _ _ _ h => h) (Or.inl ⟨by rfl, ?_⟩) SW ?_
        · intro W4 hW4
          go_simp <;> first | done | rfl | (rw [IntKind.wrap_i64]; omega) | omega
        go_simp
        refine wpAnyH_take (i := 6) (v := .agg (gdA X Y (some ⟨cb2, 0, none⟩) n cc2)) rfl (by kernel_rfl) (by kernel_rfl) (by kernel_rfl) (fun _ _ _ h => h) (Or.inl ⟨by rfl, ?_⟩) SW ?_
        · intro W4 hW4
          go_simp <;> first | done | rfl | (rw [IntKind.wrap_i64]; omega) | omega
        go_simp
        refine wpAnyH_take (i := 7) (v := .int .i64 m0) rfl (by kernel_rfl) (by kernel_rfl) (by kernel_rfl) (fun _ _ _ h => h) (Or.inl ⟨by rfl, ?_⟩) SW ?_
        · intro W4 hW4
          go_simp <;> first | done | rfl | (rw [IntKind.wrap_i64]; omega) | omega
        go_simp
        refine wpAnyH_take (i := 8) (v := .int .i64 e0) rfl (by kernel_rfl) (by kernel_rfl) (by kernel_rfl) (fun _ _ _ h => h) (Or.inl ⟨by rfl, ?_⟩) SW ?_
        · intro W4 hW4
          go_simp <;> first | done | rfl | (rw [IntKind.wrap_i64]; omega) | omega
        go_simp
        refine wpAnyH_ready (rs := [10]) (by kernel_rfl) (by simp) ?_
        refine AllReadyH.cons rfl (fun K1 hK1 => ?_) AllReadyH.nil
        refine wp_storeG (.tmp 20) (.tmp 74) rfl _ rfl rfl G0 ?_
        intro wz kz kkz
        refine hK1.out _ _ (SW.afterB kkz (fun i hi e => by omega)) (fun SW => ?_)
        clear hK1 K1
        go_simp
        refine wpAnyH_ready (rs := [11]) (by kernel_rfl) (by simp) ?_
        refine AllReadyH.cons rfl (fun K1 hK1 => ?_) AllReadyH.nil
        go_simp
        refine hK1.out _ _ SW (fun SW => ?_)
        clear hK1 K1
        go_simp
        refine wpAnyH_ready (rs := [12]) (by kernel_rfl) (by simp) ?_
        refine AllReadyH.cons rfl (fun K1 hK1 => ?_) AllReadyH.nil
        go_simp
        refine hK1.out _ _ SW (fun SW => ?_)
        clear hK1 K1
        go_simp
        refine wpAnyH_done (by kernel_rfl) ?_ _
        have HGz := hide kz
        have HBz := hide (HBW.out.keeps kkz hcn)
        have HKz := hide SW
        go_wp2
        go_meet
        case rel => exact ⟨nz, cb2, cc2, rfl, rfl, rfl, HGz, HBz, HKz⟩

    case rest =>
    obtain ⟨nb, cb2, cc2, rfl, rfl, rfl, HNB, HBW, HKC⟩ := hcut
    have K5 := K4.keeps HKC.out (fun h => h)
    have S5 : Hid (gb < wc.heap.size) := hide K5.lt
    have HR5 := hide (HR4.out.keeps HKC.out (fun _ _ _ h => h))
    have HB5 := hide (HB4.out.trans ((HKC.out.mono (Y := fun k => w.heap.size ≤ k) (fun k _ h => h.elim)).below HB4.out.size (fun k hk e => by omega)))
    have HT5 := hide (HT4.out.keeps HKC.out (fun h => h))
    clear K4 S4 HR4 HB4 HT4 HKC
    generalize wc = w5 at *
    go_upto_if 78 with fail
    go_cut [24] (fun s24 wc => s24 = s24 ∧ Hid (Below w5.heap.size w5 wc))
    case first =>
      by_cases hc : cmv X Y g m = true
      · have hcd : canD X Y g (m : Int) = true := by unfold canD; rw [decide_eq_true (by omega), Int.toNat_natCast, hc]; rfl
        obtain ⟨q, hq, hqn⟩ := frm_nat hc
        rw [HN.out] at hqn
        have hRE : RR = (mvl Z g q, 1, true) := by
          rw [← HRR.out, runA_go hcd, Int.toNat_natCast, hq, Int.toNat_natCast]; rfl
        have hm1 : m0 = 1 := by rw [← HM0.out, hRE]
        have he1 : e0 = 0 := by rw [← HE0.out, hRE]; rfl
        have hB1 : RR.1 = mvl Z g q := by rw [hRE]
        have hqg := frm_ne hu.1 (by omega) hc hq
        have HO2 : IsOrd (mvl Z g q) := mvl_ord HOZ.out hlen hgn hqn hgz hqg
        have hq2 : ix (mvl Z g q) 0 = q := mvl_gap HOZ.out hlen hgn hqn hgz hqg
        have hlm : (mvl Z g q).length = n := by rw [mvl_length, hlen]
        have hcm := can_move hu.1 hv.1 HN.out HOZ.out hlen HNC.out hgn hgz (by omega) hc hq hqn
        rw [HCZ2.out] at hcm
        rw [hB1] at HBW
        subst hm1 he1
        have HCN := hide (Can_yes X Y (some ⟨cb2, 0, none⟩) n cc2 q (mvl Z g q) w5 HBW.out.rd ⟨by omega, by omega, by omega, by omega, by rw [hlm, hXY], fun i hi => HO2.mem i hi⟩ hu hv (by rw [HN.out, hlm]) HO2 hq2 hqn)
        have hcm2 : decide (pairs (hms (mvl Z g q) n) % 2 = dst X q (hom (mvl Z g q) n q) % 2) = CZ := hcm
        rw [hcm2] at HCN
        have KN := HNB.out
        clear hRE hB1 hcm hcm2 HO2 hq2 hlm hcd hq hqg HCZ HCZ2 HRR HM0 HE0
        go_wp2_with (refine wpList_load_gd rfl (.tmp 20) rfl nb rfl KN ?_)
        refine HCN.out.mono ?_
        rintro e w6 ⟨rfl, b6⟩
        have HB6 := hide b6
        clear b6
        go_wp2
        go_meet
        case rel => exact ⟨trivial, HB6⟩
      · have hc' : cmv X Y g m = false := by simpa using hc
        have hcd : canD X Y g (m : Int) = false := by unfold canD; rw [decide_eq_true (by omega), Int.toNat_natCast, hc']; rfl
        have hRE : RR = (Z, 0, false) := by rw [← HRR.out, runA_stop hcd]
        have hm1 : m0 = 0 := by rw [← HM0.out, hRE]
        have he1 : e0 = 8 := by rw [← HE0.out, hRE]; rfl
        subst hm1 he1
        clear hRE hcd hc hc'
        go_wp2
        go_meet
        case rel => exact ⟨trivial, hide (Below.refl _ _)⟩
    case rest =>
    obtain ⟨-, HBC⟩ := hcut
    have K6 := K5.below HBC.out S5.out
    have HR6 := hide (HR5.out.mono HBC.out)
    have HB6 := hide (below_callB HB5.out HBC.out)
    clear K5 S5 HR5 HB5 HT5 HBC HNB HBW HRR HM0 HE0
    generalize wc = w6 at *
    have HI := hide (picked_any pa n w6 ba.1 ba.2 (by omega) (by omega))
    have HJ := hide (picked_any pb n w6 bb.1 bb.2 (by omega) (by omega))
    have hi := pk_lt pa n (by omega)
    have hj := pk_lt pb n (by omega)
    generalize pk pa n = i at *
    generalize pk pb n = j at *
    go_wp2_with fail
    refine HI.out.mono ?_
    rintro e wx ⟨rfl, hwx⟩
    subst wx
    go_wp2_with fail
    refine HJ.out.mono ?_
    rintro e wx ⟨rfl, hwx⟩
    subst wx
    go_upto_region 19 with fail
    obtain ⟨g0, g1, g2⟩ := K6.cells
    by_cases hij : i = j
    · have hb1 : ((i : Int) == (j : Int)) = true := by rw [beq_iff_eq, hij]
      go_wp2_with fail
      go_ret
      exact ⟨rfl, HB6.out⟩
    have hb1 : ((i : Int) == (j : Int)) = false := by rw [beq_eq_false_iff_ne]; omega
    obtain ⟨ab, aoff, rfl, hac⟩ := HR6.out.cells (by omega)
    have ci := hac i hi
    have cj := hac j hj
    clear hac
    obtain ⟨zi, hzi⟩ : ∃ zi, Z.getD i 0 = zi := ⟨_, rfl⟩
    obtain ⟨zj, hzj⟩ : ∃ zj, Z.getD j 0 = zj := ⟨_, rfl⟩
    rw [hzi] at ci
    rw [hzj] at cj
    have HZI := hide hzi
    have HZJ := hide hzj
    clear hzi hzj
    by_cases hi0 : zi = 0
    · subst hi0
      go_wp2_with fail
      go_ret
      exact ⟨rfl, HB6.out⟩
    have hbi : (zi == 0) = false := by rw [beq_eq_false_iff_ne]; exact hi0
    by_cases hj0 : zj = 0
    · subst hj0
      go_wp2_with fail
      go_ret
      exact ⟨rfl, HB6.out⟩
    have hbj : (zj == 0) = false := by rw [beq_eq_false_iff_ne]; exact hj0
    have HGI : Hid (g ≠ i ∧ g ≠ j) := hide ⟨fun e => hi0 (by rw [← HZI.out, ← e, hgz]), fun e => hj0 (by rw [← HZJ.out, ← e, hgz])⟩
    go_wp2_with fail
    refine (kints_own (some ⟨ab, aoff, none⟩) n c1 Z w6 HR6.out (by omega)).mono ?_
    rintro e w7 ⟨ka, kc, rfl, ko, b7⟩
    obtain ⟨kb, rfl⟩ : ∃ kb, ka = some ⟨kb, 0, none⟩ := by
      rcases ko.2 with ⟨hv, h0⟩ | ⟨g', cap, cur, hv, -, -, _⟩
      · omega
      · simp only [Value.slice.injEq] at hv
        obtain ⟨rfl, -, rfl⟩ := hv
        exact ⟨g', rfl⟩
    have hkw : w.heap.size ≤ kb := Nat.le_trans HB6.out.size (ko.lt kb rfl).1
    have BK7 : Bw w7 kb n kc Z := own_base ko (Nat.zero_le _)
    have HB7 := hide (below_callB HB6.out b7)
    clear g0 g1 g2 K6 ko b7 ci cj HR6 HB6
    go_upto_region 22 with fail
    obtain ⟨w8, hw8⟩ : ∃ w8, w7.alloc (Obj.cells (gdA X Y (some ⟨kb, 0, none⟩) n kc) 24) = w8 := ⟨_, rfl⟩
    rw [hw8]
    have b8 : Below w7.heap.size w7 w8 := by rw [← hw8]; exact (Below.refl _ w7).alloc (Nat.le_refl _) _
    have K8 : Gd w8 w7.heap.size X Y (some ⟨kb, 0, none⟩) n kc := by rw [← hw8]; exact Gd.new _ _ _ _ _ _
    have BK8 := BK7.mono b8
    have hk7 := BK7.lt
    have HB8 := hide (below_callB HB7.out b8)
    have hs7 : w.heap.size ≤ w7.heap.size := HB7.out.size
    generalize w7.heap.size = ob at *
    clear hw8 b8 BK7 HB7
    have HBK8 := hide BK8
    have hkc := BK8.rd.cap
    have hkm := BK8.rd.max
    unfold maxLen at hkm
    have c_i : w8.cell? ⟨kb, 0 + i, none⟩ = some (.int .i64 zi) := by rw [← HZI.out]; exact (BK8.rd.cell hi).2
    have c_j : w8.cell? ⟨kb, 0 + j, none⟩ = some (.int .i64 zj) := by rw [← HZJ.out]; exact (BK8.rd.cell hj).2
    rw [Nat.zero_add] at c_i c_j
    have f8 : ∀ p, w8.frozen? ⟨kb, p, none⟩ = false := fun p => BK8.frozen p
    have hok : ¬ ob = kb := fun e => BK8.notCells K8 (by decide) e.symm
    clear BK8
    go_cut [153] (fun s153 wc => s153 = s153 ∧ Hid (Bw wc kb n kc (swp Z i j)) ∧ Hid (Keeps (fun k => k = kb) w8 wc))
    case first =>
      refine wp_region_held (S := fun W4 => Keeps (fun k => k = kb) w8 W4) (by kernel_rfl) ?_
      change wpAnyH _ _ _ _ _ _ _ _ (World.drew _)
      have SW : Keeps (fun k => k = kb) w8 w8.drew := (Keeps.refl _ w8).drew
      refine wpAnyH_take (i := 0) (v := .pointer (some ⟨ob, 2, none⟩)) rfl (by kernel_rfl) (by kernel_rfl) (by kernel_rfl) (fun _ _ _ h => h) (Or.inl ⟨by rfl, ?_⟩) SW ?_
      · intro W4 hW4
        go_simp <;> first | done | rfl | (rw [IntKind.wrap_i64]; omega) | omega
      go_simp
      refine wpAnyH_take (i := 1) (v := .slice (some ⟨kb, 0, none⟩) n kc) rfl (by kernel_rfl) (by kernel_rfl) (by kernel_rfl) (fun _ _ _ h => h) (Or.inl ⟨by rfl, ?_⟩) SW ?_
      · intro W4 hW4
        have hc := (K8.keeps hW4 hok).cells
        go_simp <;> first | done | rfl | (rw [IntKind.wrap_i64]; omega) | omega
      go_simp
      refine wpAnyH_take (i := 2) (v := .int .i64 i) rfl (by kernel_rfl) (by kernel_rfl) (by kernel_rfl) (fun _ _ _ h => h) (Or.inl ⟨by rfl, ?_⟩) SW ?_
      · intro W4 hW4
        go_simp <;> first | done | rfl | (rw [IntKind.wrap_i64]; omega) | omega
      go_simp
      refine wpAnyH_take (i := 3) (v := .pointer (some ⟨ob, 2, none⟩)) rfl (by kernel_rfl) (by kernel_rfl) (by kernel_rfl) (fun _ _ _ h => h) (Or.inl ⟨by rfl, ?_⟩) SW ?_
      · intro W4 hW4
        go_simp <;> first | done | rfl | (rw [IntKind.wrap_i64]; omega) | omega
      go_simp
      refine wpAnyH_take (i := 4) (v := .slice (some ⟨kb, 0, none⟩) n kc) rfl (by kernel_rfl) (by kernel_rfl) (by kernel_rfl) (fun _ _ _ h => h) (Or.inl ⟨by rfl, ?_⟩) SW ?_
      · intro W4 hW4
        have hc := (K8.keeps hW4 hok).cells
        go_simp <;> first | done | rfl | (rw [IntKind.wrap_i64]; omega) | omega
      go_simp
      refine wpAnyH_take (i := 5) (v := .int .i64 j) rfl (by kernel_rfl) (by kernel_rfl) (by kernel_rfl) (fun _ _ _ h => h) (Or.inl ⟨by rfl, ?_⟩) SW ?_
      · intro W4 hW4
        go_simp <;> first | done | rfl | (rw [IntKind.wrap_i64]; omega) | omega
      go_simp
      refine wpAnyH_take (i := 6) (v := .pointer (some ⟨ob, 2, none⟩)) rfl (by kernel_rfl) (by kernel_rfl) (by kernel_rfl) (fun _ _ _ h => h) (Or.inl ⟨by rfl, ?_⟩) SW ?_
      · intro W4 hW4
        go_simp <;> first | done | rfl | (rw [IntKind.wrap_i64]; omega) | omega
      go_simp
      refine wpAnyH_take (i := 7) (v := .slice (some ⟨kb, 0, none⟩) n kc) rfl (by kernel_rfl) (by kernel_rfl) (by kernel_rfl) (fun _ _ _ h => h) (Or.inl ⟨by rfl, ?_⟩) SW ?_
      · intro W4 hW4
        have hc := (K8.keeps hW4 hok).cells
        go_simp <;> first | done | rfl | (rw [IntKind.wrap_i64]; omega) | omega
      go_simp
      refine wpAnyH_take (i := 8) (v := .int .i64 j) rfl (by kernel_rfl) (by kernel_rfl) (by kernel_rfl) (fun _ _ _ h => h) (Or.inl ⟨by rfl, ?_⟩) SW ?_
      · intro W4 hW4
        go_simp <;> first | done | rfl | (rw [IntKind.wrap_i64]; omega) | omega
      go_simp
      refine wpAnyH_take (i := 9) (v := .pointer (some ⟨kb, j, none⟩)) rfl (by kernel_rfl) (by kernel_rfl) (by kernel_rfl) (fun _ _ _ h => h) (Or.inl ⟨by rfl, ?_⟩) SW ?_
      · intro W4 hW4
        go_simp <;> first | done | rfl | (rw [IntKind.wrap_i64]; omega) | omega
      go_simp
      refine wpAnyH_take (i := 11) (v := .pointer (some ⟨ob, 2, none⟩)) rfl (by kernel_rfl) (by kernel_rfl) (by kernel_rfl) (fun _ _ _ h => h) (Or.inl ⟨by rfl, ?_⟩) SW ?_
      · intro W4 hW4
        go_simp <;> first | done | rfl | (rw [IntKind.wrap_i64]; omega) | omega
      go_simp
      refine wpAnyH_take (i := 12) (v := .slice (some ⟨kb, 0, none⟩) n kc) rfl (by kernel_rfl) (by kernel_rfl) (by kernel_rfl) (fun _ _ _ h => h) (Or.inl ⟨by rfl, ?_⟩) SW ?_
      · intro W4 hW4
        have hc := (K8.keeps hW4 hok).cells
        go_simp <;> first | done | rfl | (rw [IntKind.wrap_i64]; omega) | omega
      go_simp
      refine wpAnyH_take (i := 13) (v := .int .i64 i) rfl (by kernel_rfl) (by kernel_rfl) (by kernel_rfl) (fun _ _ _ h => h) (Or.inl ⟨by rfl, ?_⟩) SW ?_
      · intro W4 hW4
        go_simp <;> first | done | rfl | (rw [IntKind.wrap_i64]; omega) | omega
      go_simp
      refine wpAnyH_take (i := 14) (v := .pointer (some ⟨kb, i, none⟩)) rfl (by kernel_rfl) (by kernel_rfl) (by kernel_rfl) (fun _ _ _ h => h) (Or.inl ⟨by rfl, ?_⟩) SW ?_
      · intro W4 hW4
        go_simp <;> first | done | rfl | (rw [IntKind.wrap_i64]; omega) | omega
      go_simp
      refine wpAnyH_ready (rs := [10, 15]) (by kernel_rfl) (by simp) ?_
      refine AllReadyH.cons rfl (fun K1 hK1 => ?_) (AllReadyH.cons rfl (fun K1 hK1 => ?_) AllReadyH.nil)
      · go_simp
        refine hK1.out _ _ SW (fun SW => ?_)
        clear hK1 K1
        go_simp
        refine wpAnyH_ready (rs := [15]) (by kernel_rfl) (by simp) ?_
        refine AllReadyH.cons rfl (fun K1 hK1 => ?_) AllReadyH.nil
        go_simp
        refine hK1.out _ _ SW (fun SW => ?_)
        clear hK1 K1
        go_simp
        refine wpAnyH_take (i := 16) (v := .pointer (some ⟨kb, i, none⟩)) rfl (by kernel_rfl) (by kernel_rfl) (by kernel_rfl) (fun _ _ _ h => h) (Or.inl ⟨by rfl, ?_⟩) SW ?_
        · intro W4 hW4
          go_simp <;> first | done | rfl | (rw [IntKind.wrap_i64]; omega) | omega
        go_simp
        refine wpAnyH_ready (rs := [17]) (by kernel_rfl) (by simp) ?_
        refine AllReadyH.cons rfl (fun K1 hK1 => ?_) AllReadyH.nil
        go_simp
        have B9 : Bw (w8.setCell ⟨kb, i, none⟩ (.int .i64 zj)).drew kb n kc (Z.set i zj) := (HBK8.out.set i zj).mono ((Below.refl _ _).drew)
        have KK : Keeps (fun k => k = kb) w8 (w8.setCell ⟨kb, i, none⟩ (.int .i64 zj)).drew := ((Keeps.refl (fun k => k = kb) w8).setCell (p := ⟨kb, i, none⟩) rfl _).drew
        refine hK1.out _ _ KK (fun SW => ?_)
        clear hK1 K1
        generalize (w8.setCell ⟨kb, i, none⟩ (.int .i64 zj)).drew = w9 at *
        have c_j9 : w9.cell? ⟨kb, 0 + j, none⟩ = some (.int .i64 ((Z.set i zj).getD j 0)) := (B9.rd.cell hj).2
        rw [Nat.zero_add] at c_j9
        have f9 : ∀ p, w9.frozen? ⟨kb, p, none⟩ = false := fun p => B9.frozen p
        have HB9 := hide B9
        clear B9
        go_simp
        refine wpAnyH_take (i := 18) (v := .pointer (some ⟨kb, j, none⟩)) rfl (by kernel_rfl) (by kernel_rfl) (by kernel_rfl) (fun _ _ _ h => h) (Or.inl ⟨by rfl, ?_⟩) SW ?_
        · intro W4 hW4
          go_simp <;> first | done | rfl | (rw [IntKind.wrap_i64]; omega) | omega
        go_simp
        refine wpAnyH_ready (rs := [19]) (by kernel_rfl) (by simp) ?_
        refine AllReadyH.cons rfl (fun K1 hK1 => ?_) AllReadyH.nil
        go_simp
        have B10 : Bw (w9.setCell ⟨kb, j, none⟩ (.int .i64 zi)) kb n kc (swp Z i j) := by
          have := HB9.out.set j zi
          unfold swp
          rw [HZI.out, HZJ.out]
          exact this
        have K10 : Keeps (fun k => k = kb) w9 (w9.setCell ⟨kb, j, none⟩ (.int .i64 zi)) := (Keeps.refl (fun k => k = kb) w9).setCell (p := ⟨kb, j, none⟩) rfl _
        refine hK1.out _ _ (SW.trans K10) (fun SW => ?_)
        clear hK1 K1
        go_simp
        refine wpAnyH_done (by kernel_rfl) ?_ _
        have HBz := hide B10
        have HKz := hide SW
        go_wp2
        go_meet
        case rel => exact ⟨trivial, HBz, HKz⟩
      · go_simp
        refine hK1.out _ _ SW (fun SW => ?_)
        clear hK1 K1
        go_simp
        refine wpAnyH_ready (rs := [10]) (by kernel_rfl) (by simp) ?_
        refine AllReadyH.cons rfl (fun K1 hK1 => ?_) AllReadyH.nil
        go_simp
        refine hK1.out _ _ SW (fun SW => ?_)
        clear hK1 K1
        go_simp
        refine wpAnyH_take (i := 16) (v := .pointer (some ⟨kb, i, none⟩)) rfl (by kernel_rfl) (by kernel_rfl) (by kernel_rfl) (fun _ _ _ h => h) (Or.inl ⟨by rfl, ?_⟩) SW ?_
        · intro W4 hW4
          go_simp <;> first | done | rfl | (rw [IntKind.wrap_i64]; omega) | omega
        go_simp
        refine wpAnyH_ready (rs := [17]) (by kernel_rfl) (by simp) ?_
        refine AllReadyH.cons rfl (fun K1 hK1 => ?_) AllReadyH.nil
        go_simp
        have B9 : Bw (w8.setCell ⟨kb, i, none⟩ (.int .i64 zj)).drew kb n kc (Z.set i zj) := (HBK8.out.set i zj).mono ((Below.refl _ _).drew)
        have KK : Keeps (fun k => k = kb) w8 (w8.setCell ⟨kb, i, none⟩ (.int .i64 zj)).drew := ((Keeps.refl (fun k => k = kb) w8).setCell (p := ⟨kb, i, none⟩) rfl _).drew
        refine hK1.out _ _ KK (fun SW => ?_)
        clear hK1 K1
        generalize (w8.setCell ⟨kb, i, none⟩ (.int .i64 zj)).drew = w9 at *
        have c_j9 : w9.cell? ⟨kb, 0 + j, none⟩ = some (.int .i64 ((Z.set i zj).getD j 0)) := (B9.rd.cell hj).2
        rw [Nat.zero_add] at c_j9
        have f9 : ∀ p, w9.frozen? ⟨kb, p, none⟩ = false := fun p => B9.frozen p
        have HB9 := hide B9
        clear B9
        go_simp
        refine wpAnyH_take (i := 18) (v := .pointer (some ⟨kb, j, none⟩)) rfl (by kernel_rfl) (by kernel_rfl) (by kernel_rfl) (fun _ _ _ h => h) (Or.inl ⟨by rfl, ?_⟩) SW ?_
        · intro W4 hW4
          go_simp <;> first | done | rfl | (rw [IntKind.wrap_i64]; omega) | omega
        go_simp
        refine wpAnyH_ready (rs := [19]) (by kernel_rfl) (by simp) ?_
        refine AllReadyH.cons rfl (fun K1 hK1 => ?_) AllReadyH.nil
        go_simp
        have B10 : Bw (w9.setCell ⟨kb, j, none⟩ (.int .i64 zi)) kb n kc (swp Z i j) := by
          have := HB9.out.set j zi
          unfold swp
          rw [HZI.out, HZJ.out]
          exact this
        have K10 : Keeps (fun k => k = kb) w9 (w9.setCell ⟨kb, j, none⟩ (.int .i64 zi)) := (Keeps.refl (fun k => k = kb) w9).setCell (p := ⟨kb, j, none⟩) rfl _
        refine hK1.out _ _ (SW.trans K10) (fun SW => ?_)
        clear hK1 K1
        go_simp
        refine wpAnyH_done (by kernel_rfl) ?_ _
        have HBz := hide B10
        have HKz := hide SW
        go_wp2
        go_meet
        case rel => exact ⟨trivial, HBz, HKz⟩

    case rest =>
    obtain ⟨-, HBS, HKS⟩ := hcut
    have K9 := K8.keeps HKS.out hok
    have HB9 := hide (HB8.out.trans ((HKS.out.mono (Y := fun k => w.heap.size ≤ k) (fun k _ h => by omega)).below HB8.out.size (fun k hk e => by omega)))
    clear K8 HBK8 c_i c_j f8 HKS HB8
    have HOS : IsOrd (swp Z i j) := swp_ord HOZ.out hlen hi hj
    have hls : (swp Z i j).length = n := by rw [swp_length, hlen]
    have hgs : ix (swp Z i j) 0 = g := by
      have hz : (swp Z i j).getD g 0 = 0 := by rw [swp_at hlen hi hj, if_neg HGI.out.2, if_neg HGI.out.1, hgz]
      have := ix_self HOS (p := g) (by omega)
      rwa [hz] at this
    have hcs := can_swap (W := X) HOZ.out hlen HNC.out hi hj hij hgn hgz HGI.out.1 HGI.out.2
    rw [HCZ2.out] at hcs
    have HCN := hide (Can_yes X Y (some ⟨kb, 0, none⟩) n kc g (swp Z i j) wc HBS.out.rd ⟨by omega, by omega, by omega, by omega, by rw [hls, hXY], fun p hp => HOS.mem p hp⟩ hu hv (by rw [HN.out, hls]) HOS hgs hgn)
    have hcm2 : decide (pairs (hms (swp Z i j) n) % 2 = dst X g (hom (swp Z i j) n g) % 2) = !CZ := hcs
    rw [hcm2] at HCN
    clear hcs hcm2 HOS hls hgs
    go_wp2_with (refine wpList_load_gd rfl (.tmp 27) rfl ob rfl K9 ?_)
    refine HCN.out.mono ?_
    rintro e wf ⟨rfl, bf⟩
    have HBF := hide (below_callB HB9.out bf)
    clear bf
    cases CZ
    · go_wp2_with fail
      go_ret
      exact ⟨rfl, HBF.out⟩
    · go_wp2_with fail
      go_ret
      exact ⟨rfl, HBF.out⟩


end Go.Proofs.YticalbpohhpjaaaDoor
