/-
  The law on new boards, walked. No conditions beyond those that each theorem bears.
-/
import Derived.Test.YtmdnoiebodaikaaRef1
namespace Go.Proofs.Ytmdnoiebodaikaa
open Go.RowKit

theorem Mn.range {w : World} {b : Nat} {a : Option Addr} {n c : Nat} {t : Int} (h : Mn w b a n c t) : w.rangeAt b 0 [.slice a n c, .int .i64 t] := by
  intro j v hv
  match j with
  | 0 => simp at hv; subst hv; exact h.seeds
  | 1 => simp at hv; subst hv; exact h.turn
  | k + 2 => simp at hv

theorem Rd_one (w : World) (x : Int) : Rd (w.alloc (.cells #[.int .i64 x] 3)) (some ⟨w.heap.size, 0, none⟩) 1 1 [x] := by
  refine ⟨rfl, Nat.le_refl _, by unfold maxLen; omega, (fun h => by simp at h), fun _ => ⟨w.heap.size, 0, rfl, fun i hi => ?_⟩⟩
  obtain rfl : i = 0 := by omega
  simp

theorem slice_form {w : World} {base : Nat} {v : Value} {n : Nat} {xs : List Value} (h : w.ownsRow base 3 1 v n xs) : ∃ a c, v = .slice a n c := by
  rcases h.2 with ⟨rfl, rfl⟩ | ⟨g, cap, cur, rfl, _⟩
  · exact ⟨_, _, rfl⟩
  · exact ⟨_, _, rfl⟩


set_option maxHeartbeats 2000000 in
theorem news_no (pits s : Int) (hN : Hid (newB pits s = false)) (a : Option Addr) (n c : Nat) (t : Int) (S : List Int) (w : World) (hR : Rd w a n c S) (hr : n * 8 ≤ 140737488351232) (ht1 : -9223372036854775808 ≤ t) (ht2 : t ≤ 9223372036854775807) :
    Calls Try.prog 3 #[.int .i64 pits, .int .i64 s, .agg (mA a n c t)] w fun e w' => e = .returned (.bool true) ∧ Below w.heap.size w w' := by
  obtain ⟨w0, hw0⟩ : ∃ w0, w.alloc (Obj.cells (mA a n c t) 24) = w0 := ⟨_, rfl⟩
  have M0 : Mn w0 w.heap.size a n c t := by rw [← hw0]; exact Mn.new w a n c t
  have B0 : Below w.heap.size w w0 := by rw [← hw0]; exact (Below.refl _ w).alloc (Nat.le_refl _) _
  obtain ⟨b, hbe⟩ : ∃ b, w.heap.size = b := ⟨_, rfl⟩
  rw [hbe] at M0
  have HM0 := hide M0
  have HB0 := hide B0
  have HR := hide hR
  clear M0 B0 hR
  go_enter Try.func3, Try.ntmps3
  go_wp2_with fail
  refine (New_no pits s hN.out _).mono ?_
  rintro e w1 ⟨rfl, hw1⟩
  have HMb1 := HM0.out.below hw1 HM0.out.lt
  have B1 := HB0.out.trans (hw1.mono HB0.out.size)
  have MX : Mn (w1.alloc (Obj.cells #[.slice none 0 0, .int .i64 0] 24)) w1.heap.size none 0 0 0 := Mn.new w1 none 0 0 0
  have HMb := hide (HMb1.old (Obj.cells #[.slice none 0 0, .int .i64 0] 24))
  have HBW := hide (B1.alloc B1.size (Obj.cells #[.slice none 0 0, .int .i64 0] 24))
  have HMX := hide MX
  clear hw1 HMb1 B1 MX HM0 HB0
  go_upto_region 2 with fail
  obtain ⟨w2, hw2⟩ : ∃ w2, w1.alloc (Obj.cells #[.slice none 0 0, .int .i64 0] 24) = w2 := ⟨_, rfl⟩
  rw [hw2] at HMb HBW HMX ⊢
  clear hw2
  have SW : Mn (World.drew _) b a n c t := HMb.out
  have HB0 := hide (HBW.out.drew)
  refine wp_region_held (S := fun W => Mn W b a n c t) (by kernel_rfl) ?_
  change wpAnyH _ _ _ _ _ _ _ _ (World.drew _)
  refine wpAnyH_take (i := 0) (v := .agg #[.slice a n c, .int .i64 t]) rfl (by kernel_rfl) (by kernel_rfl) (by kernel_rfl) (fun _ _ _ h => h) (yieldsIf_load_mid (by rfl) 24 _ rfl b 0 (by rfl) [.slice a n c, .int .i64 t] _ (fun W hW => hW.range) Try.underlying24 rfl size24) SW ?_
  go_simp
  refine wpAnyH_take (i := 3) (v := .agg #[.slice a n c, .int .i64 t]) rfl (by kernel_rfl) (by kernel_rfl) (by kernel_rfl) (fun _ _ _ h => h) (yieldsIf_load_mid (by rfl) 24 _ rfl b 0 (by rfl) [.slice a n c, .int .i64 t] _ (fun W hW => hW.range) Try.underlying24 rfl size24) SW ?_
  go_simp
  refine wpAnyH_ready (rs := [1]) (by kernel_rfl) (by simp) ?_
  refine AllReadyH.cons rfl (fun K1 hK1 => ?_) AllReadyH.nil
  go_simp
  refine (seeds_any a n c t S _ (HR.out.mono HB0.out) hr).mono ?_
  rintro e w3 ⟨a3, c3, rfl, hR3, hw3⟩
  refine hK1.out _ _ (SW.below hw3 SW.lt) (fun SW1 => ?_)
  clear hK1 K1 SW
  have SW := SW1
  clear SW1
  have HB3 := hide (HB0.out.trans (hw3.mono HB0.out.size))
  have HF3 := hide ((Below.refl w2.heap.size w2).drew.trans hw3)
  clear hw3
  go_simp
  refine wpAnyH_ready (rs := [2]) (by kernel_rfl) (by simp) ?_
  refine AllReadyH.cons rfl (fun K1 hK1 => ?_) AllReadyH.nil
  go_simp
  refine (May_any a3 n c3 t S _ hR3 ht1 ht2).mono ?_
  rintro e w4 ⟨rfl, hw4⟩
  refine hK1.out _ _ (SW.below hw4 SW.lt) (fun SW1 => ?_)
  clear hK1 K1 SW
  have SW := SW1
  clear SW1
  have HB4 := hide (HB3.out.trans (hw4.mono HB3.out.size))
  have HF4 := hide (HF3.out.trans (hw4.mono HF3.out.size))
  clear hw4 hR3
  go_simp
  refine wpAnyH_ready (rs := [4]) (by kernel_rfl) (by simp) ?_
  refine AllReadyH.cons rfl (fun K1 hK1 => ?_) AllReadyH.nil
  go_simp
  refine (MMay_any a n c t S _ (HR.out.mono HB4.out)).mono ?_
  rintro e w5 ⟨rfl, hw5⟩
  refine hK1.out _ _ (SW.below hw5 SW.lt) (fun SW1 => ?_)
  clear hK1 K1 SW
  have SW := SW1
  clear SW1
  have HB5 := hide (HB4.out.trans (hw5.mono HB4.out.size))
  have HF5 := hide (HF4.out.trans (hw5.mono HF4.out.size))
  clear hw5
  generalize mayB S t = mb at *
  go_simp
  refine wpAnyH_take (i := 5) (v := .bool false) rfl (by kernel_rfl) (by kernel_rfl) (by kernel_rfl) (fun _ _ _ h => h) (Or.inl ⟨by rfl, ?_⟩) SW ?_
  · intro W _
    go_simp <;> first | done | rfl
  go_simp
  refine wpAnyH_done (by kernel_rfl) ?_ _
  have MX5 := HMX.out.below HF5.out HMX.out.lt
  have x0 := MX5.seeds
  have x1 := MX5.turn
  clear HF5 HF4 HF3
  by_cases h1 : pits < 1
  · go_wp2
    go_ret
    exact ⟨rfl, by first | exact HB5.out | (rw [← hbe]; exact HB5.out)⟩
  · have h1d : decide (pits < 1) = false := by simpa using h1
    by_cases h2 : 6 < pits
    · go_wp2
      go_ret
      exact ⟨rfl, by first | exact HB5.out | (rw [← hbe]; exact HB5.out)⟩
    · have h2d : decide (6 < pits) = false := by simpa using h2
      by_cases h3 : s < 0
      · go_wp2
        go_ret
        exact ⟨rfl, by first | exact HB5.out | (rw [← hbe]; exact HB5.out)⟩
      · have h3d : decide (s < 0) = false := by simpa using h3
        have h4 : 10 < s := by
          have : ¬ (1 ≤ pits ∧ pits ≤ 6 ∧ 0 ≤ s ∧ s ≤ 10) := by simpa [newB] using hN.out
          omega
        go_wp2
        go_ret
        exact ⟨rfl, by first | exact HB5.out | (rw [← hbe]; exact HB5.out)⟩

set_option maxHeartbeats 2000000 in
theorem news_yes (p : Nat) (s : Int) (hp1 : 1 ≤ p) (hp : p ≤ 6) (hs0 : 0 ≤ s) (hs1 : s ≤ 10) (a : Option Addr) (n c : Nat) (t : Int) (S : List Int) (w : World) (hR : Rd w a n c S) (hr : n * 8 ≤ 140737488351232) (ht1 : -9223372036854775808 ≤ t) (ht2 : t ≤ 9223372036854775807) :
    Calls Try.prog 3 #[.int .i64 (p : Nat), .int .i64 s, .agg (mA a n c t)] w fun e w' => e = .returned (.bool true) ∧ Below w.heap.size w w' := by
  have hp1' : ¬ (p : Int) < 1 := by omega
  have hp' : ¬ (6 : Int) < (p : Int) := by omega
  have hs0' : ¬ s < 0 := by omega
  have hs1' : ¬ 10 < s := by omega
  obtain ⟨w0, hw0⟩ : ∃ w0, w.alloc (Obj.cells (mA a n c t) 24) = w0 := ⟨_, rfl⟩
  have M0 : Mn w0 w.heap.size a n c t := by rw [← hw0]; exact Mn.new w a n c t
  have B0 : Below w.heap.size w w0 := by rw [← hw0]; exact (Below.refl _ w).alloc (Nat.le_refl _) _
  obtain ⟨b, hbe⟩ : ∃ b, w.heap.size = b := ⟨_, rfl⟩
  rw [hbe] at M0
  have HM0 := hide M0
  have HB0 := hide B0
  have HR := hide hR
  clear M0 B0 hR
  obtain ⟨m, hm⟩ : ∃ m, 2 * (p + 1) = m := ⟨_, rfl⟩
  have hm2 : 2 * (p : Int) + 2 = (m : Int) := by omega
  have hm14 : m ≤ 14 := by omega
  have HM := hide hm
  have HM2 := hide hm2
  clear hm hm2
  go_enter Try.func3, Try.ntmps3
  go_wp2_with fail
  refine (New_yes p s hp1 hp hs0 hs1 _).mono ?_
  rintro e w1 ⟨g, rfl, hbg, hg, hw1⟩
  rw [HM.out] at hbg ⊢
  have HMb1 := HM0.out.below hw1 HM0.out.lt
  have B1 := HB0.out.trans (hw1.mono HB0.out.size)
  have MX : Mn (w1.alloc (Obj.cells #[.slice (some ⟨g, 0, none⟩) m m, .int .i64 0] 24)) w1.heap.size (some ⟨g, 0, none⟩) m m 0 := Mn.new w1 _ _ _ _
  have HMb := hide (HMb1.old (Obj.cells #[.slice (some ⟨g, 0, none⟩) m m, .int .i64 0] 24))
  have HBW := hide (B1.alloc B1.size (Obj.cells #[.slice (some ⟨g, 0, none⟩) m m, .int .i64 0] 24))
  have HMX := hide MX
  have HBG := hide (hbg.old (Obj.cells #[.slice (some ⟨g, 0, none⟩) m m, .int .i64 0] 24))
  clear hw1 HMb1 B1 MX HM0 HB0 hbg
  go_upto_region 2 with fail
  obtain ⟨w2, hw2⟩ : ∃ w2, w1.alloc (Obj.cells #[.slice (some ⟨g, 0, none⟩) m m, .int .i64 0] 24) = w2 := ⟨_, rfl⟩
  rw [hw2] at HMb HBW HMX HBG ⊢
  clear hw2
  have SW : Mn (World.drew _) b a n c t := HMb.out
  have HB0 := hide (HBW.out.drew)
  refine wp_region_held (S := fun W => Mn W b a n c t) (by kernel_rfl) ?_
  change wpAnyH _ _ _ _ _ _ _ _ (World.drew _)
  refine wpAnyH_take (i := 0) (v := .agg #[.slice a n c, .int .i64 t]) rfl (by kernel_rfl) (by kernel_rfl) (by kernel_rfl) (fun _ _ _ h => h) (yieldsIf_load_mid (by rfl) 24 _ rfl b 0 (by rfl) [.slice a n c, .int .i64 t] _ (fun W hW => hW.range) Try.underlying24 rfl size24) SW ?_
  go_simp
  refine wpAnyH_take (i := 3) (v := .agg #[.slice a n c, .int .i64 t]) rfl (by kernel_rfl) (by kernel_rfl) (by kernel_rfl) (fun _ _ _ h => h) (yieldsIf_load_mid (by rfl) 24 _ rfl b 0 (by rfl) [.slice a n c, .int .i64 t] _ (fun W hW => hW.range) Try.underlying24 rfl size24) SW ?_
  go_simp
  refine wpAnyH_ready (rs := [1]) (by kernel_rfl) (by simp) ?_
  refine AllReadyH.cons rfl (fun K1 hK1 => ?_) AllReadyH.nil
  go_simp
  refine (seeds_any a n c t S _ (HR.out.mono HB0.out) hr).mono ?_
  rintro e w3 ⟨a3, c3, rfl, hR3, hw3⟩
  refine hK1.out _ _ (SW.below hw3 SW.lt) (fun SW1 => ?_)
  clear hK1 K1 SW
  have SW := SW1
  clear SW1
  have HB3 := hide (HB0.out.trans (hw3.mono HB0.out.size))
  have HF3 := hide ((Below.refl w2.heap.size w2).drew.trans hw3)
  clear hw3
  go_simp
  refine wpAnyH_ready (rs := [2]) (by kernel_rfl) (by simp) ?_
  refine AllReadyH.cons rfl (fun K1 hK1 => ?_) AllReadyH.nil
  go_simp
  refine (May_any a3 n c3 t S _ hR3 ht1 ht2).mono ?_
  rintro e w4 ⟨rfl, hw4⟩
  refine hK1.out _ _ (SW.below hw4 SW.lt) (fun SW1 => ?_)
  clear hK1 K1 SW
  have SW := SW1
  clear SW1
  have HB4 := hide (HB3.out.trans (hw4.mono HB3.out.size))
  have HF4 := hide (HF3.out.trans (hw4.mono HF3.out.size))
  clear hw4 hR3
  go_simp
  refine wpAnyH_ready (rs := [4]) (by kernel_rfl) (by simp) ?_
  refine AllReadyH.cons rfl (fun K1 hK1 => ?_) AllReadyH.nil
  go_simp
  refine (MMay_any a n c t S _ (HR.out.mono HB4.out)).mono ?_
  rintro e w5 ⟨rfl, hw5⟩
  refine hK1.out _ _ (SW.below hw5 SW.lt) (fun SW1 => ?_)
  clear hK1 K1 SW
  have SW := SW1
  clear SW1
  have HB5 := hide (HB4.out.trans (hw5.mono HB4.out.size))
  have HF5 := hide (HF4.out.trans (hw5.mono HF4.out.size))
  clear hw5
  generalize mayB S t = mb at *
  go_simp
  refine wpAnyH_take (i := 5) (v := .bool false) rfl (by kernel_rfl) (by kernel_rfl) (by kernel_rfl) (fun _ _ _ h => h) (Or.inl ⟨by rfl, ?_⟩) SW ?_
  · intro W _
    go_simp <;> first | done | rfl
  go_simp
  refine wpAnyH_done (by kernel_rfl) ?_ _
  have HX5 := hide (HMX.out.below HF5.out HMX.out.lt)
  have HG5 := hide (HBG.out.below HF5.out HBG.out.lt)
  clear HF5 HF4 HF3 HMX HBG
  go_wp2_with fail
  go_loopw [9, 10] (fun l v wr => ∃ (k : Nat) (a' : Option Addr) (c' : Nat), v = .int .i64 k ∧ k ≤ m ∧ l = .slice a' k c' ∧ Hid (wr.ownsRow w5.heap.size 3 1 (.slice a' k c') k ((newL p s k).map (Value.int .i64))) ∧ Hid (Below w5.heap.size w5 wr)) (fun _ v _ => m - (intOf v).toNat)
  case atStart => exact ⟨0, none, 0, rfl, by omega, rfl, World.ownsRow_nil _ _ _ _, Below.refl _ _⟩
  case round =>
    obtain ⟨k, a1, c1, rfl, hk, rfl, hO, hBr⟩ := hrel
    by_cases hlt : k < m
    · have hlt' : (k : Int) < 2 * (p : Int) + 2 := by rw [HM2.out]; omega
      have hmod : (k : Int) % ((p : Int) + 1) = ((k % (p + 1) : Nat) : Int) := by simp
      have hnz : ¬ ((p : Int) + 1 = 0) := by omega
      have hrl := Nat.mod_lt k (show 0 < p + 1 by omega)
      have HNS := hide (newL_succ p s k)
      obtain ⟨r, hre⟩ : ∃ r, k % (p + 1) = r := ⟨_, rfl⟩
      rw [hre] at HNS hmod hrl
      clear hre
      by_cases hrp : r = p
      · have hrb : ((r : Int) == (p : Int)) = true := by simp [hrp]
        have hrb2 : (r == p) = true := by simp [hrp]
        rw [if_pos hrp] at HNS
        clear hrp
        go_wp2_with (at_builtin; refine wpList_append_rd _ rfl (.tmp 63) (.tmp 64) rfl w5.heap.size _ k (newL p s k) rfl (hO.out.alloc _) _ 1 1 [(0 : Int)] rfl (Rd_one _ _) (by omega) (by have := hBr.out.size; simp; omega) ?_)
        intro v' w' hO' hG'
        have HO' : Hid (w'.ownsRow w5.heap.size 3 1 v' (k + 1) ((newL p s (k + 1)).map (Value.int .i64))) := hide (by rw [HNS.out, List.map_append]; exact hO')
        obtain ⟨a', c', hv'⟩ := slice_form HO'.out
        rw [hv'] at HO' ⊢
        have hb0 : Below w5.heap.size w5 (wr.alloc (.cells #[.int .i64 (0 : Int)] 3)) := hBr.out.alloc hBr.out.size _
        have HB' := hide (hb0.grown hG' hb0.size (fun j hj => (hO.out.lt j hj).1))
        clear hO' hG' hb0 hv'
        go_wp2_with fail
        exact ⟨⟨k + 1, a', c', by go_num, by omega, rfl, HO', HB'⟩, by simp [intOf]; omega⟩
      · have hrb : ((r : Int) == (p : Int)) = false := by simp; omega
        have hrb2 : (r == p) = false := by simpa using hrp
        rw [if_neg hrp] at HNS
        clear hrp
        go_wp2_with (at_builtin; refine wpList_append_rd _ rfl (.tmp 66) (.tmp 68) rfl w5.heap.size _ k (newL p s k) rfl (hO.out.alloc _) _ 1 1 [(s : Int)] rfl (Rd_one _ _) (by omega) (by have := hBr.out.size; simp; omega) ?_)
        intro v' w' hO' hG'
        have HO' : Hid (w'.ownsRow w5.heap.size 3 1 v' (k + 1) ((newL p s (k + 1)).map (Value.int .i64))) := hide (by rw [HNS.out, List.map_append]; exact hO')
        obtain ⟨a', c', hv'⟩ := slice_form HO'.out
        rw [hv'] at HO' ⊢
        have hb0 : Below w5.heap.size w5 (wr.alloc (.cells #[.int .i64 (s : Int)] 3)) := hBr.out.alloc hBr.out.size _
        have HB' := hide (hb0.grown hG' hb0.size (fun j hj => (hO.out.lt j hj).1))
        clear hO' hG' hb0 hv'
        go_wp2_with fail
        exact ⟨⟨k + 1, a', c', by go_num, by omega, rfl, HO', HB'⟩, by simp [intOf]; omega⟩
    · obtain rfl : k = m := by omega
      have hlt' : ¬ (k : Int) < 2 * (p : Int) + 2 := by rw [HM2.out]; omega
      have X6 := HX5.out.below hBr.out HX5.out.lt
      have x0 := X6.seeds
      have x1 := X6.turn
      have hRx := (HG5.out.below hBr.out HG5.out.lt).rd (n := k) (newL_length _ _ _) (by unfold maxLen; omega)
      have hRy := Rd.of_own hO.out
      have HSI := hide ((sameInts_any _ _ _ _ _ _ _ _ _ hRx hRy).mono (fun e w' h => (⟨h.1.trans (ret_bool (by simp)), h.2⟩ : e = .returned (.bool true) ∧ ∃ q, w' = wr.drewN q)))
      have HB6 := hide (HB5.out.trans (hBr.out.mono HB5.out.size))
      clear X6 hRx hRy
      go_wp2_with fail
      refine HSI.out.mono ?_
      rintro e w6 ⟨rfl, q, hq⟩
      subst w6
      have HB7 := hide (HB6.out.trans (drewN_below _ wr q))
      go_wp2
      go_ret
      exact ⟨rfl, by first | exact HB7.out | (rw [← hbe]; exact HB7.out)⟩

theorem news_any (pits s : Int) (a : Option Addr) (n c : Nat) (t : Int) (S : List Int) (w : World) (hR : Rd w a n c S) (hr : n * 8 ≤ 140737488351232) (ht1 : -9223372036854775808 ≤ t) (ht2 : t ≤ 9223372036854775807) :
    Calls Try.prog 3 #[.int .i64 pits, .int .i64 s, .agg (mA a n c t)] w fun e w' => e = .returned (.bool true) ∧ Below w.heap.size w w' := by
  cases h : newB pits s with
  | false => exact news_no pits s h a n c t S w hR hr ht1 ht2
  | true =>
    have hh : 1 ≤ pits ∧ pits ≤ 6 ∧ 0 ≤ s ∧ s ≤ 10 := by simpa [newB] using h
    obtain ⟨p, rfl⟩ := Int.eq_ofNat_of_zero_le (show 0 ≤ pits by omega)
    exact news_yes p s (by omega) (by omega) hh.2.2.1 hh.2.2.2 a n c t S w hR hr ht1 ht2

end Go.Proofs.Ytmdnoiebodaikaa
