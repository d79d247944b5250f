/-
  'gameroomkeep.DeckBack' returns true for every card, n and in.
-/
import Derived.Test.YtdipbbcggccgcaaBack
namespace Go.Proofs.Ytdipbbcggccgcaa
open Go.RowKit

theorem kk52 : KK 52 false = 8 ∧ KK 52 true = 52 := by decide +kernel

theorem ident_snoc (x : Nat) : ident (x + 1) = ident x ++ [(x : Int)] := by
  unfold ident; rw [List.range_succ]; simp

set_option maxRecDepth 100000 in
set_option maxHeartbeats 4000000 in
theorem back_any (card n : Int) (b : Bool) (w : World) (hc1 : -9223372036854775808 ≤ card) (hc2 : card ≤ 9223372036854775807) (hn1 : -9223372036854775808 ≤ n) (hn2 : n ≤ 9223372036854775807) :
    Calls Try.prog 8 #[.int .i64 card, .int .i64 n, .bool b] w fun e w' => e = .returned (.bool true) ∧ Below w.heap.size w w' := by
  go_enter Try.func8, Try.ntmps8
  go_wp2_with fail
  refine (picked_any card 52 _ hc1 hc2 (by omega) (by omega)).mono ?_
  rintro e w1 ⟨rfl, hw⟩
  subst w1
  have hc := pk_lt card 52 (by omega)
  generalize pk card 52 = c at *
  have HB := hide (Below.refl w.heap.size w)
  go_wp2_with fail
  refine (Show_yes c _ hc).mono ?_
  rintro e w1 ⟨rfl, hB⟩
  replace HB := hide (below_call HB.out hB)
  clear hB
  go_wp2_with fail
  refine (Read_any (txt c) _).mono ?_
  rintro e w2 ⟨rfl, hB⟩
  replace HB := hide (below_call HB.out hB)
  clear hB
  rw [(chk_all c hc).1, rdVal_yes (by omega)]
  have hts := (txt_facts c hc).2.2.1
  generalize txt c = T at *
  go_wp2_with fail
  refine (Order_yes 52 false _ (by omega) (by omega)).mono ?_
  rintro e w3 ⟨rfl, hB⟩
  replace HB := hide (below_call HB.out hB)
  clear hB
  rw [kk52.1]
  go_wp2_with fail
  refine (Order_yes 52 true _ (by omega) (by omega)).mono ?_
  rintro e w4 ⟨rfl, hB⟩
  replace HB := hide (below_call HB.out hB)
  clear hB
  rw [kk52.2]
  have hcc : ((c : Int) != (c : Int)) = false := by simp
  go_wp2_with fail
  refine (picked_any n 20 _ hn1 hn2 (by omega) (by omega)).mono ?_
  rintro e w5 ⟨rfl, hw⟩
  subst w5
  have hq := pk_lt n 20 (by omega)
  generalize pk n 20 = q at *
  obtain ⟨m, hm⟩ : ∃ m, m = 2 * q := ⟨_, rfl⟩
  have hm2 : (2 : Int) * (q : Int) = (m : Int) := by omega
  have hev : m % 2 = 0 := by omega
  have hm38 : m ≤ 38 := by omega
  clear hm
  go_wp2_with fail
  clear hm2
  have HB4 := hide HB.out
  go_loopw [17, 18] (fun v i wr => ∃ (k : Nat) (a' : Option Addr) (c' : Nat), k ≤ m ∧ i = .int .i64 k ∧ v = .slice a' k c' ∧ wr.ownsRow w4.heap.size 3 1 (.slice a' k c') k ((ident k).map (Value.int .i64)) ∧ Below w4.heap.size w4 wr) (fun _ i _ => m - (intOf i).toNat)
  case atStart => exact ⟨0, none, 0, by omega, rfl, rfl, World.ownsRow_nil _ _ _ _, Below.refl _ _⟩
  case round =>
    obtain ⟨k, a', c', hk, rfl, rfl, hO, hG⟩ := hrel
    have HO := hide hO
    have HG := hide hG
    clear hO hG
    by_cases hkl : k < m
    · have hkl' : (k : Int) < (m : Int) := by omega
      go_wp2_with (at_builtin; refine wpList_append_rd _ rfl (.tmp 84) (.tmp 86) rfl w4.heap.size _ k (ident k) rfl (HO.out.alloc _) _ 1 1 [(k : Int)] rfl (Rd_one _ _) (by omega) (by have := HG.out.size; simp; omega) ?_)
      intro v' w' hO' hG'
      obtain ⟨a2, c2, hv'⟩ := slice_form hO'
      rw [hv'] at hO' ⊢
      have hb0 : Below w4.heap.size w4 (wr.alloc (.cells #[.int .i64 (k : Int)] 3)) := HG.out.alloc HG.out.size _
      have HG2 := hide (hb0.grown hG' hb0.size (fun j hj => (HO.out.lt j hj).1))
      have HO2 : Hid (w'.ownsRow w4.heap.size 3 1 (.slice a2 (k + 1) c2) (k + 1) ((ident (k + 1)).map (Value.int .i64))) := hide (by rw [ident_snoc]; simpa using hO')
      clear hO' hG' hb0 hv'
      go_wp2_with fail
      go_roundw
      case rel => exact ⟨k + 1, a2, c2, by omega, by go_num, rfl, HO2.out, HG2.out⟩
      case measure => simp [intOf]; omega
    · have hke : k = m := by omega
      rw [hke] at HO ⊢
      clear hke hkl hk
      have hlt2 : ¬ (m : Int) < (m : Int) := by omega
      have HR1 := hide (Rd.of_own HO.out)
      replace HB := hide (below_call HB.out HG.out)
      clear HO HG
      have hT1 := (tab m b hev (by omega)).one
      have hT2 := (tab m b hev (by omega)).le
      have HBK := hide (R_back m b hev (by omega))
      have HNO := hide (R_not m b hev (by omega))
      go_wp2_with fail
      refine (Order_yes m b _ hev (by omega)).mono ?_
      rintro e w6 ⟨rfl, hB⟩
      replace HB := hide (below_call HB.out hB)
      replace HR1 := hide (HR1.out.mono hB)
      clear hB
      generalize KK m b = K at *
      go_wp2_with fail
      refine (kints_any _ m _ (ident m) _ HR1.out (by omega)).mono ?_
      rintro e w7 ⟨a7, c7, rfl, hR7, hB⟩
      replace HB := hide (below_call HB.out hB)
      replace HR1 := hide (HR1.out.mono hB)
      have HR7 := hide hR7
      clear hB hR7
      go_wp2_with fail
      go_loopw [20, 21] (fun v i wr => ∃ (t : Nat) (a' : Option Addr) (c' : Nat), t ≤ K ∧ i = .int .i64 ((t : Int) + 1) ∧ v = .slice a' m c' ∧ Rd wr a' m c' (R m b t) ∧ Below w7.heap.size w7 wr) (fun _ i _ => K + 1 - (intOf i).toNat)
      case atStart => exact ⟨0, a7, c7, by omega, rfl, rfl, HR7.out, Below.refl _ _⟩
      case round =>
        obtain ⟨t, at', ct, ht, rfl, rfl, hRt, hGt⟩ := hrel
        have HGt := hide hGt
        have HRt := hide hRt
        clear hRt hGt
        by_cases htl : t < K
        · have htl' : (t : Int) + 1 ≤ (K : Int) := by omega
          go_wp2_with fail
          refine (Riffle_yes _ _ _ (R m b t) b _ HRt.out hev (by omega)).mono ?_
          rintro e w8 ⟨a8, c8, rfl, hR8, hB8⟩
          have HR8 : Hid (Rd w8 a8 m c8 (R m b (t + 1))) := hR8
          have HB8 := hide (below_call HGt.out hB8)
          clear hR8 hB8
          go_wp2_with fail
          refine (same_any _ _ _ _ _ _ _ _ _ HR8.out (HR1.out.mono HB8.out)).mono ?_
          rintro e w9 ⟨rfl, q9, rfl⟩
          have HB9 := hide (below_drewN HB8.out q9)
          have HR9 := hide (HR8.out.mono (below_drewN (Below.refl _ _) q9))
          by_cases hlast : t + 1 < K
          · have hdec : decide (R m b (t + 1) = ident m) = false := by rw [decide_eq_false_iff_not]; exact HNO.out (t + 1) (by omega) hlast
            rw [hdec]
            have hik : ((t : Int) + 1 == (K : Int)) = false := by simp; omega
            go_wp2_with fail
            go_roundw
            case rel => exact ⟨t + 1, a8, c8, by omega, by go_num, rfl, HR9.out, HB9.out⟩
            case measure => simp [intOf]; omega
          · have hKe : K = t + 1 := by omega
            have hdec : decide (R m b (t + 1) = ident m) = true := by rw [decide_eq_true_iff, ← hKe]; exact HBK.out
            rw [hdec]
            have hik : ((t : Int) + 1 == (K : Int)) = true := by simp; omega
            clear hKe
            go_wp2_with fail
            go_roundw
            case rel => exact ⟨t + 1, a8, c8, by omega, by go_num, rfl, HR9.out, HB9.out⟩
            case measure => simp [intOf]; omega
        · have htl' : ¬ (t : Int) + 1 ≤ (K : Int) := by omega
          have hK1 : (1 : Int) ≤ (K : Int) := by omega
          go_wp2_with fail
          go_ret
          exact ⟨rfl, below_call HB.out HGt.out⟩

end Go.Proofs.Ytdipbbcggccgcaa
