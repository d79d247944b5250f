/-
  The law of liberties: behind whatever is played each group has liberties; stones are put, less those taken; areas are all places. No conditions beyond those that each theorem bears.
-/
import Derived.Test.YtafiaimlmdflnaaFe
import Derived.Test.YtafiaimlmdflnaaGx
namespace Go.Proofs.Ytafiaimlmdflnaa
open Go.RowKit Go.Shelf

theorem wp_store_gd {o : Oper} {a : Act} {w : World} {K : Act → World → Prop} {Q : Exit → Act → World → Prop} (x y : Operand) (ho : o.op = .store 24 x y)
    (b : Nat) {W H : Int} {ad : Option Addr} {n c : Nat} {W' H' : Int} {ad' : Option Addr} {n' c' : Nat} (hx : a.eval x = .pointer (some ⟨b, 0, none⟩)) (hy : a.eval y = .agg (gdA W H ad n c)) (hb : Gd w b W' H' ad' n' c')
    (h : ∀ w', Gd w' b W H ad n c → Keeps (fun k => k = b) w w' → K (a.put o.dst undef) w') : o.wp Try.prog a w K Q := by
  have hb' : w.heap[b]? = _ := hb
  refine wp_store_row 24 x y ho b (gdA W H ad n c) hx hy 24 _ hb' size24 rfl (by simp [Value.oneCell']) ?_
  refine h _ ?_ ?_
  · simp [Gd, World.setRow, Array.getElem?_modify, hb']
  · exact ⟨rfl, rfl, rfl, by simp [World.setRow], fun k _ hk => by simp [World.setRow, Array.getElem?_modify, show ¬ b = k from fun e => hk e.symm]⟩

theorem grL_nil (N : Nat) : grL [] 0 N = List.replicate N 0 := by
  refine List.eq_replicate_iff.2 ⟨by simp [grL], fun b hb => ?_⟩
  unfold grL at hb
  obtain ⟨i, _, rfl⟩ := List.mem_map.1 hb
  simp

theorem zeros_may {A B : Nat} (hA : 1 ≤ A ∧ A ≤ 10) (hB : 1 ≤ B ∧ B ≤ 10) : mayP A B (List.replicate (A * B) 0) := by
  refine ⟨by omega, by omega, by omega, by omega, by simp, fun z hz => ?_⟩
  rw [List.eq_of_mem_replicate hz]
  omega
theorem zeros_at (N q : Nat) : (List.replicate N (0 : Int)).getD q 0 = 0 := by
  simp only [List.getD, List.getElem?_replicate]
  split <;> rfl
theorem zeros_free (W H : Nat) : frB W H (List.replicate (W * H) 0) := fun q _ h => absurd (zeros_at _ q) h
theorem zeros_full (N : Nat) : full (List.replicate N 0) N = 0 := by
  unfold full
  rw [List.filter_eq_nil_iff.2 (fun q _ => by rw [zeros_at]; simp)]
  rfl

attribute [local irreducible] D4 spr rgs rgsU lib goneU gone clr grp pz pt pE art full grL pk

set_option maxRecDepth 100000 in
set_option maxHeartbeats 32000000 in
theorem free_law (x y : Int) (hx : -9223372036854775808 ≤ x ∧ x ≤ 9223372036854775807) (hy : -9223372036854775808 ≤ y ∧ y ≤ 9223372036854775807) (la : Option Addr) (ln lc : Nat) (L : List Int) (hLr : ∀ u ∈ L, -9223372036854775808 ≤ u ∧ u ≤ 9223372036854775807) (w : World) (hL : Rd w la ln lc L) :
    Calls Try.prog 6 #[.int .i64 x, .int .i64 y, .slice la ln lc] w fun e w' => e = .returned (.bool true) ∧ Below w.heap.size w w' := by
  have hpx := pk_lt x 5 (by omega)
  have hpy := pk_lt y 5 (by omega)
  have HP1 := hide (fun W4 => picked_any x 5 W4 hx.1 hx.2 (by omega) (by omega))
  have HP2 := hide (fun W4 => picked_any y 5 W4 hy.1 hy.2 (by omega) (by omega))
  obtain ⟨px, hpxe⟩ : ∃ px, pk x 5 = px := ⟨_, rfl⟩
  obtain ⟨py, hpye⟩ : ∃ py, pk y 5 = py := ⟨_, rfl⟩
  rw [hpxe] at hpx HP1
  rw [hpye] at hpy HP2
  clear hpxe hpye
  obtain ⟨A, hA⟩ : ∃ A : Nat, 1 + px = A := ⟨_, rfl⟩
  obtain ⟨B, hB⟩ : ∃ B : Nat, 1 + py = B := ⟨_, rfl⟩
  have hAi : (1 : Int) + (px : Int) = (A : Int) := by omega
  have hBi : (1 : Int) + (py : Int) = (B : Int) := by omega
  have hA1 : 1 ≤ A ∧ A ≤ 10 := by omega
  have hB1 : 1 ≤ B ∧ B ≤ 10 := by omega
  have HGR0 := hide (fun W4 => grid_any A B 0 hA1 hB1 (by omega) none 0 0 [] (fun u hu => by cases hu) W4 (Rd.of_nil _))
  obtain ⟨N, hN⟩ : ∃ N, A * B = N := ⟨_, rfl⟩
  have hN1 : 0 < N := by rw [← hN]; exact Nat.mul_pos (by omega) (by omega)
  have hN100 : N ≤ 100 := by rw [← hN]; exact Nat.mul_le_mul hA1.2 hB1.2
  have HZM := hide (zeros_may hA1 hB1)
  have HZF := hide (zeros_free A B)
  rw [hN, grL_nil] at HGR0
  rw [hN] at HZM HZF
  have HNN := hide hN
  have hlc := hL.cap
  have hlm : lc ≤ 9223372036854775807 := by have := hL.max; unfold maxLen at this; omega
  have HLR := hide hL
  have HLB := hide hLr
  have HLL := hide hL.len
  clear hA hB hN hL hLr hx hy
  go_enter Try.func6, Try.ntmps6
  go_wp2_with fail
  refine (HP1.out _).mono ?_
  rintro e w0 ⟨rfl, hw0⟩
  subst w0
  go_wp2_with fail
  refine (HP2.out _).mono ?_
  rintro e w0 ⟨rfl, hw0⟩
  subst w0
  go_wp2_with fail
  refine (HGR0.out _).mono ?_
  rintro e w2 ⟨a2, c2, rfl, hO2, hb2⟩
  obtain ⟨g2, cc, hv, _⟩ := own_some hO2 hN1
  simp only [Value.slice.injEq] at hv
  obtain ⟨rfl, -, rfl⟩ := hv
  have HBW2 : Hid (Bw w2 g2 N c2 (List.replicate N 0)) := hide (own_base hO2 (Nat.zero_le _))
  have HG2 : Hid (w.heap.size ≤ g2) := hide (hO2.lt g2 rfl).1
  have HB2 := hide hb2
  clear hO2 hb2 HP1 HP2 HGR0
  obtain ⟨w3, hw3⟩ : ∃ w3, w2.alloc (.cells (gdA A B (some ⟨g2, 0, none⟩) N c2) 24) = w3 := ⟨_, rfl⟩
  have B3 : Below w2.heap.size w2 w3 := by rw [← hw3]; exact (Below.refl _ _).alloc (Nat.le_refl _) _
  have HD3 : Hid (Gd w3 w2.heap.size A B (some ⟨g2, 0, none⟩) N c2) := hide (by rw [← hw3]; exact Gd.new w2 A B _ N c2)
  have HBW3 := hide (HBW2.out.mono B3)
  have HB3 : Hid (Below w.heap.size w w3) := hide (HB2.out.trans (B3.mono HB2.out.size))
  obtain ⟨gk, hgk⟩ : ∃ gk, w2.heap.size = gk := ⟨_, rfl⟩
  have HGK : Hid (w.heap.size ≤ gk ∧ g2 < gk ∧ gk < w3.heap.size) := hide (by have h1 := HBW2.out.lt; have h2 := HB2.out.size; have h3 := HD3.out.lt; omega)
  have HW3 := hide hw3
  have HGKE := hide hgk
  clear hw3 B3 hgk
  go_upto_region 2 with fail
  rw [HW3.out]
  rw [HGKE.out] at HD3 ⊢
  obtain ⟨-, -, q2⟩ := HD3.out.cells
  clear HW3 HGKE HBW2 HB2
  go_wp2_with fail
  clear q2
  go_loopw [9, 10] (fun u v wr => ∃ (i cb bc : Nat) (Z : List Int), u = .int .i64 (full Z N : Nat) ∧ v = .int .i64 i ∧ i ≤ ln ∧ i ≤ 60 ∧ Hid (Gd wr gk A B (some ⟨cb, 0, none⟩) N bc) ∧ Hid (Bw wr cb N bc Z) ∧ Hid (cb ≠ gk) ∧ Hid (mayP A B Z) ∧ Hid (frB A B Z) ∧ Hid (Below w.heap.size w wr)) (fun _ v _ => 60 - (intOf v).toNat)
  case atStart => exact ⟨0, g2, c2, List.replicate N 0, by rw [zeros_full]; rfl, rfl, by omega, by omega, HD3, HBW3, hide (by have := HGK.out; omega), HZM, HZF, HB3⟩
  case round =>
    obtain ⟨i, cb, bc, Z, rfl, rfl, hil, hi60, hGd, hBw, hcg, hmay, hfr, hBl⟩ := hrel
    clear HD3 HBW3 HB3 HZM HZF HG2
    have hZl : Z.length = N := hBw.out.rd.len
    have hfull : full Z N ≤ 100 := Nat.le_trans (full_le Z N) hN100
    by_cases hi : i < ln
    rotate_left
    · have hi' : ¬ (i : Int) < (ln : Int) := by omega
      go_wp2_with fail
      obtain ⟨wo, rfl⟩ : ∃ wo, wo = wr := ⟨_, rfl⟩
      go_loopw [14, 15] (fun u v wq => ∃ j : Nat, u = .int .i64 (full Z j : Nat) ∧ v = .int .i64 j ∧ j ≤ N ∧ Hid (wq = wo)) (fun _ v _ => N - (intOf v).toNat)
      case atStart => exact ⟨0, by rw [show full Z 0 = 0 by rw [full]; rfl]; rfl, rfl, by omega, hide rfl⟩
      case round =>
        obtain ⟨j, rfl, rfl, hjN, hwq⟩ := hrel
        have hwq' := hwq.out
        subst hwq'
        obtain ⟨-, -, q2⟩ := hGd.out.cells
        have hfj : full Z j ≤ 100 := Nat.le_trans (full_le Z j) (by omega)
        by_cases hjl : j < N
        · have hjl' : (j : Int) < (N : Int) := by omega
          have cz := (hBw.out.rd.cell hjl).2
          rw [Nat.zero_add] at cz
          have hzb := getD_bound hmay.out.2.2.2.2.2 j
          have HFS := hide (full_succ Z j)
          have hcb := hBw.out.rd.cap
          have hcm : bc ≤ 9223372036854775807 := by have := hBw.out.rd.max; unfold maxLen at this; omega
          obtain ⟨z, hz⟩ : ∃ z, Z.getD j 0 = z := ⟨_, rfl⟩
          rw [hz] at cz HFS hzb
          clear hz
          by_cases h0 : z = 0
          · subst h0
            rw [if_pos rfl] at HFS
            go_wp2_with fail
            exact ⟨⟨j + 1, by rw [HFS.out]; rfl, rfl, by omega, hide (by first | trivial | rfl)⟩, by simp only [intOf]; omega⟩
          · rw [if_neg h0] at HFS
            have hgt : 0 < z := by omega
            go_wp2_with fail
            exact ⟨⟨j + 1, by rw [HFS.out]; rfl, rfl, by omega, hide (by first | trivial | rfl)⟩, by simp only [intOf]; omega⟩
        · obtain rfl : j = N := by omega
          have HC := hide (Areas_yes A B cb 0 j bc Z wr hBw.out.rd hmay.out)
          have hg := hGd.out
          have HSM : Hid (∀ x0 x1 x2 : Nat, art A B j Z (rgs j (nb4 A B) fun q => Z.getD q 0 = 0) = [x0, x1, x2] → x0 + x1 + x2 = j) := hide (fun x0 x1 x2 e => by
            have h1 := art_sum A B j Z (rgs j (nb4 A B) fun q => Z.getD q 0 = 0) (getD_bound hmay.out.2.2.2.2.2)
            have h2 := empties_len (W := A) (H := B) (N := j) (Z := Z) HNN.out
            rw [e] at h1
            simp only [List.sum_cons, List.sum_nil] at h1
            omega)
          clear q2
          go_wp2_with (first | (refine wpList_load_gd rfl (.tmp 7) rfl gk rfl hg ?_) | fail)
          refine HC.out.mono ?_
          rintro e w8 ⟨⟨x0, x1, x2, hA, rfl⟩, hb8⟩
          have hs := HSM.out x0 x1 x2 hA
          have HB8 : Hid (Below w.heap.size w w8) := hide (hBl.out.trans (hb8.mono hBl.out.size))
          have hsi : (x1 : Int) + (x2 : Int) + (x0 : Int) = (j : Int) := by omega
          have hs12 : x1 + x2 ≤ 100 := by omega
          have hs3 : x0 + x1 + x2 ≤ 100 := by omega
          clear hb8 HC hA hg hs
          go_wp2_with fail
          go_ret
          exact ⟨rfl, HB8.out⟩
    by_cases hj : i < 60
    rotate_left
    · have hi' : (i : Int) < (ln : Int) := by omega
      have hj' : ¬ (i : Int) < 60 := by omega
      go_wp2_with fail
      obtain ⟨wo, rfl⟩ : ∃ wo, wo = wr := ⟨_, rfl⟩
      go_loopw [14, 15] (fun u v wq => ∃ j : Nat, u = .int .i64 (full Z j : Nat) ∧ v = .int .i64 j ∧ j ≤ N ∧ Hid (wq = wo)) (fun _ v _ => N - (intOf v).toNat)
      case atStart => exact ⟨0, by rw [show full Z 0 = 0 by rw [full]; rfl]; rfl, rfl, by omega, hide rfl⟩
      case round =>
        obtain ⟨j, rfl, rfl, hjN, hwq⟩ := hrel
        have hwq' := hwq.out
        subst hwq'
        obtain ⟨-, -, q2⟩ := hGd.out.cells
        have hfj : full Z j ≤ 100 := Nat.le_trans (full_le Z j) (by omega)
        by_cases hjl : j < N
        · have hjl' : (j : Int) < (N : Int) := by omega
          have cz := (hBw.out.rd.cell hjl).2
          rw [Nat.zero_add] at cz
          have hzb := getD_bound hmay.out.2.2.2.2.2 j
          have HFS := hide (full_succ Z j)
          have hcb := hBw.out.rd.cap
          have hcm : bc ≤ 9223372036854775807 := by have := hBw.out.rd.max; unfold maxLen at this; omega
          obtain ⟨z, hz⟩ : ∃ z, Z.getD j 0 = z := ⟨_, rfl⟩
          rw [hz] at cz HFS hzb
          clear hz
          by_cases h0 : z = 0
          · subst h0
            rw [if_pos rfl] at HFS
            go_wp2_with fail
            exact ⟨⟨j + 1, by rw [HFS.out]; rfl, rfl, by omega, hide (by first | trivial | rfl)⟩, by simp only [intOf]; omega⟩
          · rw [if_neg h0] at HFS
            have hgt : 0 < z := by omega
            go_wp2_with fail
            exact ⟨⟨j + 1, by rw [HFS.out]; rfl, rfl, by omega, hide (by first | trivial | rfl)⟩, by simp only [intOf]; omega⟩
        · obtain rfl : j = N := by omega
          have HC := hide (Areas_yes A B cb 0 j bc Z wr hBw.out.rd hmay.out)
          have hg := hGd.out
          have HSM : Hid (∀ x0 x1 x2 : Nat, art A B j Z (rgs j (nb4 A B) fun q => Z.getD q 0 = 0) = [x0, x1, x2] → x0 + x1 + x2 = j) := hide (fun x0 x1 x2 e => by
            have h1 := art_sum A B j Z (rgs j (nb4 A B) fun q => Z.getD q 0 = 0) (getD_bound hmay.out.2.2.2.2.2)
            have h2 := empties_len (W := A) (H := B) (N := j) (Z := Z) HNN.out
            rw [e] at h1
            simp only [List.sum_cons, List.sum_nil] at h1
            omega)
          clear q2
          go_wp2_with (first | (refine wpList_load_gd rfl (.tmp 7) rfl gk rfl hg ?_) | fail)
          refine HC.out.mono ?_
          rintro e w8 ⟨⟨x0, x1, x2, hA, rfl⟩, hb8⟩
          have hs := HSM.out x0 x1 x2 hA
          have HB8 : Hid (Below w.heap.size w w8) := hide (hBl.out.trans (hb8.mono hBl.out.size))
          have hsi : (x1 : Int) + (x2 : Int) + (x0 : Int) = (j : Int) := by omega
          have hs12 : x1 + x2 ≤ 100 := by omega
          have hs3 : x0 + x1 + x2 ≤ 100 := by omega
          clear hb8 HC hA hg hs
          go_wp2_with fail
          go_ret
          exact ⟨rfl, HB8.out⟩
    have hi' : (i : Int) < (ln : Int) := by omega
    have hj' : (i : Int) < 60 := by omega
    obtain ⟨lb, lo, rfl, hlcell⟩ := HLR.out.cells (by omega)
    have HLC : Hid (∀ W4, Below wr.heap.size wr W4 → W4.cell? ⟨lb, lo + i, none⟩ = some (.int .i64 (L.getD i 0))) := hide (fun W4 hb => (((HLR.out.mono hBl.out).mono hb).cell hi).2)
    have HGR : Hid (∀ W4, Below wr.heap.size wr W4 → W4.rangeAt gk 0 [.int .i64 A, .int .i64 B, .slice (some ⟨cb, 0, none⟩) N bc]) := hide (fun W4 hb => (hGd.out.below hb hGd.out.lt).range)
    have hlb := HLB.out (L.getD i 0) (getD_mem (by rw [HLL.out]; exact hi))
    have HPK := hide (fun W4 => picked_any (L.getD i 0) N W4 hlb.1 hlb.2 (by omega) (by omega))
    have hpl := pk_lt (L.getD i 0) N hN1
    obtain ⟨p, hp⟩ : ∃ p, pk (L.getD i 0) N = p := ⟨_, rfl⟩
    rw [hp] at HPK hpl
    obtain ⟨lv, hlv⟩ : ∃ lv, L.getD i 0 = lv := ⟨_, rfl⟩
    rw [hlv] at HLC HPK
    obtain ⟨r, hr⟩ : ∃ r, i % 2 = r := ⟨_, rfl⟩
    have hrb : r ≤ 1 := by omega
    have t1 : Int.tmod (i : Int) 2 = (r : Int) := by rw [Int.tmod_eq_emod_of_nonneg (by omega)]; omega
    have t2 : (i : Int) % 2 = (r : Int) := by omega
    obtain ⟨m, hm⟩ : ∃ m, 1 + r = m := ⟨_, rfl⟩
    have hmi : (1 : Int) + (r : Int) = (m : Int) := by omega
    have hm12 : m = 1 ∨ m = 2 := by omega
    have HPY := hide (fun W4 (hb : Below wr.heap.size wr W4) => Put_yes A B cb 0 N bc m (p : Int) Z W4 (hBw.out.mono hb).rd hmay.out hm12)
    have HM12 := hide hm12
    clear hlcell hlb hp hlv hr hm hm12
    go_upto_region 7 with fail
    refine wp_calm ?_
    refine wp_region_held (S := fun W4 => Below wr.heap.size wr W4) (by kernel_rfl) ?_
    change wpAnyH _ _ _ _ _ _ _ _ (World.drew _)
    have SW : Below wr.heap.size wr wr.drew := (Below.refl _ wr).drew
    refine wpAnyH_take (i := 0) (v := .agg (gdA A B (some ⟨cb, 0, none⟩) N bc)) rfl (by kernel_rfl) (by kernel_rfl) (by kernel_rfl) (fun _ _ _ h => h) (yieldsIf_load_mid (by rfl) 24 _ rfl gk 0 (by rfl) [.int .i64 A, .int .i64 B, .slice (some ⟨cb, 0, none⟩) N bc] _ (fun W4 hW4 => HGR.out W4 hW4) Try.underlying24 rfl size24) SW ?_
    go_simp
    refine wpAnyH_take (i := 1) (v := .int .i64 i) rfl (by kernel_rfl) (by kernel_rfl) (by kernel_rfl) (fun _ _ _ h => h) (Or.inl ⟨by rfl, ?_⟩) SW ?_
    · intro W4 hW4
      go_simp <;> first | done | rfl | (rw [IntKind.wrap_i64]; omega) | omega
    go_simp
    refine wpAnyH_take (i := 2) (v := .int .i64 r) rfl (by kernel_rfl) (by kernel_rfl) (by kernel_rfl) (fun _ _ _ h => h) (Or.inl ⟨by rfl, ?_⟩) SW ?_
    · intro W4 hW4
      go_simp <;> first | done | rfl | (rw [IntKind.wrap_i64]; omega) | omega
    go_simp
    refine wpAnyH_take (i := 3) (v := .int .i64 m) rfl (by kernel_rfl) (by kernel_rfl) (by kernel_rfl) (fun _ _ _ h => h) (Or.inl ⟨by rfl, ?_⟩) SW ?_
    · intro W4 hW4
      go_simp <;> first | done | rfl | (rw [IntKind.wrap_i64]; omega) | omega
    go_simp
    refine wpAnyH_take (i := 4) (v := .slice (some ⟨lb, lo, none⟩) ln lc) rfl (by kernel_rfl) (by kernel_rfl) (by kernel_rfl) (fun _ _ _ h => h) (Or.inl ⟨by rfl, ?_⟩) SW ?_
    · intro W4 hW4
      go_simp <;> first | done | rfl | (rw [IntKind.wrap_i64]; omega) | omega
    go_simp
    refine wpAnyH_take (i := 5) (v := .int .i64 i) rfl (by kernel_rfl) (by kernel_rfl) (by kernel_rfl) (fun _ _ _ h => h) (Or.inl ⟨by rfl, ?_⟩) SW ?_
    · intro W4 hW4
      go_simp <;> first | done | rfl | (rw [IntKind.wrap_i64]; omega) | omega
    go_simp
    refine wpAnyH_take (i := 6) (v := .pointer (some ⟨lb, lo + i, none⟩)) rfl (by kernel_rfl) (by kernel_rfl) (by kernel_rfl) (fun _ _ _ h => h) (Or.inl ⟨by rfl, ?_⟩) SW ?_
    · intro W4 hW4
      go_simp <;> first | done | rfl | (rw [IntKind.wrap_i64]; omega) | omega
    go_simp
    refine wpAnyH_take (i := 7) (v := .int .i64 lv) rfl (by kernel_rfl) (by kernel_rfl) (by kernel_rfl) (fun _ _ _ h => h) (Or.inl ⟨by rfl, ?_⟩) SW ?_
    · intro W4 hW4
      have x0 := HLC.out W4 hW4
      go_simp <;> first | done | rfl | (rw [IntKind.wrap_i64]; omega) | omega
    go_simp
    refine wpAnyH_take (i := 8) (v := .int .i64 N) rfl (by kernel_rfl) (by kernel_rfl) (by kernel_rfl) (fun _ _ _ h => h) (Or.inl ⟨by rfl, ?_⟩) SW ?_
    · intro W4 hW4
      go_simp <;> first | done | rfl | (rw [IntKind.wrap_i64]; omega) | omega
    go_simp
    refine wpAnyH_ready (rs := [9, 15]) (by kernel_rfl) (by simp) ?_
    refine AllReadyH.cons rfl (fun K1 hK1 => ?_) (AllReadyH.cons rfl (fun K1 hK1 => ?_) AllReadyH.nil)
    · go_simp
      refine (HPK.out _).mono ?_
      rintro e w4 ⟨rfl, hw4⟩
      subst w4
      refine hK1.out _ _ SW (fun SW => ?_)
      clear hK1 K1
      go_simp
      refine wpAnyH_ready (rs := [10, 15]) (by kernel_rfl) (by simp) ?_
      refine AllReadyH.cons rfl (fun K1 hK1 => ?_) (AllReadyH.cons rfl (fun K1 hK1 => ?_) AllReadyH.nil)
      · go_simp
        refine (HPY.out _ SW).mono ?_
        rintro e w5 ⟨hb5, h5⟩
        rcases h5 with ⟨h51, h52, xg, xc, rfl, hBx, hxl⟩ | ⟨h51, rfl⟩
        · rw [Int.toNat_natCast] at hBx ⊢
          have HBx := hide hBx
          have hxg : xg ≠ gk := by have h1 := hGd.out.lt; have h2 := SW.size; omega
          clear hBx
          have B5 := SW.trans (hb5.mono (by have := SW.size; omega))
          refine hK1.out _ _ B5 (fun SW => ?_)
          clear hK1 K1
          go_simp
          refine wpAnyH_take (i := 11) (v := .tuple #[.agg (gdA A B (some ⟨xg, 0, none⟩) N xc), .int .i64 (pt A B Z m p : Nat), .int .i64 0]) rfl (by kernel_rfl) (by kernel_rfl) (by kernel_rfl) (fun _ _ _ h => h) (Or.inl ⟨by rfl, ?_⟩) SW ?_
          · intro W4 hW4
            go_simp <;> first | done | rfl | (rw [IntKind.wrap_i64]; omega) | omega
          go_simp
          refine wpAnyH_take (i := 12) (v := .agg (gdA A B (some ⟨xg, 0, none⟩) N xc)) rfl (by kernel_rfl) (by kernel_rfl) (by kernel_rfl) (fun _ _ _ h => h) (Or.inl ⟨by rfl, ?_⟩) SW ?_
          · intro W4 hW4
            go_simp <;> first | done | rfl | (rw [IntKind.wrap_i64]; omega) | omega
          go_simp
          refine wpAnyH_take (i := 13) (v := .int .i64 (pt A B Z m p : Nat)) rfl (by kernel_rfl) (by kernel_rfl) (by kernel_rfl) (fun _ _ _ h => h) (Or.inl ⟨by rfl, ?_⟩) SW ?_
          · intro W4 hW4
            go_simp <;> first | done | rfl | (rw [IntKind.wrap_i64]; omega) | omega
          go_simp
          refine wpAnyH_take (i := 14) (v := .int .i64 0) rfl (by kernel_rfl) (by kernel_rfl) (by kernel_rfl) (fun _ _ _ h => h) (Or.inl ⟨by rfl, ?_⟩) SW ?_
          · intro W4 hW4
            go_simp <;> first | done | rfl | (rw [IntKind.wrap_i64]; omega) | omega
          go_simp
          refine wpAnyH_ready (rs := [15]) (by kernel_rfl) (by simp) ?_
          refine AllReadyH.cons rfl (fun K1 hK1 => ?_) AllReadyH.nil
          go_simp
          have hnb1 : wr.heap.size ≤ w5.heap.size := B5.size
          have KZ : Gd (w5.alloc (Obj.cells #[Value.int IntKind.i64 0, Value.int IntKind.i64 0, Value.slice none 0 0] 24)) w5.heap.size 0 0 none 0 0 := Gd.new w5 0 0 none 0 0
          have HBz := hide (HBx.out.mono ((Below.refl w5.heap.size w5).alloc (Nat.le_refl _) (Obj.cells #[Value.int IntKind.i64 0, Value.int IntKind.i64 0, Value.slice none 0 0] 24)))
          have hxn : ¬ xg = w5.heap.size := by have := HBx.out.lt; omega
          refine hK1.out _ _ (B5.alloc B5.size _) (fun SW => ?_)
          clear hK1 K1
          go_simp
          refine wpAnyH_ready (rs := [16]) (by kernel_rfl) (by simp) ?_
          refine AllReadyH.cons rfl (fun K1 hK1 => ?_) AllReadyH.nil
          refine wp_store_gd (.tmp 11) (.tmp 52) rfl (w5.heap.size) rfl rfl KZ ?_
          intro w7 K7 kk7
          refine hK1.out _ _ (SW.trans ((kk7.mono (Y := fun q => wr.heap.size ≤ q) (fun q _ e => by omega)).below (B := wr.heap.size) (by have := SW.size; omega) (fun q hq e => by omega))) (fun SW => ?_)
          clear hK1 K1
          go_simp
          refine wpAnyH_ready (rs := [17]) (by kernel_rfl) (by simp) ?_
          refine AllReadyH.cons rfl (fun K1 hK1 => ?_) AllReadyH.nil
          go_simp
          refine hK1.out _ _ SW (fun SW => ?_)
          clear hK1 K1
          go_simp
          refine wpAnyH_ready (rs := [18]) (by kernel_rfl) (by simp) ?_
          refine AllReadyH.cons rfl (fun K1 hK1 => ?_) AllReadyH.nil
          go_simp
          refine hK1.out _ _ SW (fun SW => ?_)
          clear hK1 K1
          go_simp
          refine wpAnyH_done (by kernel_rfl) ?_ _
          have hpt : pt A B Z m p ≤ 100 := by
            rw [pt, gone]
            exact Nat.le_trans (goneU_len (List.prefix_refl _)) (by rw [HNN.out]; exact hN100)
          have HZ2 : Hid (mayP A B (pz A B Z m p)) := hide (pz_may rfl rfl hmay.out HM12.out)
          have HF2 : Hid (frB A B (pz A B Z m p)) := hide (pz_free (by rw [HNN.out]; exact hZl) (getD_bound hmay.out.2.2.2.2.2) HM12.out (by rw [HNN.out]; exact hpl) (by have := h52.2.2.2; rwa [Int.toNat_natCast] at this) hfr.out)
          have HFE : Hid (full (pz A B Z m p) N + pt A B Z m p = full Z N + 1) := hide (by
            have := pz_full (W := A) (H := B) (Z := Z) (m := m) (p := p) (by rw [HNN.out]; exact hZl) HM12.out (by rw [HNN.out]; exact hpl) (by have := h52.2.2.1; rwa [Int.toNat_natCast] at this)
            rwa [HNN.out] at this)
          have hf2 : full (pz A B Z m p) N ≤ 100 := Nat.le_trans (full_le _ N) hN100
          have HX7 := hide (HBz.out.keeps kk7 hxn)
          have HB7 : Hid (Below w.heap.size w w7) := hide (hBl.out.trans (SW.mono hBl.out.size))
          have HG7 := hide (hGd.out.below SW hGd.out.lt)
          have hxb := HBz.out.rd.cap
          have hnbg : w5.heap.size ≠ gk := by have := hGd.out.lt; omega
          have HFC := hide (free_any A B xg 0 N xc (pz A B Z m p) w7 HX7.out.rd HZ2.out HF2.out)
          have HK7 := hide K7
          obtain ⟨-, -, kq⟩ := K7.cells
          obtain ⟨F2, hF2⟩ : ∃ F2, full (pz A B Z m p) N = F2 := ⟨_, rfl⟩
          obtain ⟨F1, hF1⟩ : ∃ F1, full Z N = F1 := ⟨_, rfl⟩
          obtain ⟨PT, hPT⟩ : ∃ PT, pt A B Z m p = PT := ⟨_, rfl⟩
          rw [hF2, hF1, hPT] at HFE
          rw [hF2] at hf2
          rw [hF1] at hfull ⊢
          rw [hPT] at hpt ⊢
          have hsum : (F1 : Int) + (1 - (PT : Int)) = (F2 : Int) := by have := HFE.out; omega
          have HF2E := hide hF2
          have HXG : Hid (xg ≠ gk) := hide hxg
          clear hF2 hF1 hPT SW kk7 h52 HFE hxg HPY
          go_wp2_with (first | (refine wpList_load_gd rfl (.tmp 11) rfl (w5.heap.size) rfl HK7.out ?_) | fail)
          refine HFC.out.mono ?_
          rintro e w8 ⟨rfl, hb8⟩
          have K8 := HK7.out.below hb8 HK7.out.lt
          have G8 := HG7.out.below hb8 HG7.out.lt
          have HX8 := hide (HX7.out.mono hb8)
          have HB8 : Hid (Below w.heap.size w w8) := hide (HB7.out.trans (hb8.mono HB7.out.size))
          clear hb8 HFC kq K7
          go_wp2_with (first
            | refine wpList_load_gd rfl (.tmp 11) rfl (w5.heap.size) rfl K8 ?_
            | (refine wpList_store_gd rfl (.tmp 7) (.tmp 77) rfl gk rfl rfl G8 ?_; intro w9 G9 kk9))
          have zg := HGK.out
          have HB9 : Hid (Below w.heap.size w w9) := hide (HB8.out.trans (kk9.below HB8.out.size (fun k hk e => by omega)))
          exact ⟨⟨i + 1, xg, xc, pz A B Z m p, by rw [HF2E.out], rfl, by omega, by omega, hide G9, hide (HX8.out.keeps kk9 HXG.out), HXG, HZ2, HF2, HB9⟩, by simp only [intOf]; omega⟩
        · have B5 := SW.trans (hb5.mono (by have := SW.size; omega))
          refine hK1.out _ _ B5 (fun SW => ?_)
          clear hK1 K1
          go_simp
          refine wpAnyH_take (i := 11) (v := .tuple #[.agg (gdA 0 0 none 0 0), .int .i64 0, .int .i64 (pE A B Z m (p : Int) : Nat)]) rfl (by kernel_rfl) (by kernel_rfl) (by kernel_rfl) (fun _ _ _ h => h) (Or.inl ⟨by rfl, ?_⟩) SW ?_
          · intro W4 hW4
            go_simp <;> first | done | rfl | (rw [IntKind.wrap_i64]; omega) | omega
          go_simp
          refine wpAnyH_take (i := 12) (v := .agg (gdA 0 0 none 0 0)) rfl (by kernel_rfl) (by kernel_rfl) (by kernel_rfl) (fun _ _ _ h => h) (Or.inl ⟨by rfl, ?_⟩) SW ?_
          · intro W4 hW4
            go_simp <;> first | done | rfl | (rw [IntKind.wrap_i64]; omega) | omega
          go_simp
          refine wpAnyH_take (i := 13) (v := .int .i64 0) rfl (by kernel_rfl) (by kernel_rfl) (by kernel_rfl) (fun _ _ _ h => h) (Or.inl ⟨by rfl, ?_⟩) SW ?_
          · intro W4 hW4
            go_simp <;> first | done | rfl | (rw [IntKind.wrap_i64]; omega) | omega
          go_simp
          refine wpAnyH_take (i := 14) (v := .int .i64 (pE A B Z m (p : Int) : Nat)) rfl (by kernel_rfl) (by kernel_rfl) (by kernel_rfl) (fun _ _ _ h => h) (Or.inl ⟨by rfl, ?_⟩) SW ?_
          · intro W4 hW4
            go_simp <;> first | done | rfl | (rw [IntKind.wrap_i64]; omega) | omega
          go_simp
          refine wpAnyH_ready (rs := [15]) (by kernel_rfl) (by simp) ?_
          refine AllReadyH.cons rfl (fun K1 hK1 => ?_) AllReadyH.nil
          go_simp
          have hnb1 : wr.heap.size ≤ w5.heap.size := B5.size
          have KZ : Gd (w5.alloc (Obj.cells #[Value.int IntKind.i64 0, Value.int IntKind.i64 0, Value.slice none 0 0] 24)) w5.heap.size 0 0 none 0 0 := Gd.new w5 0 0 none 0 0
          refine hK1.out _ _ (B5.alloc B5.size _) (fun SW => ?_)
          clear hK1 K1
          go_simp
          refine wpAnyH_ready (rs := [16]) (by kernel_rfl) (by simp) ?_
          refine AllReadyH.cons rfl (fun K1 hK1 => ?_) AllReadyH.nil
          refine wp_store_gd (.tmp 11) (.tmp 52) rfl (w5.heap.size) rfl rfl KZ ?_
          intro w7 K7 kk7
          refine hK1.out _ _ (SW.trans ((kk7.mono (Y := fun q => wr.heap.size ≤ q) (fun q _ e => by omega)).below (B := wr.heap.size) (by have := SW.size; omega) (fun q hq e => by omega))) (fun SW => ?_)
          clear hK1 K1
          go_simp
          refine wpAnyH_ready (rs := [17]) (by kernel_rfl) (by simp) ?_
          refine AllReadyH.cons rfl (fun K1 hK1 => ?_) AllReadyH.nil
          go_simp
          refine hK1.out _ _ SW (fun SW => ?_)
          clear hK1 K1
          go_simp
          refine wpAnyH_ready (rs := [18]) (by kernel_rfl) (by simp) ?_
          refine AllReadyH.cons rfl (fun K1 hK1 => ?_) AllReadyH.nil
          go_simp
          refine hK1.out _ _ SW (fun SW => ?_)
          clear hK1 K1
          go_simp
          refine wpAnyH_done (by kernel_rfl) ?_ _
          have HB7 : Hid (Below w.heap.size w w7) := hide (hBl.out.trans (SW.mono hBl.out.size))
          have HG7 := hide (hGd.out.below SW hGd.out.lt)
          have HX7 := hide (hBw.out.mono SW)
          have hpe : pE A B Z m (p : Int) = 6 ∨ pE A B Z m (p : Int) = 8 := by
            have h1 := h51
            rw [pE, if_pos (by rw [HNN.out]; omega)] at h1 ⊢
            split
            · rename_i hq
              rw [if_pos hq] at h1
              split
              · rename_i hq2
                rw [if_pos hq2] at h1
                exact absurd rfl h1
              · right; rfl
            · left; rfl
          clear h51 SW kk7 K7 HPY
          rcases hpe with hpe | hpe
          · rw [hpe]
            clear hpe
            go_wp2_with fail
            exact ⟨⟨i + 1, cb, bc, Z, rfl, rfl, by omega, by omega, HG7, HX7, hcg, hmay, hfr, HB7⟩, by simp only [intOf]; omega⟩
          · rw [hpe]
            clear hpe
            go_wp2_with fail
            exact ⟨⟨i + 1, cb, bc, Z, rfl, rfl, by omega, by omega, HG7, HX7, hcg, hmay, hfr, HB7⟩, by simp only [intOf]; omega⟩
      · go_simp
        have KZ0 : Gd (wr.alloc (Obj.cells #[Value.int IntKind.i64 0, Value.int IntKind.i64 0, Value.slice none 0 0] 24)).drew wr.heap.size 0 0 none 0 0 := Gd.new wr 0 0 none 0 0
        refine hK1.out _ _ (SW.alloc SW.size _) (fun SW => ?_)
        clear hK1 K1
        go_simp
        refine wpAnyH_ready (rs := [10]) (by kernel_rfl) (by simp) ?_
        refine AllReadyH.cons rfl (fun K1 hK1 => ?_) AllReadyH.nil
        go_simp
        refine (HPY.out _ SW).mono ?_
        rintro e w5 ⟨hb5, h5⟩
        rcases h5 with ⟨h51, h52, xg, xc, rfl, hBx, hxl⟩ | ⟨h51, rfl⟩
        · rw [Int.toNat_natCast] at hBx ⊢
          have HBx := hide hBx
          have hxg : xg ≠ gk := by have h1 := hGd.out.lt; have h2 := SW.size; omega
          clear hBx
          have B5 := SW.trans (hb5.mono (by have := SW.size; omega))
          refine hK1.out _ _ B5 (fun SW => ?_)
          clear hK1 K1
          go_simp
          refine wpAnyH_take (i := 11) (v := .tuple #[.agg (gdA A B (some ⟨xg, 0, none⟩) N xc), .int .i64 (pt A B Z m p : Nat), .int .i64 0]) rfl (by kernel_rfl) (by kernel_rfl) (by kernel_rfl) (fun _ _ _ h => h) (Or.inl ⟨by rfl, ?_⟩) SW ?_
          · intro W4 hW4
            go_simp <;> first | done | rfl | (rw [IntKind.wrap_i64]; omega) | omega
          go_simp
          refine wpAnyH_take (i := 12) (v := .agg (gdA A B (some ⟨xg, 0, none⟩) N xc)) rfl (by kernel_rfl) (by kernel_rfl) (by kernel_rfl) (fun _ _ _ h => h) (Or.inl ⟨by rfl, ?_⟩) SW ?_
          · intro W4 hW4
            go_simp <;> first | done | rfl | (rw [IntKind.wrap_i64]; omega) | omega
          go_simp
          refine wpAnyH_take (i := 13) (v := .int .i64 (pt A B Z m p : Nat)) rfl (by kernel_rfl) (by kernel_rfl) (by kernel_rfl) (fun _ _ _ h => h) (Or.inl ⟨by rfl, ?_⟩) SW ?_
          · intro W4 hW4
            go_simp <;> first | done | rfl | (rw [IntKind.wrap_i64]; omega) | omega
          go_simp
          refine wpAnyH_take (i := 14) (v := .int .i64 0) rfl (by kernel_rfl) (by kernel_rfl) (by kernel_rfl) (fun _ _ _ h => h) (Or.inl ⟨by rfl, ?_⟩) SW ?_
          · intro W4 hW4
            go_simp <;> first | done | rfl | (rw [IntKind.wrap_i64]; omega) | omega
          go_simp
          have KZ := KZ0.below hb5 KZ0.lt
          have HBz := HBx
          have hxn : ¬ xg = wr.heap.size := by have h1 := KZ0.lt; omega
          clear KZ0
          refine wpAnyH_ready (rs := [16]) (by kernel_rfl) (by simp) ?_
          refine AllReadyH.cons rfl (fun K1 hK1 => ?_) AllReadyH.nil
          refine wp_store_gd (.tmp 11) (.tmp 52) rfl (wr.heap.size) rfl rfl KZ ?_
          intro w7 K7 kk7
          refine hK1.out _ _ (SW.trans ((kk7.mono (Y := fun q => wr.heap.size ≤ q) (fun q _ e => by omega)).below (B := wr.heap.size) (by have := SW.size; omega) (fun q hq e => by omega))) (fun SW => ?_)
          clear hK1 K1
          go_simp
          refine wpAnyH_ready (rs := [17]) (by kernel_rfl) (by simp) ?_
          refine AllReadyH.cons rfl (fun K1 hK1 => ?_) AllReadyH.nil
          go_simp
          refine hK1.out _ _ SW (fun SW => ?_)
          clear hK1 K1
          go_simp
          refine wpAnyH_ready (rs := [18]) (by kernel_rfl) (by simp) ?_
          refine AllReadyH.cons rfl (fun K1 hK1 => ?_) AllReadyH.nil
          go_simp
          refine hK1.out _ _ SW (fun SW => ?_)
          clear hK1 K1
          go_simp
          refine wpAnyH_done (by kernel_rfl) ?_ _
          have hpt : pt A B Z m p ≤ 100 := by
            rw [pt, gone]
            exact Nat.le_trans (goneU_len (List.prefix_refl _)) (by rw [HNN.out]; exact hN100)
          have HZ2 : Hid (mayP A B (pz A B Z m p)) := hide (pz_may rfl rfl hmay.out HM12.out)
          have HF2 : Hid (frB A B (pz A B Z m p)) := hide (pz_free (by rw [HNN.out]; exact hZl) (getD_bound hmay.out.2.2.2.2.2) HM12.out (by rw [HNN.out]; exact hpl) (by have := h52.2.2.2; rwa [Int.toNat_natCast] at this) hfr.out)
          have HFE : Hid (full (pz A B Z m p) N + pt A B Z m p = full Z N + 1) := hide (by
            have := pz_full (W := A) (H := B) (Z := Z) (m := m) (p := p) (by rw [HNN.out]; exact hZl) HM12.out (by rw [HNN.out]; exact hpl) (by have := h52.2.2.1; rwa [Int.toNat_natCast] at this)
            rwa [HNN.out] at this)
          have hf2 : full (pz A B Z m p) N ≤ 100 := Nat.le_trans (full_le _ N) hN100
          have HX7 := hide (HBz.out.keeps kk7 hxn)
          have HB7 : Hid (Below w.heap.size w w7) := hide (hBl.out.trans (SW.mono hBl.out.size))
          have HG7 := hide (hGd.out.below SW hGd.out.lt)
          have hxb := HBz.out.rd.cap
          have hnbg : wr.heap.size ≠ gk := by have := hGd.out.lt; omega
          have HFC := hide (free_any A B xg 0 N xc (pz A B Z m p) w7 HX7.out.rd HZ2.out HF2.out)
          have HK7 := hide K7
          obtain ⟨-, -, kq⟩ := K7.cells
          obtain ⟨F2, hF2⟩ : ∃ F2, full (pz A B Z m p) N = F2 := ⟨_, rfl⟩
          obtain ⟨F1, hF1⟩ : ∃ F1, full Z N = F1 := ⟨_, rfl⟩
          obtain ⟨PT, hPT⟩ : ∃ PT, pt A B Z m p = PT := ⟨_, rfl⟩
          rw [hF2, hF1, hPT] at HFE
          rw [hF2] at hf2
          rw [hF1] at hfull ⊢
          rw [hPT] at hpt ⊢
          have hsum : (F1 : Int) + (1 - (PT : Int)) = (F2 : Int) := by have := HFE.out; omega
          have HF2E := hide hF2
          have HXG : Hid (xg ≠ gk) := hide hxg
          clear hF2 hF1 hPT SW kk7 h52 HFE hxg HPY
          go_wp2_with (first | (refine wpList_load_gd rfl (.tmp 11) rfl (wr.heap.size) rfl HK7.out ?_) | fail)
          refine HFC.out.mono ?_
          rintro e w8 ⟨rfl, hb8⟩
          have K8 := HK7.out.below hb8 HK7.out.lt
          have G8 := HG7.out.below hb8 HG7.out.lt
          have HX8 := hide (HX7.out.mono hb8)
          have HB8 : Hid (Below w.heap.size w w8) := hide (HB7.out.trans (hb8.mono HB7.out.size))
          clear hb8 HFC kq K7
          go_wp2_with (first
            | refine wpList_load_gd rfl (.tmp 11) rfl (wr.heap.size) rfl K8 ?_
            | (refine wpList_store_gd rfl (.tmp 7) (.tmp 77) rfl gk rfl rfl G8 ?_; intro w9 G9 kk9))
          have zg := HGK.out
          have HB9 : Hid (Below w.heap.size w w9) := hide (HB8.out.trans (kk9.below HB8.out.size (fun k hk e => by omega)))
          exact ⟨⟨i + 1, xg, xc, pz A B Z m p, by rw [HF2E.out], rfl, by omega, by omega, hide G9, hide (HX8.out.keeps kk9 HXG.out), HXG, HZ2, HF2, HB9⟩, by simp only [intOf]; omega⟩
        · have B5 := SW.trans (hb5.mono (by have := SW.size; omega))
          refine hK1.out _ _ B5 (fun SW => ?_)
          clear hK1 K1
          go_simp
          refine wpAnyH_take (i := 11) (v := .tuple #[.agg (gdA 0 0 none 0 0), .int .i64 0, .int .i64 (pE A B Z m (p : Int) : Nat)]) rfl (by kernel_rfl) (by kernel_rfl) (by kernel_rfl) (fun _ _ _ h => h) (Or.inl ⟨by rfl, ?_⟩) SW ?_
          · intro W4 hW4
            go_simp <;> first | done | rfl | (rw [IntKind.wrap_i64]; omega) | omega
          go_simp
          refine wpAnyH_take (i := 12) (v := .agg (gdA 0 0 none 0 0)) rfl (by kernel_rfl) (by kernel_rfl) (by kernel_rfl) (fun _ _ _ h => h) (Or.inl ⟨by rfl, ?_⟩) SW ?_
          · intro W4 hW4
            go_simp <;> first | done | rfl | (rw [IntKind.wrap_i64]; omega) | omega
          go_simp
          refine wpAnyH_take (i := 13) (v := .int .i64 0) rfl (by kernel_rfl) (by kernel_rfl) (by kernel_rfl) (fun _ _ _ h => h) (Or.inl ⟨by rfl, ?_⟩) SW ?_
          · intro W4 hW4
            go_simp <;> first | done | rfl | (rw [IntKind.wrap_i64]; omega) | omega
          go_simp
          refine wpAnyH_take (i := 14) (v := .int .i64 (pE A B Z m (p : Int) : Nat)) rfl (by kernel_rfl) (by kernel_rfl) (by kernel_rfl) (fun _ _ _ h => h) (Or.inl ⟨by rfl, ?_⟩) SW ?_
          · intro W4 hW4
            go_simp <;> first | done | rfl | (rw [IntKind.wrap_i64]; omega) | omega
          go_simp
          have KZ := KZ0.below hb5 KZ0.lt
          clear KZ0
          refine wpAnyH_ready (rs := [16]) (by kernel_rfl) (by simp) ?_
          refine AllReadyH.cons rfl (fun K1 hK1 => ?_) AllReadyH.nil
          refine wp_store_gd (.tmp 11) (.tmp 52) rfl (wr.heap.size) rfl rfl KZ ?_
          intro w7 K7 kk7
          refine hK1.out _ _ (SW.trans ((kk7.mono (Y := fun q => wr.heap.size ≤ q) (fun q _ e => by omega)).below (B := wr.heap.size) (by have := SW.size; omega) (fun q hq e => by omega))) (fun SW => ?_)
          clear hK1 K1
          go_simp
          refine wpAnyH_ready (rs := [17]) (by kernel_rfl) (by simp) ?_
          refine AllReadyH.cons rfl (fun K1 hK1 => ?_) AllReadyH.nil
          go_simp
          refine hK1.out _ _ SW (fun SW => ?_)
          clear hK1 K1
          go_simp
          refine wpAnyH_ready (rs := [18]) (by kernel_rfl) (by simp) ?_
          refine AllReadyH.cons rfl (fun K1 hK1 => ?_) AllReadyH.nil
          go_simp
          refine hK1.out _ _ SW (fun SW => ?_)
          clear hK1 K1
          go_simp
          refine wpAnyH_done (by kernel_rfl) ?_ _
          have HB7 : Hid (Below w.heap.size w w7) := hide (hBl.out.trans (SW.mono hBl.out.size))
          have HG7 := hide (hGd.out.below SW hGd.out.lt)
          have HX7 := hide (hBw.out.mono SW)
          have hpe : pE A B Z m (p : Int) = 6 ∨ pE A B Z m (p : Int) = 8 := by
            have h1 := h51
            rw [pE, if_pos (by rw [HNN.out]; omega)] at h1 ⊢
            split
            · rename_i hq
              rw [if_pos hq] at h1
              split
              · rename_i hq2
                rw [if_pos hq2] at h1
                exact absurd rfl h1
              · right; rfl
            · left; rfl
          clear h51 SW kk7 K7 HPY
          rcases hpe with hpe | hpe
          · rw [hpe]
            clear hpe
            go_wp2_with fail
            exact ⟨⟨i + 1, cb, bc, Z, rfl, rfl, by omega, by omega, HG7, HX7, hcg, hmay, hfr, HB7⟩, by simp only [intOf]; omega⟩
          · rw [hpe]
            clear hpe
            go_wp2_with fail
            exact ⟨⟨i + 1, cb, bc, Z, rfl, rfl, by omega, by omega, HG7, HX7, hcg, hmay, hfr, HB7⟩, by simp only [intOf]; omega⟩
    · go_simp
      have KZ0 : Gd (wr.alloc (Obj.cells #[Value.int IntKind.i64 0, Value.int IntKind.i64 0, Value.slice none 0 0] 24)).drew wr.heap.size 0 0 none 0 0 := Gd.new wr 0 0 none 0 0
      refine hK1.out _ _ (SW.alloc SW.size _) (fun SW => ?_)
      clear hK1 K1
      go_simp
      refine wpAnyH_ready (rs := [9]) (by kernel_rfl) (by simp) ?_
      refine AllReadyH.cons rfl (fun K1 hK1 => ?_) AllReadyH.nil
      go_simp
      refine (HPK.out _).mono ?_
      rintro e w4 ⟨rfl, hw4⟩
      subst w4
      refine hK1.out _ _ SW (fun SW => ?_)
      clear hK1 K1
      go_simp
      refine wpAnyH_ready (rs := [10]) (by kernel_rfl) (by simp) ?_
      refine AllReadyH.cons rfl (fun K1 hK1 => ?_) AllReadyH.nil
      go_simp
      refine (HPY.out _ SW).mono ?_
      rintro e w5 ⟨hb5, h5⟩
      rcases h5 with ⟨h51, h52, xg, xc, rfl, hBx, hxl⟩ | ⟨h51, rfl⟩
      · rw [Int.toNat_natCast] at hBx ⊢
        have HBx := hide hBx
        have hxg : xg ≠ gk := by have h1 := hGd.out.lt; have h2 := SW.size; omega
        clear hBx
        have B5 := SW.trans (hb5.mono (by have := SW.size; omega))
        refine hK1.out _ _ B5 (fun SW => ?_)
        clear hK1 K1
        go_simp
        refine wpAnyH_take (i := 11) (v := .tuple #[.agg (gdA A B (some ⟨xg, 0, none⟩) N xc), .int .i64 (pt A B Z m p : Nat), .int .i64 0]) rfl (by kernel_rfl) (by kernel_rfl) (by kernel_rfl) (fun _ _ _ h => h) (Or.inl ⟨by rfl, ?_⟩) SW ?_
        · intro W4 hW4
          go_simp <;> first | done | rfl | (rw [IntKind.wrap_i64]; omega) | omega
        go_simp
        refine wpAnyH_take (i := 12) (v := .agg (gdA A B (some ⟨xg, 0, none⟩) N xc)) rfl (by kernel_rfl) (by kernel_rfl) (by kernel_rfl) (fun _ _ _ h => h) (Or.inl ⟨by rfl, ?_⟩) SW ?_
        · intro W4 hW4
          go_simp <;> first | done | rfl | (rw [IntKind.wrap_i64]; omega) | omega
        go_simp
        refine wpAnyH_take (i := 13) (v := .int .i64 (pt A B Z m p : Nat)) rfl (by kernel_rfl) (by kernel_rfl) (by kernel_rfl) (fun _ _ _ h => h) (Or.inl ⟨by rfl, ?_⟩) SW ?_
        · intro W4 hW4
          go_simp <;> first | done | rfl | (rw [IntKind.wrap_i64]; omega) | omega
        go_simp
        refine wpAnyH_take (i := 14) (v := .int .i64 0) rfl (by kernel_rfl) (by kernel_rfl) (by kernel_rfl) (fun _ _ _ h => h) (Or.inl ⟨by rfl, ?_⟩) SW ?_
        · intro W4 hW4
          go_simp <;> first | done | rfl | (rw [IntKind.wrap_i64]; omega) | omega
        go_simp
        have KZ := KZ0.below hb5 KZ0.lt
        have HBz := HBx
        have hxn : ¬ xg = wr.heap.size := by have h1 := KZ0.lt; omega
        clear KZ0
        refine wpAnyH_ready (rs := [16]) (by kernel_rfl) (by simp) ?_
        refine AllReadyH.cons rfl (fun K1 hK1 => ?_) AllReadyH.nil
        refine wp_store_gd (.tmp 11) (.tmp 52) rfl (wr.heap.size) rfl rfl KZ ?_
        intro w7 K7 kk7
        refine hK1.out _ _ (SW.trans ((kk7.mono (Y := fun q => wr.heap.size ≤ q) (fun q _ e => by omega)).below (B := wr.heap.size) (by have := SW.size; omega) (fun q hq e => by omega))) (fun SW => ?_)
        clear hK1 K1
        go_simp
        refine wpAnyH_ready (rs := [17]) (by kernel_rfl) (by simp) ?_
        refine AllReadyH.cons rfl (fun K1 hK1 => ?_) AllReadyH.nil
        go_simp
        refine hK1.out _ _ SW (fun SW => ?_)
        clear hK1 K1
        go_simp
        refine wpAnyH_ready (rs := [18]) (by kernel_rfl) (by simp) ?_
        refine AllReadyH.cons rfl (fun K1 hK1 => ?_) AllReadyH.nil
        go_simp
        refine hK1.out _ _ SW (fun SW => ?_)
        clear hK1 K1
        go_simp
        refine wpAnyH_done (by kernel_rfl) ?_ _
        have hpt : pt A B Z m p ≤ 100 := by
          rw [pt, gone]
          exact Nat.le_trans (goneU_len (List.prefix_refl _)) (by rw [HNN.out]; exact hN100)
        have HZ2 : Hid (mayP A B (pz A B Z m p)) := hide (pz_may rfl rfl hmay.out HM12.out)
        have HF2 : Hid (frB A B (pz A B Z m p)) := hide (pz_free (by rw [HNN.out]; exact hZl) (getD_bound hmay.out.2.2.2.2.2) HM12.out (by rw [HNN.out]; exact hpl) (by have := h52.2.2.2; rwa [Int.toNat_natCast] at this) hfr.out)
        have HFE : Hid (full (pz A B Z m p) N + pt A B Z m p = full Z N + 1) := hide (by
          have := pz_full (W := A) (H := B) (Z := Z) (m := m) (p := p) (by rw [HNN.out]; exact hZl) HM12.out (by rw [HNN.out]; exact hpl) (by have := h52.2.2.1; rwa [Int.toNat_natCast] at this)
          rwa [HNN.out] at this)
        have hf2 : full (pz A B Z m p) N ≤ 100 := Nat.le_trans (full_le _ N) hN100
        have HX7 := hide (HBz.out.keeps kk7 hxn)
        have HB7 : Hid (Below w.heap.size w w7) := hide (hBl.out.trans (SW.mono hBl.out.size))
        have HG7 := hide (hGd.out.below SW hGd.out.lt)
        have hxb := HBz.out.rd.cap
        have hnbg : wr.heap.size ≠ gk := by have := hGd.out.lt; omega
        have HFC := hide (free_any A B xg 0 N xc (pz A B Z m p) w7 HX7.out.rd HZ2.out HF2.out)
        have HK7 := hide K7
        obtain ⟨-, -, kq⟩ := K7.cells
        obtain ⟨F2, hF2⟩ : ∃ F2, full (pz A B Z m p) N = F2 := ⟨_, rfl⟩
        obtain ⟨F1, hF1⟩ : ∃ F1, full Z N = F1 := ⟨_, rfl⟩
        obtain ⟨PT, hPT⟩ : ∃ PT, pt A B Z m p = PT := ⟨_, rfl⟩
        rw [hF2, hF1, hPT] at HFE
        rw [hF2] at hf2
        rw [hF1] at hfull ⊢
        rw [hPT] at hpt ⊢
        have hsum : (F1 : Int) + (1 - (PT : Int)) = (F2 : Int) := by have := HFE.out; omega
        have HF2E := hide hF2
        have HXG : Hid (xg ≠ gk) := hide hxg
        clear hF2 hF1 hPT SW kk7 h52 HFE hxg HPY
        go_wp2_with (first | (refine wpList_load_gd rfl (.tmp 11) rfl (wr.heap.size) rfl HK7.out ?_) | fail)
        refine HFC.out.mono ?_
        rintro e w8 ⟨rfl, hb8⟩
        have K8 := HK7.out.below hb8 HK7.out.lt
        have G8 := HG7.out.below hb8 HG7.out.lt
        have HX8 := hide (HX7.out.mono hb8)
        have HB8 : Hid (Below w.heap.size w w8) := hide (HB7.out.trans (hb8.mono HB7.out.size))
        clear hb8 HFC kq K7
        go_wp2_with (first
          | refine wpList_load_gd rfl (.tmp 11) rfl (wr.heap.size) rfl K8 ?_
          | (refine wpList_store_gd rfl (.tmp 7) (.tmp 77) rfl gk rfl rfl G8 ?_; intro w9 G9 kk9))
        have zg := HGK.out
        have HB9 : Hid (Below w.heap.size w w9) := hide (HB8.out.trans (kk9.below HB8.out.size (fun k hk e => by omega)))
        exact ⟨⟨i + 1, xg, xc, pz A B Z m p, by rw [HF2E.out], rfl, by omega, by omega, hide G9, hide (HX8.out.keeps kk9 HXG.out), HXG, HZ2, HF2, HB9⟩, by simp only [intOf]; omega⟩
      · have B5 := SW.trans (hb5.mono (by have := SW.size; omega))
        refine hK1.out _ _ B5 (fun SW => ?_)
        clear hK1 K1
        go_simp
        refine wpAnyH_take (i := 11) (v := .tuple #[.agg (gdA 0 0 none 0 0), .int .i64 0, .int .i64 (pE A B Z m (p : Int) : Nat)]) rfl (by kernel_rfl) (by kernel_rfl) (by kernel_rfl) (fun _ _ _ h => h) (Or.inl ⟨by rfl, ?_⟩) SW ?_
        · intro W4 hW4
          go_simp <;> first | done | rfl | (rw [IntKind.wrap_i64]; omega) | omega
        go_simp
        refine wpAnyH_take (i := 12) (v := .agg (gdA 0 0 none 0 0)) rfl (by kernel_rfl) (by kernel_rfl) (by kernel_rfl) (fun _ _ _ h => h) (Or.inl ⟨by rfl, ?_⟩) SW ?_
        · intro W4 hW4
          go_simp <;> first | done | rfl | (rw [IntKind.wrap_i64]; omega) | omega
        go_simp
        refine wpAnyH_take (i := 13) (v := .int .i64 0) rfl (by kernel_rfl) (by kernel_rfl) (by kernel_rfl) (fun _ _ _ h => h) (Or.inl ⟨by rfl, ?_⟩) SW ?_
        · intro W4 hW4
          go_simp <;> first | done | rfl | (rw [IntKind.wrap_i64]; omega) | omega
        go_simp
        refine wpAnyH_take (i := 14) (v := .int .i64 (pE A B Z m (p : Int) : Nat)) rfl (by kernel_rfl) (by kernel_rfl) (by kernel_rfl) (fun _ _ _ h => h) (Or.inl ⟨by rfl, ?_⟩) SW ?_
        · intro W4 hW4
          go_simp <;> first | done | rfl | (rw [IntKind.wrap_i64]; omega) | omega
        go_simp
        have KZ := KZ0.below hb5 KZ0.lt
        clear KZ0
        refine wpAnyH_ready (rs := [16]) (by kernel_rfl) (by simp) ?_
        refine AllReadyH.cons rfl (fun K1 hK1 => ?_) AllReadyH.nil
        refine wp_store_gd (.tmp 11) (.tmp 52) rfl (wr.heap.size) rfl rfl KZ ?_
        intro w7 K7 kk7
        refine hK1.out _ _ (SW.trans ((kk7.mono (Y := fun q => wr.heap.size ≤ q) (fun q _ e => by omega)).below (B := wr.heap.size) (by have := SW.size; omega) (fun q hq e => by omega))) (fun SW => ?_)
        clear hK1 K1
        go_simp
        refine wpAnyH_ready (rs := [17]) (by kernel_rfl) (by simp) ?_
        refine AllReadyH.cons rfl (fun K1 hK1 => ?_) AllReadyH.nil
        go_simp
        refine hK1.out _ _ SW (fun SW => ?_)
        clear hK1 K1
        go_simp
        refine wpAnyH_ready (rs := [18]) (by kernel_rfl) (by simp) ?_
        refine AllReadyH.cons rfl (fun K1 hK1 => ?_) AllReadyH.nil
        go_simp
        refine hK1.out _ _ SW (fun SW => ?_)
        clear hK1 K1
        go_simp
        refine wpAnyH_done (by kernel_rfl) ?_ _
        have HB7 : Hid (Below w.heap.size w w7) := hide (hBl.out.trans (SW.mono hBl.out.size))
        have HG7 := hide (hGd.out.below SW hGd.out.lt)
        have HX7 := hide (hBw.out.mono SW)
        have hpe : pE A B Z m (p : Int) = 6 ∨ pE A B Z m (p : Int) = 8 := by
          have h1 := h51
          rw [pE, if_pos (by rw [HNN.out]; omega)] at h1 ⊢
          split
          · rename_i hq
            rw [if_pos hq] at h1
            split
            · rename_i hq2
              rw [if_pos hq2] at h1
              exact absurd rfl h1
            · right; rfl
          · left; rfl
        clear h51 SW kk7 K7 HPY
        rcases hpe with hpe | hpe
        · rw [hpe]
          clear hpe
          go_wp2_with fail
          exact ⟨⟨i + 1, cb, bc, Z, rfl, rfl, by omega, by omega, HG7, HX7, hcg, hmay, hfr, HB7⟩, by simp only [intOf]; omega⟩
        · rw [hpe]
          clear hpe
          go_wp2_with fail
          exact ⟨⟨i + 1, cb, bc, Z, rfl, rfl, by omega, by omega, HG7, HX7, hcg, hmay, hfr, HB7⟩, by simp only [intOf]; omega⟩

end Go.Proofs.Ytafiaimlmdflnaa
