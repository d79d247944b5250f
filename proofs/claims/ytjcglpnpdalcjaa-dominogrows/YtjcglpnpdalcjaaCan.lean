/-
  The document's condition for a row of all pieces, walked. No conditions beyond those that each theorem bears.
-/
import Derived.Test.YtjcglpnpdalcjaaSeen
import Derived.BigRegion
namespace Go.Proofs.Ytjcglpnpdalcjaa
open Go.RowKit
attribute [local irreducible] hz hzL

/-- A block of truths. -/
def BlkB (w : World) (b : Nat) (L : List Bool) : Prop := w.heap[b]? = some (.cells (L.map Value.bool).toArray 4 (0, 0))

theorem BlkB.cell {w : World} {b : Nat} {L : List Bool} (h : BlkB w b L) {i : Nat} (hi : i < L.length) : w.cell? ⟨b, i, none⟩ = some (.bool (L.getD i false)) := by
  have h' : w.heap[b]? = _ := h
  simp [World.cell?, h', List.getD, hi]

theorem BlkB.frozen {w : World} {b : Nat} {L : List Bool} (h : BlkB w b L) (i : Nat) : w.frozen? ⟨b, i, none⟩ = false := by
  have h' : w.heap[b]? = _ := h
  simp [World.frozen?, h']

theorem BlkB.set {w : World} {b : Nat} {L : List Bool} (h : BlkB w b L) (i : Nat) (x : Bool) : BlkB (w.setCell ⟨b, i, none⟩ (.bool x)) b (L.set i x) := by
  have h' : w.heap[b]? = _ := h
  simp [BlkB, World.setCell, Array.getElem?_modify, h', List.map_set]

theorem BlkB.lt {w : World} {b : Nat} {L : List Bool} (h : BlkB w b L) : b < w.heap.size := (Array.getElem?_eq_some_iff.1 h).1

theorem BlkB.of_own {w : World} {base g n : Nat} {L : List Bool} (h : w.ownsRow base 4 1 (.slice (some ⟨g, 0, none⟩) n n) n (L.map Value.bool)) : BlkB w g L := by
  rcases h.2 with ⟨hv, _⟩ | ⟨g', cap, cur, hv, hb, hg, hnc, hcm, hcs, ht⟩
  · simp at hv
  · simp only [Value.slice.injEq, Option.some.injEq, Addr.mk.injEq, and_true, true_and] at hv
    obtain ⟨rfl, rfl⟩ := hv
    have e : cur = (L.map Value.bool).toArray := by
      rw [← ht, List.take_of_length_le (by simp [hcs])]
    rw [BlkB, hg, e]

theorem made_bools (n : Nat) : (madeCells #[Value.bool false] n).toList = (List.replicate n false).map Value.bool := by
  rw [toList_madeCells_one, List.map_replicate]

theorem Try.info4 : (Try.prog.info? 4).map (fun i => (i.zero, i.size, i.bytes)) = some (some (.bool false), 1, 1) := by kernel_rfl

theorem endN_take (ps : List Pc) (i u : Nat) (h : i < ps.length) : endN (ps.take (i + 1)) u = endN (ps.take i) u + ((if (ps.getD i (0, 0)).1 = (u : Int) then 1 else 0) + (if (ps.getD i (0, 0)).2 = (u : Int) then 1 else 0)) := by
  rw [List.take_succ_eq_append_getElem h, endN_append]
  congr 1
  rw [endN_cons, endN_nil]
  simp [List.getD, h]

/-- Euler's condition. -/
def rcB (ps : List Pc) : Bool := decide (odN (endN ps) 10 ≤ 2) && allSn ps

theorem rnd_take (S : List Bool) (ps : List Pc) (i : Nat) (h : i < ps.length) : rnd S (ps.take (i + 1)) = stp (rnd S (ps.take i)) (ps.getD i (0, 0)) := by
  unfold rnd
  rw [List.take_succ_eq_append_getElem h, List.foldl_append]
  simp [List.getD, h]

theorem rnd_len (S : List Bool) (ps : List Pc) : (rnd S ps).length = S.length := (rnd_le S ps).1.symm

theorem rnds_len (ps : List Pc) (r : Nat) : (rnds (sn0 ps) ps r).length = 10 := (rnds_le (sn0 ps) ps r).1.symm.trans (sn0_len ps)

theorem all_take (ps : List Pc) (f : Pc → Bool) (i : Nat) (h : i < ps.length) : (ps.take (i + 1)).all f = ((ps.take i).all f && f (ps.getD i (0, 0))) := by
  rw [List.take_succ_eq_append_getElem h, List.all_append]
  simp [List.getD, h]

set_option maxRecDepth 100000 in
set_option maxHeartbeats 8000000 in
theorem RowCan_any (a : Option Addr) (n c : Nat) (ps : List Pc) (w : World) (h : Rp w a n c ps) (hn : n ≤ 60) (hp : pcsB ps = true) :
    Calls Try.prog 16 #[.slice a n c] w fun e w' => e = .returned (.bool (rcB ps)) ∧ Below w.heap.size w w' := by
  obtain ⟨i0, hi, hz0, hz1, hz2⟩ := info_parts Try.info4
  have hcm := h.max
  have hcn := h.cap
  unfold maxLen at hcm
  obtain ⟨RC, hRC⟩ : ∃ RC, rcB ps = RC := ⟨_, rfl⟩
  rw [hRC]
  have HRC := hide hRC
  have HH := hide h
  have HL := hide h.len
  have HP := hide hp
  clear h hp hRC
  go_enter Try.func16, Try.ntmps16
  go_wp2
  go_loop [3, 4] (fun t v => ∃ (u S : Nat), u ≤ 10 ∧ S ≤ u ∧ v = .int .i64 u ∧ t = .int .i64 S ∧ Hid (S = odN (endN ps) u)) (fun _ v => 10 - (intOf v).toNat)
  case atStart => exact ⟨0, 0, by omega, by omega, rfl, rfl, hide rfl⟩
  case round =>
    obtain ⟨u, S, hu, hSu, rfl, rfl, HS⟩ := hrel
    by_cases hu10 : u < 10
    · have hu9 : (u : Int) ≤ 9 := by omega
      go_wp2
      go_loop [5, 6] (fun t v => ∃ (i K : Nat), i ≤ n ∧ K ≤ 2 * i ∧ v = .int .i64 i ∧ t = .int .i64 K ∧ Hid (K = endN (ps.take i) u)) (fun _ v => n - (intOf v).toNat)
      case atStart => exact ⟨0, 0, by omega, by omega, rfl, rfl, hide rfl⟩
      case round =>
        obtain ⟨i, K, hin, hKb, rfl, rfl, HK⟩ := hrel
        by_cases hlt : i < n
        · have hlt' : (i : Int) < (n : Int) := by omega
          obtain ⟨b, off, ha, hc⟩ := HH.out.cells (by omega)
          subst ha
          obtain ⟨r1, r2⟩ := hc i hlt
          have HT := hide (endN_take ps i u (by rw [HL.out]; exact hlt))
          rw [← HK.out] at HT
          obtain ⟨x, hx⟩ : ∃ x, (ps.getD i (0, 0)).1 = x := ⟨_, rfl⟩
          obtain ⟨y, hy⟩ : ∃ y, (ps.getD i (0, 0)).2 = y := ⟨_, rfl⟩
          rw [hx] at r1 HT
          rw [hy] at r2 HT
          clear hc hx hy
          by_cases e1 : x = (u : Int)
          · have b1 : (x == (u : Int)) = true := by simpa using e1
            rw [if_pos e1] at HT
            by_cases e2 : y = (u : Int)
            · have b2 : (y == (u : Int)) = true := by simpa using e2
              rw [if_pos e2] at HT
              clear e1 e2
              go_wp2
              go_round
              case rel => exact ⟨i + 1, K + 2, by omega, by omega, by go_num, by go_num, hide HT.out.symm⟩
              case measure => simp [intOf]; omega
            · have b2 : (y == (u : Int)) = false := by simpa using e2
              rw [if_neg e2] at HT
              clear e1 e2
              go_wp2
              go_round
              case rel => exact ⟨i + 1, K + 1, by omega, by omega, by go_num, by go_num, hide HT.out.symm⟩
              case measure => simp [intOf]; omega
          · have b1 : (x == (u : Int)) = false := by simpa using e1
            rw [if_neg e1] at HT
            by_cases e2 : y = (u : Int)
            · have b2 : (y == (u : Int)) = true := by simpa using e2
              rw [if_pos e2] at HT
              clear e1 e2
              go_wp2
              go_round
              case rel => exact ⟨i + 1, K + 1, by omega, by omega, by go_num, by go_num, hide HT.out.symm⟩
              case measure => simp [intOf]; omega
            · have b2 : (y == (u : Int)) = false := by simpa using e2
              rw [if_neg e2] at HT
              clear e1 e2
              go_wp2
              go_round
              case rel => exact ⟨i + 1, K, by omega, by omega, by go_num, rfl, hide HT.out.symm⟩
              case measure => simp [intOf]; omega
        · have hlt' : ¬ (i : Int) < (n : Int) := by omega
          obtain rfl : i = n := by omega
          have hKE : K = endN ps u := by rw [HK.out, List.take_of_length_le (by rw [HL.out]; exact Nat.le_refl _)]
          have HO : Hid (odN (endN ps) (u + 1) = S + K % 2) := hide (by
            rw [odN, ← HS.out, ← hKE]
            split <;> omega)
          have hmod : (K : Int) % 2 = ((K % 2 : Nat) : Int) := by omega
          obtain ⟨q, hq⟩ : ∃ q, K % 2 = q := ⟨_, rfl⟩
          have hq1 : q ≤ 1 := by omega
          rw [hq] at hmod HO
          clear hKE hq
          go_wp2
          go_round
          case rel => exact ⟨u + 1, S + q, by omega, by omega, by go_num, by go_num, hide HO.out.symm⟩
          case measure => simp [intOf]; omega
    · have hu9 : ¬ (u : Int) ≤ 9 := by omega
      obtain rfl : u = 10 := by omega
      by_cases hodd : 2 < S
      · have hodd' : (2 : Int) < (S : Int) := by omega
        have HV : Hid (RC = false) := hide (by rw [← HRC.out, rcB, ← HS.out, decide_eq_false (by omega)]; rfl)
        go_wp2
        go_ret
        exact ⟨ret_bool HV.out.symm, Below.refl _ _⟩
      · have hodd' : ¬ (2 : Int) < (S : Int) := by omega
        have HV : Hid (RC = allSn ps) := hide (by rw [← HRC.out, rcB, ← HS.out, decide_eq_true (by omega)]; rfl)
        have hmm : 10 ≤ maxLen := by unfold maxLen; omega
        have hby : i0.bytes * 10 ≤ 281474976710656 := by rw [hz2]; omega
        go_wp2_with (at_make; refine wpList_make_full w rfl _ _ 53 rfl w.heap.size 4 i0 (.bool false) 1 Try.underlying53 hi hz0 hz1 _ _ _ _ 10 rfl rfl (by omega) (by omega) hby hmm (Nat.le_refl _) ?_)
        intro w1 hown hgrow
        have hb1 : Below w.heap.size w w1 := (Below.refl _ _).grown hgrow (Nat.le_refl _) (fun k hk => by simp at hk)
        rw [made_bools] at hown
        have HB1 := hide hb1
        have HS1 := hide (BlkB.of_own hown)
        clear hown hgrow hb1 hmm hby
        obtain ⟨G, hG⟩ : ∃ G, w.heap.size = G := ⟨_, rfl⟩
        rw [hG] at HS1
        have HGG := hide hG
        simp only [hG]
        clear hG
        by_cases hn0 : 0 < n
        · obtain ⟨w2, hst, HS2, HB2⟩ : ∃ w2, Hid (∃ x : Nat, x < 10 ∧ (ps.getD 0 (0, 0)).1 = (x : Int) ∧ w2 = w1.setCell ⟨G, x, none⟩ (.bool true)) ∧ Hid (BlkB w2 G (sn0 ps)) ∧ Hid (Below w.heap.size w w2) := by
            obtain ⟨s, hs, he⟩ := start_nat ps HP.out (by rw [HL.out]; exact hn0)
            refine ⟨_, hide ⟨s, hs, he, rfl⟩, hide ?_, hide (HB1.out.setCell (p := ⟨G, s, none⟩) (by show w.heap.size ≤ G; rw [HGG.out]; exact Nat.le_refl _) _)⟩
            have := HS1.out.set s true
            unfold sn0
            rw [if_neg (by rw [HL.out]; omega), he, Int.toNat_natCast]
            exact this
          obtain ⟨s, hs10, hse, hw2⟩ := hst.out
          obtain ⟨b, off, ha, hc⟩ := HH.out.cells hn0
          subst ha
          have r1 : w1.cell? ⟨b, off, none⟩ = some (.int .i64 s) := by
            have h1 := (hc 0 hn0).1
            rw [hse] at h1
            simp only [Nat.zero_mul, Nat.add_zero] at h1
            rw [HB1.out.cell (World.block_lt_of_cell? w _ h1)]
            exact h1
          have r2 := HS1.out.cell (i := s) (by simpa using hs10)
          have f2 := HS1.out.frozen s
          have hs10' : (s : Int) < 10 := by omega
          have hn0' : (0 : Int) < (n : Int) := by omega
          clear hc hse hst
          go_wp2_with fail
          rw [← hw2]
          clear hw2 r1 r2 f2
          go_loopw [8] (fun v wr => ∃ (r : Nat), r ≤ 10 ∧ v = .int .i64 r ∧ Hid (BlkB wr G (rnds (sn0 ps) ps r)) ∧ Hid (Below w.heap.size w wr)) (fun v _ => 10 - (intOf v).toNat)
          case atStart => exact ⟨0, by omega, rfl, HS2, HB2⟩
          case round =>
            clear HS2 HB2
            obtain ⟨r, hr, rfl, HSr, HBr⟩ := hrel
            by_cases hr10 : r < 10
            · have hr9 : (r : Int) ≤ 9 := by omega
              go_wp2_with fail
              go_loopw [9] (fun v wr => ∃ (i : Nat) (T : List Bool), i ≤ n ∧ v = .int .i64 i ∧ Hid (BlkB wr G T) ∧ Hid (T = rnd (rnds (sn0 ps) ps r) (ps.take i)) ∧ Hid (T.length = 10) ∧ Hid (Below w.heap.size w wr)) (fun v _ => n - (intOf v).toNat)
              case atStart => exact ⟨0, _, by omega, rfl, HSr, hide (by rw [List.take_zero]; rfl), hide (rnds_len ps r), HBr⟩
              case round =>
                clear HSr HBr
                obtain ⟨i, T, hin, rfl, HT, HTe, HTl, HB⟩ := hrel
                by_cases hlt : i < n
                · have hlt' : (i : Int) < (n : Int) := by omega
                  have hzl : i < ps.length := by rw [HL.out]; exact hlt
                  obtain ⟨X, Y, hXY, hX, hY⟩ := pcs_nat HP.out hzl
                  have hcc := (HH.out.cell hlt).2
                  rw [hXY] at hcc
                  simp only at hcc
                  have hbl : b < w.heap.size := World.block_lt_of_cell? w _ hcc.1
                  have hbG : ¬ b = G := by have := HGG.out; omega
                  have r1 := (HB.out.cell (p := ⟨b, off + i * 2, none⟩) hbl).trans hcc.1
                  have r2 := (HB.out.cell (p := ⟨b, off + i * 2 + 1, none⟩) hbl).trans hcc.2
                  have hX' : (X : Int) < 10 := by omega
                  have hY' : (Y : Int) < 10 := by omega
                  have s1 := HT.out.cell (i := X) (by rw [HTl.out]; exact hX)
                  have s2 := HT.out.cell (i := Y) (by rw [HTl.out]; exact hY)
                  have g1 := HT.out.frozen X
                  have g2 := HT.out.frozen Y
                  have HN : Hid (rnd (rnds (sn0 ps) ps r) (ps.take (i + 1)) = stp T ((X : Int), (Y : Int))) := hide (by rw [rnd_take _ _ _ hzl, ← HTe.out, hXY])
                  clear hcc hXY hzl
                  obtain ⟨sx, hsx⟩ : ∃ sx, T.getD X false = sx := ⟨_, rfl⟩
                  obtain ⟨sy, hsy⟩ : ∃ sy, T.getD Y false = sy := ⟨_, rfl⟩
                  rw [hsx] at s1
                  rw [hsy] at s2
                  by_cases hor : sx = true ∨ sy = true
                  · have HN2 : Hid (rnd (rnds (sn0 ps) ps r) (ps.take (i + 1)) = (T.set X true).set Y true) := hide (by
                      rw [HN.out, stp]
                      simp only [Int.toNat_natCast]
                      rw [if_pos (by rw [hsx, hsy]; rcases hor with h | h <;> simp [h])])
                    have HT2 := hide ((HT.out.set X true).set Y true)
                    have HB2 := hide ((HB.out.setCell (p := ⟨G, X, none⟩) (by show w.heap.size ≤ G; rw [HGG.out]; exact Nat.le_refl _) (.bool true)).setCell (p := ⟨G, Y, none⟩) (by show w.heap.size ≤ G; rw [HGG.out]; exact Nat.le_refl _) (.bool true))
                    have HTl2 : Hid (((T.set X true).set Y true).length = 10) := hide (by rw [List.length_set, List.length_set]; exact HTl.out)
                    have s3 := (HT.out.set X true).cell (i := Y) (by rw [List.length_set, HTl.out]; exact hY)
                    have g3 := (HT.out.set X true).frozen Y
                    clear hsx hsy HT HTe HTl HB HN
                    cases sx with
                    | true =>
                      clear hor
                      go_wp2_with fail
                      go_roundw
                      case rel => exact ⟨i + 1, _, by omega, by go_num, HT2, hide HN2.out.symm, HTl2, HB2⟩
                      case measure => simp [intOf]; omega
                    | false =>
                      have hsy : sy = true := by rcases hor with h | h; cases h; exact h
                      subst hsy
                      clear hor
                      go_wp2_with fail
                      go_roundw
                      case rel => exact ⟨i + 1, _, by omega, by go_num, HT2, hide HN2.out.symm, HTl2, HB2⟩
                      case measure => simp [intOf]; omega
                  · have hx0 : sx = false := by cases sx; rfl; exact absurd (Or.inl rfl) hor
                    have hy0 : sy = false := by cases sy; rfl; exact absurd (Or.inr rfl) hor
                    subst hx0 hy0
                    have HN2 : Hid (rnd (rnds (sn0 ps) ps r) (ps.take (i + 1)) = T) := hide (by
                      rw [HN.out, stp]
                      simp only [Int.toNat_natCast]
                      rw [if_neg (by rw [hsx, hsy]; simp)])
                    clear hor hsx hsy HN
                    go_wp2_with fail
                    go_roundw
                    case rel => exact ⟨i + 1, T, by omega, by go_num, HT, hide HN2.out.symm, HTl, HB⟩
                    case measure => simp [intOf]; omega
                · have hlt' : ¬ (i : Int) < (n : Int) := by omega
                  obtain rfl : i = n := by omega
                  have HN2 : Hid (T = rnds (sn0 ps) ps (r + 1)) := hide (by rw [HTe.out, List.take_of_length_le (by rw [HL.out]; exact Nat.le_refl _)]; rfl)
                  rw [HN2.out] at HT
                  go_wp2_with fail
                  go_roundw
                  case rel => exact ⟨r + 1, by omega, by go_num, HT, HB⟩
                  case measure => simp [intOf]; omega
            · have hr9 : ¬ (r : Int) ≤ 9 := by omega
              obtain rfl : r = 10 := by omega
              have HSF : Hid (BlkB wr G (seenL ps)) := HSr
              go_wp2_with fail
              go_loop [10] (fun v => ∃ (i : Nat), i ≤ n ∧ v = .int .i64 i ∧ Hid ((ps.take i).all (fun p => (seenL ps).getD p.1.toNat false) = true)) (fun v => n - (intOf v).toNat)
              case atStart => exact ⟨0, by omega, rfl, hide rfl⟩
              case round =>
                obtain ⟨i, hin, rfl, HA⟩ := hrel
                by_cases hlt : i < n
                · have hlt' : (i : Int) < (n : Int) := by omega
                  have hzl : i < ps.length := by rw [HL.out]; exact hlt
                  obtain ⟨X, Y, hXY, hX, hY⟩ := pcs_nat HP.out hzl
                  have hcc := (HH.out.cell hlt).2
                  rw [hXY] at hcc
                  simp only at hcc
                  have hbl : b < w.heap.size := World.block_lt_of_cell? w _ hcc.1
                  have r1 := (HBr.out.cell (p := ⟨b, off + i * 2, none⟩) hbl).trans hcc.1
                  have hX' : (X : Int) < 10 := by omega
                  have s1 := HSF.out.cell (i := X) (by rw [seen_len]; exact hX)
                  have HN : Hid ((ps.take (i + 1)).all (fun p => (seenL ps).getD p.1.toNat false) = (seenL ps).getD X false) := hide (by
                    rw [all_take _ _ _ hzl, HA.out, hXY]
                    simp)
                  have HNF : Hid ((seenL ps).getD X false = false → allSn ps = false) := hide (fun h => by
                    unfold allSn
                    rw [List.all_eq_false]
                    refine ⟨((X : Int), (Y : Int)), ?_, by simp only [Int.toNat_natCast]; rw [h]; simp⟩
                    rw [← hXY]; simp [List.getD, hzl])
                  clear hcc hXY hzl
                  cases hsx : (seenL ps).getD X false with
                  | true =>
                    rw [hsx] at s1 HN
                    clear hsx
                    go_wp2_with fail
                    go_round
                    case rel => exact ⟨i + 1, by omega, by go_num, HN⟩
                    case measure => simp [intOf]; omega
                  | false =>
                    have HVF : Hid (RC = false) := hide (by rw [HV.out]; exact HNF.out hsx)
                    rw [hsx] at s1
                    clear hsx
                    go_wp2_with fail
                    go_ret
                    exact ⟨ret_bool HVF.out.symm, HBr.out⟩
                · have hlt' : ¬ (i : Int) < (n : Int) := by omega
                  obtain rfl : i = n := by omega
                  have HVT : Hid (RC = true) := hide (by rw [HV.out]; have := HA.out; rw [List.take_of_length_le (by rw [HL.out]; exact Nat.le_refl _)] at this; exact this)
                  go_wp2_with fail
                  go_ret
                  exact ⟨ret_bool HVT.out.symm, HBr.out⟩
        · have hn0' : ¬ (0 : Int) < (n : Int) := by omega
          have HS2 : Hid (BlkB w1 G (sn0 ps)) := hide (by
            unfold sn0
            rw [if_pos (by rw [HL.out]; omega)]
            exact HS1.out)
          have HB2 := HB1
          go_wp2_with fail
          go_loopw [8] (fun v wr => ∃ (r : Nat), r ≤ 10 ∧ v = .int .i64 r ∧ Hid (BlkB wr G (rnds (sn0 ps) ps r)) ∧ Hid (Below w.heap.size w wr)) (fun v _ => 10 - (intOf v).toNat)
          case atStart => exact ⟨0, by omega, rfl, HS2, HB2⟩
          case round =>
            clear HS2 HB2
            obtain ⟨r, hr, rfl, HSr, HBr⟩ := hrel
            by_cases hr10 : r < 10
            · have hr9 : (r : Int) ≤ 9 := by omega
              go_wp2_with fail
              go_loopw [9] (fun v wr => ∃ (i : Nat) (T : List Bool), i ≤ n ∧ v = .int .i64 i ∧ Hid (BlkB wr G T) ∧ Hid (T = rnd (rnds (sn0 ps) ps r) (ps.take i)) ∧ Hid (T.length = 10) ∧ Hid (Below w.heap.size w wr)) (fun v _ => n - (intOf v).toNat)
              case atStart => exact ⟨0, _, by omega, rfl, HSr, hide (by rw [List.take_zero]; rfl), hide (rnds_len ps r), HBr⟩
              case round =>
                clear HSr HBr
                obtain ⟨i, T, hin, rfl, HT, HTe, HTl, HB⟩ := hrel
                by_cases hlt : i < n
                · exact absurd hlt (by omega)
                · have hlt' : ¬ (i : Int) < (n : Int) := by omega
                  obtain rfl : i = n := by omega
                  have HN2 : Hid (T = rnds (sn0 ps) ps (r + 1)) := hide (by rw [HTe.out, List.take_of_length_le (by rw [HL.out]; exact Nat.le_refl _)]; rfl)
                  rw [HN2.out] at HT
                  go_wp2_with fail
                  go_roundw
                  case rel => exact ⟨r + 1, by omega, by go_num, HT, HB⟩
                  case measure => simp [intOf]; omega
            · have hr9 : ¬ (r : Int) ≤ 9 := by omega
              obtain rfl : r = 10 := by omega
              have HSF : Hid (BlkB wr G (seenL ps)) := HSr
              go_wp2_with fail
              go_loop [10] (fun v => ∃ (i : Nat), i ≤ n ∧ v = .int .i64 i ∧ Hid ((ps.take i).all (fun p => (seenL ps).getD p.1.toNat false) = true)) (fun v => n - (intOf v).toNat)
              case atStart => exact ⟨0, by omega, rfl, hide rfl⟩
              case round =>
                obtain ⟨i, hin, rfl, HA⟩ := hrel
                by_cases hlt : i < n
                · exact absurd hlt (by omega)
                · have hlt' : ¬ (i : Int) < (n : Int) := by omega
                  obtain rfl : i = n := by omega
                  have HVT : Hid (RC = true) := hide (by rw [HV.out]; have := HA.out; rw [List.take_of_length_le (by rw [HL.out]; exact Nat.le_refl _)] at this; exact this)
                  go_wp2_with fail
                  go_ret
                  exact ⟨ret_bool HVT.out.symm, HBr.out⟩

end Go.Proofs.Ytjcglpnpdalcjaa
