/-
  Chess as texts: a rank read. No conditions beyond those that each theorem bears.
  A strings.Builder at this program: its check, and a byte and a string written to it; walked here, for the cut has put a refusal where the library has its panic. No conditions beyond those that each theorem bears.
  A strings.Builder at this program, as it stands beside other blocks: its check, strings and runes written to it; walked here, for the cut has put a refusal where the library has its panic. No conditions beyond those that each theorem bears.
-/
import Derived.Test.YtdmlamnonbmboaaGreatDoorV46
import Derived.Test.YtdmlamnonbmboaaGreatDoorV32
import Derived.Lib.OthersKept
import Derived.Test.YtdmlamnonbmboaaGreatDoorV45
import Derived.Lib.Builder
import Derived.Lib.AppendStr
import Derived.Lib.UnsafeStr
import Derived.Lib.Walk
import Derived.Laws.Externs
import Derived.Shelf.Strings.BuilderX
import Derived.Lib.FrozenHead
namespace Go.Proofs.YtdmlamnonbmboaaGreatDoor
open Go.RowKit Go.Shelf
open Go.Lib

/-- A rank as its signs tell it: from file f on, in a row; and whether it is one. -/
def rkR : List Int → Nat → List Int → List Int × Bool
  | [], f, row => (row, f == 8)
  | x :: l, f, row => if (tbR x).2 = 0 ∨ 8 < f + (tbR x).2 then (row, false) else rkR l (f + (tbR x).2) (row.set f (tbR x).1)
theorem rkR_len : ∀ (l : List Int) (f : Nat) (row : List Int), (rkR l f row).1.length = row.length
  | [], f, row => rfl
  | x :: l, f, row => by
    unfold rkR
    split
    · rfl
    · rw [rkR_len l _ _, List.length_set]

theorem results_ct {fn : Func} {t u : Tmp} {ty : TypeId} (h : fn.results = #[.cell t ty, .tmp u]) (tmps : Array Value) (w : World) (b : Nat) (hb : tmps.getD t undef = .pointer (some ⟨b, 0, none⟩)) {v y : Value} (hu : tmps.getD u undef = y)
    (hr : (loadVar ty ⟨b, 0, none⟩).run Tryz.prog w = .ok v w) :
    (results fn tmps).run Tryz.prog w = .ok (.tuple #[v, y]) w := by
  have hb' : tmps[t]?.getD undef = .pointer (some ⟨b, 0, none⟩) := by simpa using hb
  have hu' : tmps[u]?.getD undef = y := by simpa using hu
  simp [results, h, hb', hu', asAddr, hr]
theorem row95 : RowT 95 8 := ⟨⟨_, Tryz.underlying95, rfl⟩, by kernel_rfl⟩
def z8 : List Int := [0, 0, 0, 0, 0, 0, 0, 0]
theorem tb_bd (x : Int) : (tbR x).2 ≤ 8 := by
  unfold tbR
  split
  · show dgt x ≤ 8
    unfold dgt
    split <;> omega
  · split
    · show 1 ≤ 8; omega
    · show 0 ≤ 8; omega

theorem runes_on (s : ByteArray) (q pos : Nat) (h : pos < s.size) : runes s (q + 1) pos = ((Utf8.decode s pos).1 : Int) :: runes s q (pos + (Utf8.decode s pos).2) := by rw [runes, if_pos h]

attribute [local irreducible] tbR runes

set_option maxRecDepth 1000000 in
set_option maxHeartbeats 4000000 in
theorem readRank_any (s : ByteArray) (ha : ∀ x ∈ runesOf s, ∃ n : Nat, x = (n : Int) ∧ n < 128) (w : World) :
    Calls Tryz.prog 68 #[.string s] w fun e w' => e = .returned (.tuple #[.agg (ivs (rkR (runesOf s) 0 z8).1).toArray, .bool (rkR (runesOf s) 0 z8).2]) ∧ Below w.heap.size w w' := by
  obtain ⟨g, hg⟩ : ∃ g, w.heap.size = g := ⟨_, rfl⟩
  obtain ⟨w1, hw1⟩ : ∃ w1, (w.alloc (.cells #[.int .i64 0, .int .i64 0, .int .i64 0, .int .i64 0, .int .i64 0, .int .i64 0, .int .i64 0, .int .i64 0] 95)).alloc (.cells #[.int .i64 0, .int .i64 0, .int .i64 0, .int .i64 0, .int .i64 0, .int .i64 0, .int .i64 0, .int .i64 0] 95) = w1 := ⟨_, rfl⟩
  have B1 : Below w.heap.size w w1 := by rw [← hw1]; exact ((Below.refl _ _).alloc (Nat.le_refl _) _).alloc (by simp) _
  have s1 : w1.heap.size = g + 2 := by rw [← hw1, ← hg]; simp
  have V1 : Vb w1 g 95 (ivs z8) := by rw [← hw1, ← hg]; exact (Vb.new w 95 (ivs z8)).mono ((Below.refl _ _).alloc (Nat.le_refl _) _)
  have V2 : Vb w1 (g + 1) 95 (ivs z8) := by
    rw [← hw1, ← hg]
    have h := Vb.new (w.alloc (.cells #[.int .i64 0, .int .i64 0, .int .i64 0, .int .i64 0, .int .i64 0, .int .i64 0, .int .i64 0, .int .i64 0] 95)) 95 (ivs z8)
    rw [World.size_alloc] at h
    exact h
  have HTB := hide toldBy_ascii
  have HB1 := hide B1
  have HG := hide hg
  have HV1 := hide V1
  have HA := hide ha
  obtain ⟨RES, hRES⟩ : ∃ RES, rkR (runesOf s) 0 z8 = RES := ⟨_, rfl⟩
  have HRL : Hid (RES.1.length = 8) := hide (by rw [← hRES, rkR_len]; rfl)
  rw [hRES]
  have HRES := hide hRES
  clear B1 V1 ha hRES
  go_enter Tryz.func68, Tryz.ntmps68
  go_upto_region 2 with fail
  try rw [hg]
  clear hw1 hg
  go_wp2_with fail
  try rw [s1]
  have HS1 := hide s1
  clear s1
  go_loopw [5] (fun v wr => ∃ (pos f fl : Nat) (row : List Int), v = .int .i64 fl ∧ fl ≤ 8 ∧ row.length = 8 ∧ wr.heap[g + 2]? = some (.stringIter s pos) ∧ Hid (Vb wr (g + 1) 95 (ivs row)) ∧ Hid (Vb wr g 95 (ivs z8)) ∧ Hid (Below w.heap.size w wr) ∧ Hid (rkR (runes s f pos) fl row = RES) ∧ Hid (∀ x ∈ runes s f pos, ∃ n : Nat, x = (n : Int) ∧ n < 128) ∧ s.size ≤ pos + f) (fun _ wr => s.size - wr.iterPos (g + 2))
  case atStart =>
    have h2 := below_iter w1 s 0
    refine ⟨0, s.size, 0, z8, rfl, by omega, rfl, ?_, hide (V2.mono h2), hide (HV1.out.mono h2), hide (HB1.out.trans (h2.mono HB1.out.size)), HRES, HA, by omega⟩
    have h := World.iter_heap w1 s 0
    rw [HS1.out] at h
    exact h
  case round =>
    obtain ⟨pos, f, fl, row, rfl, hfl, hrl, hit, hV, hz, hb, HP, hA, hf⟩ := hrel
    have hk0 : g + 2 < wr.heap.size := (Array.getElem?_eq_some_iff.1 hit).1
    have hip : wr.iterPos (g + 2) = pos := by unfold World.iterPos; rw [hit]
    have HIP := hide hip
    clear hip
    by_cases hps : pos < s.size
    · have hnx := fun ty => run_next_any_at (P := Tryz.prog) wr (g + 2) s pos ty hit hps
      have hwd := width_pos s pos hps
      obtain ⟨q, rfl⟩ : ∃ q, f = q + 1 := ⟨f - 1, by omega⟩
      have hstep : runes s (q + 1) pos = ((Utf8.decode s pos).1 : Int) :: runes s q (pos + (Utf8.decode s pos).2) := runes_on s q pos hps
      rw [hstep] at HP hA
      clear hstep
      obtain ⟨⟨r, d⟩, hrd⟩ : ∃ q, q = Utf8.decode s pos := ⟨_, rfl⟩
      rw [← hrd] at hnx hwd HP hA
      simp only at hnx hwd HP hA
      have hr128 : r < 128 := by
        obtain ⟨n, e, hn⟩ := hA.out (r : Int) (by simp)
        omega
      have HA2 : Hid (∀ x ∈ runes s q (pos + d), ∃ n : Nat, x = (n : Int) ∧ n < 128) := hide (fun x hx => hA.out x (by simp [hx]))
      have hB0 : Below (g + 2) wr (wr.iterAt (g + 2) s (pos + d)) := below_iterAt (Below.refl _ _) (Nat.le_refl _) s (pos + d)
      have HI2 := hide (iterAt_heap wr (g + 2) s pos (pos + d) hit)
      have HV2 := hide (hV.out.below hB0 (by omega))
      have HZ2 := hide (hz.out.below hB0 (by omega))
      have HB2 : Hid (Below w.heap.size w (wr.iterAt (g + 2) s (pos + d))) := hide (hb.out.trans (hB0.mono (by have := HG.out; omega)))
      obtain ⟨wi, hwi⟩ : ∃ wi, wi = wr.iterAt (g + 2) s (pos + d) := ⟨_, rfl⟩
      rw [← hwi] at hnx HI2 HV2 HZ2 HB2
      have HT := hide (HTB.out r hr128 wi)
      have htb := tb_bd (r : Int)
      have HP2 : Hid ((if (tbR (r : Int)).2 = 0 ∨ 8 < fl + (tbR (r : Int)).2 then (row, false) else rkR (runes s q (pos + d)) (fl + (tbR (r : Int)).2) (row.set fl (tbR (r : Int)).1)) = RES) := hide (by rw [← HP.out]; conv => rhs; unfold rkR)
      obtain ⟨p1, hp1⟩ : ∃ p1, (tbR (r : Int)).1 = p1 := ⟨_, rfl⟩
      obtain ⟨p2, hp2⟩ : ∃ p2, (tbR (r : Int)).2 = p2 := ⟨_, rfl⟩
      rw [hp1, hp2] at HT HP2
      rw [hp2] at htb
      clear hrd hwi hV hz hb hit hB0 HP hA hp1 hp2 hr128
      go_upto_region 7 with (refine HT.out.mono ?_)
      rintro e w4 ⟨rfl, hb4⟩
      have HI4 : Hid (w4.heap[g + 2]? = some (.stringIter s (pos + d))) := hide ((hb4.block _ (Array.getElem?_eq_some_iff.1 HI2.out).1).trans HI2.out)
      have HV4 := hide (HV2.out.mono hb4)
      have HZ4 := hide (HZ2.out.mono hb4)
      have HB4 : Hid (Below w.heap.size w w4) := hide (HB2.out.trans (hb4.mono HB2.out.size))
      have HM4 : Hid (w4.iterPos (g + 2) = pos + d) := hide (by unfold World.iterPos; rw [HI4.out])
      clear hb4 hnx HI2 HV2 HZ2 HB2 HT
      by_cases hbad : p2 = 0 ∨ 8 < fl + p2
      · have HR : Hid (RES = (row, false)) := hide (by rw [← HP2.out, if_pos hbad])
        have hl : RowT 95 (ivs row).length := by rw [ivs_length, hrl]; exact row95
        have hv := HV4.out
        have hzz := HZ4.out
        by_cases h0 : p2 = 0
        · subst h0
          go_wp2_with (first | (refine wpList_load_vb rfl 95 (.tmp 4) rfl (g + 1) rfl hl hv ?_) | (refine wpList_store_vb rfl 95 (.tmp 2) (.tmp 28) rfl g (ivs row) _ rfl rfl hzz (by rw [ivs_length, ivs_length, hrl]; rfl) hl (by simpa using ivs_one _) ?_; intro w5 V5 K5))
          have HBW := hide (HB4.out.trans (K5.below HB4.out.size (fun j hj e => by have := HG.out; omega)))
          try simp only [Exit.inBlock, Exit.then]
          refine bodyPost_ret (results_ct rfl _ _ g rfl rfl (run_loadVar_row _ _ 95 95 _ (0, 0) _ V5 Tryz.underlying95 rfl (by rw [List.size_toArray, ivs_length, hrl]; exact row95.s))) rfl ?_
          exact ⟨by rw [HR.out]; rfl, HBW.out⟩
        · have h0b : ((p2 : Int) == 0) = false := by rw [beq_eq_false_iff_ne]; omega
          have h8 : (8 : Int) < (fl : Int) + (p2 : Int) := by omega
          go_wp2_with (first | (refine wpList_load_vb rfl 95 (.tmp 4) rfl (g + 1) rfl hl hv ?_) | (refine wpList_store_vb rfl 95 (.tmp 2) (.tmp 28) rfl g (ivs row) _ rfl rfl hzz (by rw [ivs_length, ivs_length, hrl]; rfl) hl (by simpa using ivs_one _) ?_; intro w5 V5 K5))
          have HBW := hide (HB4.out.trans (K5.below HB4.out.size (fun j hj e => by have := HG.out; omega)))
          try simp only [Exit.inBlock, Exit.then]
          refine bodyPost_ret (results_ct rfl _ _ g rfl rfl (run_loadVar_row _ _ 95 95 _ (0, 0) _ V5 Tryz.underlying95 rfl (by rw [List.size_toArray, ivs_length, hrl]; exact row95.s))) rfl ?_
          exact ⟨by rw [HR.out]; rfl, HBW.out⟩
      · have HR : Hid (rkR (runes s q (pos + d)) (fl + p2) (row.set fl p1) = RES) := hide (by rw [← HP2.out, if_neg hbad])
        have h0b : ((p2 : Int) == 0) = false := by rw [beq_eq_false_iff_ne]; omega
        have h8 : ¬ (8 : Int) < (fl : Int) + (p2 : Int) := by omega
        have hfl8 : fl < 8 := by omega
        have hflI : (fl : Int) < 8 := by omega
        have hlt : fl < row.length := by omega
        obtain ⟨v0, hv0⟩ : ∃ v0, (ivs row)[fl]? = some (.int .i64 v0) := ⟨row[fl], by simp [ivs, hlt]⟩
        have ca := HV4.out.cell hv0
        have fa := HV4.out.frozen fl
        have hset : (ivs row).set fl (.int .i64 p1) = ivs (row.set fl p1) := by simp [ivs, List.map_set]
        have V5 := HV4.out.set fl (.int .i64 p1)
        rw [hset] at V5
        have k5 : Keeps (fun j => j = g + 1) w4 (w4.setCell ⟨g + 1, fl, none⟩ (.int .i64 p1)) := Keeps.set1 _ _ _ _
        have HV5 := hide V5
        have HZ5 := hide (HZ4.out.keeps k5 (fun e => by omega))
        have HI5 : Hid ((w4.setCell ⟨g + 1, fl, none⟩ (.int .i64 p1)).heap[g + 2]? = some (.stringIter s (pos + d))) := hide ((k5.block _ (Array.getElem?_eq_some_iff.1 HI4.out).1 (fun e => by omega)).trans HI4.out)
        have HB5 : Hid (Below w.heap.size w (w4.setCell ⟨g + 1, fl, none⟩ (.int .i64 p1))) := hide (HB4.out.trans (k5.below HB4.out.size (fun j hj e => by have := HG.out; omega)))
        have HM5 : Hid ((w4.setCell ⟨g + 1, fl, none⟩ (.int .i64 p1)).iterPos (g + 2) = pos + d) := hide (by unfold World.iterPos; rw [HI5.out])
        clear V5 k5 hset hv0 hbad HP2
        go_wp2_with fail
        refine ⟨⟨pos + d, q, fl + p2, row.set fl p1, by go_num, by omega, by rw [List.length_set]; exact hrl, HI5.out, HV5, HZ5, HB5, HR, HA2, by omega⟩, ?_⟩
        rw [HM5.out, HIP.out]
        omega
    · have hnx := fun ty => run_next_end_at (P := Tryz.prog) wr (g + 2) s pos ty hit hps
      have HR : Hid (RES = (row, fl == 8)) := hide (by rw [← HP.out, runes_end s f pos hps]; rfl)
      have hl : RowT 95 (ivs row).length := by rw [ivs_length, hrl]; exact row95
      have hv := hV.out
      have hzz := hz.out
      have e8 : ((fl : Int) == 8) = (fl == 8) := by
        rw [Bool.eq_iff_iff]; simp; omega
      clear hit HP hA
      go_wp2_with (first | (refine wpList_load_vb rfl 95 (.tmp 4) rfl (g + 1) rfl hl hv ?_) | (refine wpList_store_vb rfl 95 (.tmp 2) (.tmp 35) rfl g (ivs row) _ rfl rfl hzz (by rw [ivs_length, ivs_length, hrl]; rfl) hl (by simpa using ivs_one _) ?_; intro w5 V5 K5))
      have HBW := hide (hb.out.trans (K5.below hb.out.size (fun j hj e => by have := HG.out; omega)))
      try simp only [Exit.inBlock, Exit.then]
      refine bodyPost_ret (results_ct rfl _ _ g rfl rfl (run_loadVar_row _ _ 95 95 _ (0, 0) _ V5 Tryz.underlying95 rfl (by rw [List.size_toArray, ivs_length, hrl]; exact row95.s))) rfl ?_
      refine ⟨?_, HBW.out⟩
      rw [HR.out]
      first | rfl | (rw [← e8]; rfl)

end Go.Proofs.YtdmlamnonbmboaaGreatDoor

namespace Go.Proofs.YtdmlamnonbmboaaGreatDoor
open Go.RowKit

theorem bd_info : ∃ i, Tryz.prog.info? 128 = some i ∧ i.size = 2 := Option.map_eq_some_iff.1 (show (Tryz.prog.info? 128).map (·.size) = some 2 by kernel_rfl)

set_option maxRecDepth 100000 in
set_option maxHeartbeats 1000000 in
theorem check_any (B b : Nat) (bs : List Value) (w : World) (h : Lib.IsBuilder 128 5 B b bs w) :
    Calls Tryz.prog 127 #[.pointer (some ⟨b, 0, none⟩)] w fun e w' => e = .returned (.tuple #[]) ∧ Lib.BuilderAt 128 5 B b (.pointer (some ⟨b, 0, none⟩)) bs w' ∧ Below B w w' := by
  obtain ⟨i, hi, his⟩ := bd_info
  rcases h with h | h
  · have c0 := h.cell0
    have sh := h.shape
    have fz := h.frozen0
    have HH := hide h
    clear h
    go_enter Tryz.func127, Tryz.ntmps127
    go_wp2
    rw [Lib.run_to_unsafe w ⟨b, 0, none⟩ Tryz.underlying125 Tryz.underlying160 hi (by rw [his]; decide) sh (Nat.zero_lt_succ 1)]
    simp only [Result.andThen]
    rw [Oper.upon_value]
    go_wp2
    rw [run_callFunc_extern Tryz.func150 (by kernel_rfl) (by kernel_rfl) (by kernel_rfl) (e := Extern.AbiNoEscape.same) (by kernel_rfl), Lib.run_noEscape]
    simp only [Result.andThen]
    rw [Oper.upon_value]
    go_wp2
    rw [Lib.run_from_unsafe w ⟨b, 0, none⟩ Tryz.underlying160 Tryz.underlying125 hi sh (by kernel_rfl)]
    simp only [Result.andThen]
    rw [Oper.upon_value]
    go_wp2
    go_end0
    exact ⟨rfl, HH.out.used _, (Below.refl B w).setCell (p := ⟨b, 0, none⟩) HH.out.1 _⟩
  · have c0 := h.cell0
    have HH := hide h
    clear h
    go_enter Tryz.func127, Tryz.ntmps127
    go_wp2
    rw [Lib.run_neq_ptr_same w _ Tryz.underlying125 hi]
    go_wp2
    go_end0
    exact ⟨rfl, HH.out, Below.refl B _⟩

theorem bd_byte : (Tryz.prog.info? 5).map (fun i => (i.zero, i.size, i.bytes)) = some (some (.int .u8 0), 1, 1) := by kernel_rfl

set_option maxRecDepth 100000 in
set_option maxHeartbeats 2000000 in
theorem byte_any (B b : Nat) (bs : List Value) (c : Int) (w : World) (h : Lib.IsBuilder 128 5 B b bs w) (hlen : bs.length ≤ 1000000) (hBw : B ≤ w.heap.size) :
    Calls Tryz.prog 98 #[.pointer (some ⟨b, 0, none⟩), .int .u8 c] w fun e w' => e = .returned .nilIface ∧ Lib.BuilderAt 128 5 B b (.pointer (some ⟨b, 0, none⟩)) (bs ++ [.int .u8 c]) w' ∧ Below B w w' := by
  obtain ⟨i0, hi, hz0, hz1, hz2⟩ := info_parts bd_byte
  have HC := hide (check_any B b bs w h)
  clear h
  go_enter Tryz.func98, Tryz.ntmps98
  go_wp2_with fail
  refine HC.out.mono ?_
  rintro e w1 ⟨rfl, ⟨hB, v, hbk, hown, hne⟩, hb1⟩
  have hsz1 : B ≤ w1.heap.size := Nat.le_trans hBw hb1.size
  have hlt : b < w1.heap.size := (Array.getElem?_eq_some_iff.1 hbk).1
  have c0 : w1.cell? ⟨b, 0, none⟩ = some (.pointer (some ⟨b, 0, none⟩)) := by rw [Lib.cell_of_heap hbk]; rfl
  have c1 : w1.cell? ⟨b, 1, none⟩ = some v := by rw [Lib.cell_of_heap hbk]; rfl
  go_wp2_with (at_builtin; refine wpList_append_own _ rfl _ _ 126 rfl B 5 i0 (.int .u8 0) 1 1 Tryz.underlying126 hi hz0 hz1 hz2 rfl (by decide) _ _ _ rfl (hown.alloc _) ⟨w1.heap.size, 0, none⟩ 1 1 [.int .u8 c] rfl rfl ?_ ?_ ?_ ?_ ?_ ?_)
  · intro j u hj
    match j, hj with
    | 0, hj => simp at hj; subst hj; simp [Addr.add]
  · intro u hu; simp at hu; subst hu; rfl
  · unfold maxLen; omega
  · omega
  · simp; omega
  intro v' w2 hown' hgrow _
  have hb2 : w2.heap[b]? = some (.cells #[.pointer (some ⟨b, 0, none⟩), v] 128 (0, 0)) := by
    rw [hgrow.block b (by simp; omega) (fun e => hne e.symm), Lib.alloc_old w1 _ b hlt]
    exact hbk
  have d0 : w2.cell? ⟨b, 0, none⟩ = some (.pointer (some ⟨b, 0, none⟩)) := by rw [Lib.cell_of_heap hb2]; rfl
  have d1 : w2.cell? ⟨b, 1, none⟩ = some v := by rw [Lib.cell_of_heap hb2]; rfl
  have f1 : w2.frozen? ⟨b, 1, none⟩ = false := Lib.frozen_of_heap hb2 1
  obtain ⟨ao, n', cap, rfl⟩ : ∃ ao n' cap, v' = .slice ao n' cap := by
    rcases hown'.2 with ⟨hv, _⟩ | ⟨g, cap, cur, hv, _⟩
    · exact ⟨_, _, _, hv⟩
    · exact ⟨_, _, _, hv⟩
  go_wp2
  go_ret
  refine ⟨rfl, ?_, ?_⟩
  · exact Lib.BuilderAt.put (T := 128) (e := 5) hB hb2 (bs' := bs ++ [.int .u8 c]) (by simpa using hown') (by decide)
  · exact ((hb1.alloc hsz1 _).grown hgrow (by simp; omega) (fun k hk => (hown.lt k hk).1)).setCell (p := ⟨b, 1, none⟩) hB _

end Go.Proofs.YtdmlamnonbmboaaGreatDoor

namespace Go.Proofs.YtdmlamnonbmboaaGreatDoor
open Go.RowKit

set_option maxRecDepth 100000 in
set_option maxHeartbeats 1000000 in
theorem check_k (B b : Nat) (bs : List Value) (w : World) (h : Lib.IsBuilderF 128 5 B b bs w) :
    Calls Tryz.prog 127 #[.pointer (some ⟨b, 0, none⟩)] w fun e w' => e = .returned (.tuple #[]) ∧ Lib.BuilderAtF 128 5 B b (.pointer (some ⟨b, 0, none⟩)) bs w' ∧ Below B w w' ∧ Lib.OthersKept 5 (some b) w w' := by
  obtain ⟨i, hi, his⟩ := bd_info
  rcases h with h | h
  · have c0 := h.cell0
    have sh := h.shape
    have fz := h.frozen0
    have HH := hide h
    clear h
    go_enter Tryz.func127, Tryz.ntmps127
    go_wp2
    rw [Lib.run_to_unsafe w ⟨b, 0, none⟩ Tryz.underlying125 Tryz.underlying160 hi (by rw [his]; decide) sh (Nat.zero_lt_succ 1)]
    simp only [Result.andThen]
    rw [Oper.upon_value]
    go_wp2
    rw [run_callFunc_extern Tryz.func150 (by kernel_rfl) (by kernel_rfl) (by kernel_rfl) (e := Extern.AbiNoEscape.same) (by kernel_rfl), Lib.run_noEscape]
    simp only [Result.andThen]
    rw [Oper.upon_value]
    go_wp2
    rw [Lib.run_from_unsafe w ⟨b, 0, none⟩ Tryz.underlying160 Tryz.underlying125 hi sh (by kernel_rfl)]
    simp only [Result.andThen]
    rw [Oper.upon_value]
    go_wp2
    go_end0
    exact ⟨rfl, HH.out.used _, (Below.refl B w).setCell (p := ⟨b, 0, none⟩) HH.out.1 _, (Lib.OthersKept.refl 5 (some b) w).setCell ⟨b, 0, none⟩ rfl _⟩
  · have c0 := h.cell0
    have HH := hide h
    clear h
    go_enter Tryz.func127, Tryz.ntmps127
    go_wp2
    rw [Lib.run_neq_ptr_same w _ Tryz.underlying125 hi]
    go_wp2
    go_end0
    exact ⟨rfl, HH.out, Below.refl B _, Lib.OthersKept.refl _ _ _⟩

set_option maxRecDepth 100000 in
set_option maxHeartbeats 2000000 in
theorem write_k (B b : Nat) (bs : List Value) (s : ByteArray) (w : World) (h : Lib.IsBuilderF 128 5 B b bs w) (hlen : bs.length + s.size ≤ 1000000) (hBw : B ≤ w.heap.size) :
    Calls Tryz.prog 110 #[.pointer (some ⟨b, 0, none⟩), .string s] w fun e w' => e = .returned (.tuple #[.int .i64 s.size, .nilIface]) ∧ Lib.BuilderAtF 128 5 B b (.pointer (some ⟨b, 0, none⟩)) (bs ++ Lib.strCells s) w' ∧ Below B w w' ∧ Lib.OthersKept 5 (some b) w w' := by
  obtain ⟨i0, hi, hz0, hz1, hz2⟩ := info_parts bd_byte
  have HC := hide (check_k B b bs w h)
  clear h
  go_enter Tryz.func110, Tryz.ntmps110
  go_wp2_with fail
  refine HC.out.mono ?_
  rintro e w1 ⟨rfl, ⟨hB, v, hbk, hown, hne⟩, hb1, hk1⟩
  have hsz1 : B ≤ w1.heap.size := Nat.le_trans hBw hb1.size
  have c0 : w1.cell? ⟨b, 0, none⟩ = some (.pointer (some ⟨b, 0, none⟩)) := by rw [Lib.cell_of_heap hbk]; rfl
  have c1 : w1.cell? ⟨b, 1, none⟩ = some v := by rw [Lib.cell_of_heap hbk]; rfl
  go_wp2_with (at_builtin; refine Lib.wpList_append_own_stringF _ rfl _ _ 126 9 rfl B 5 i0 Tryz.underlying126 Tryz.underlying9 hi hz0 hz1 hz2 _ _ _ rfl hown s rfl (by unfold maxLen; omega) (by omega) (by omega) ?_)
  intro v' w2 hown' hgrow _
  have hlt : b < w1.heap.size := (Array.getElem?_eq_some_iff.1 hbk).1
  have hb2 : w2.heap[b]? = some (.cells #[.pointer (some ⟨b, 0, none⟩), v] 128 (0, 0)) := (hgrow.block b hlt (fun e => hne e.symm)).trans hbk
  have d0 : w2.cell? ⟨b, 0, none⟩ = some (.pointer (some ⟨b, 0, none⟩)) := by rw [Lib.cell_of_heap hb2]; rfl
  have d1 : w2.cell? ⟨b, 1, none⟩ = some v := by rw [Lib.cell_of_heap hb2]; rfl
  have f1 : w2.frozen? ⟨b, 1, none⟩ = false := Lib.frozen_of_heap hb2 1
  obtain ⟨ao, n', cap, rfl⟩ : ∃ ao n' cap, v' = .slice ao n' cap := by
    rcases hown'.2 with ⟨hv, _⟩ | ⟨g, cap, cur, fz, hv, _⟩
    · exact ⟨_, _, _, hv⟩
    · exact ⟨_, _, _, hv⟩
  go_wp2
  go_ret2
  refine ⟨rfl, ?_, ?_, (hk1.grown hgrow (Lib.ownsRowF_kind hown)).setCell ⟨b, 1, none⟩ rfl _⟩
  · exact Lib.BuilderAtF.put (T := 128) (e := 5) hB hb2 (bs' := bs ++ Lib.strCells s) (by simpa [Lib.strCells_length] using hown') (by decide)
  · exact (hb1.grown hgrow hsz1 (fun k hk => (hown.lt k hk).1)).setCell (p := ⟨b, 1, none⟩) hB _

set_option maxRecDepth 100000 in
set_option maxHeartbeats 4000000 in
theorem rune_k (B b : Nat) (bs : List Value) (r : Int) (hr0 : 0 ≤ r) (hr1 : r < 128) (w : World) (h : Lib.IsBuilderF 128 5 B b bs w) (hlen : bs.length ≤ 1000000) (hBw : B ≤ w.heap.size) :
    Calls Tryz.prog 139 #[.pointer (some ⟨b, 0, none⟩), .int .i32 r] w fun e w' => (∃ v, e = .returned v) ∧ Lib.BuilderAtF 128 5 B b (.pointer (some ⟨b, 0, none⟩)) (bs ++ Lib.runeCells r) w' ∧ Below B w w' ∧ Lib.OthersKept 5 (some b) w w' := by
  have HC := hide (check_k B b bs w h)
  have hk4 := Lib.runeCells_le r
  clear h
  go_enter Tryz.func139, Tryz.ntmps139
  go_wp2_with fail
  refine HC.out.mono ?_
  rintro e w1 ⟨rfl, ⟨hB, v, hbk, hown, hne⟩, hb1, hk1⟩
  have hsz1 : B ≤ w1.heap.size := Nat.le_trans hBw hb1.size
  obtain ⟨ao, cap, rfl⟩ : ∃ ao cap, v = .slice ao bs.length cap := by
    rcases hown.2 with ⟨hv, h0⟩ | ⟨g, cap, cur, fz, hv, _⟩
    · exact ⟨none, 0, by rw [hv, h0]⟩
    · exact ⟨_, _, hv⟩
  have c0 : w1.cell? ⟨b, 0, none⟩ = some (.pointer (some ⟨b, 0, none⟩)) := by rw [Lib.cell_of_heap hbk]; rfl
  have c1 : w1.cell? ⟨b, 1, none⟩ = some (.slice ao bs.length cap) := by rw [Lib.cell_of_heap hbk]; rfl
  have HA := hide (Tryz.utf8_AppendRune_row B _ bs.length bs r (by omega) (by omega) w1 hown (by omega) hsz1)
  go_wp2_with fail
  refine HA.out.mono ?_
  rintro e w2 ⟨v', rfl, hown', o, hgrow⟩
  have hlt : b < w1.heap.size := (Array.getElem?_eq_some_iff.1 hbk).1
  have hb2 : w2.heap[b]? = some (.cells #[.pointer (some ⟨b, 0, none⟩), .slice ao bs.length cap] 128 (0, 0)) := by
    rw [hgrow.block b (by simp; omega) (fun e => hne e.symm), Lib.alloc_old w1 _ b hlt]
    exact hbk
  have d0 : w2.cell? ⟨b, 0, none⟩ = some (.pointer (some ⟨b, 0, none⟩)) := by rw [Lib.cell_of_heap hb2]; rfl
  have d1 : w2.cell? ⟨b, 1, none⟩ = some (.slice ao bs.length cap) := by rw [Lib.cell_of_heap hb2]; rfl
  have f1 : w2.frozen? ⟨b, 1, none⟩ = false := Lib.frozen_of_heap hb2 1
  obtain ⟨g, cap', rfl⟩ : ∃ g cap', v' = .slice (some ⟨g, 0, none⟩) (bs.length + (Lib.runeCells r).length) cap' := by
    rcases hown'.2 with ⟨_, h0⟩ | ⟨g, cap', cur, fz, hv, _⟩
    · omega
    · exact ⟨g, cap', hv⟩
  clear HA HC
  go_wp2
  go_ret2
  refine ⟨⟨_, rfl⟩, ?_, ?_, ((hk1.alloc _).grown hgrow (Lib.ownsRowF_kind (hown.alloc _))).setCell ⟨b, 1, none⟩ rfl _⟩
  · exact Lib.BuilderAtF.put (T := 128) (e := 5) hB hb2 (bs' := bs ++ Lib.runeCells r) (by simpa using hown') (by decide)
  · exact ((hb1.alloc hsz1 _).grown hgrow (by simp; omega) (fun k hk => (hown.lt k hk).1)).setCell (p := ⟨b, 1, none⟩) hB _

end Go.Proofs.YtdmlamnonbmboaaGreatDoor
