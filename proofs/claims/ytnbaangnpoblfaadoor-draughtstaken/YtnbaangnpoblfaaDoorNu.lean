/-
  The numbers of a way's places; what the other sees behind a way: walked. No conditions beyond those that each theorem bears.
-/
import Derived.Test.YtnbaangnpoblfaaDoorWy
import Derived.BigRegion
namespace Go.Proofs.YtnbaangnpoblfaaDoor
open Go.RowKit Go.Shelf

/-- An empty row. -/
def zer (n : Nat) : List Int := List.replicate n 0

theorem made_zer (n : Nat) : (madeCells #[Value.int .i64 0] n).toList = (zer n).map (Value.int .i64) := by
  rw [zer, List.map_replicate]
  apply List.ext_getElem
  · simp [madeCells]
  · intro i h1 h2
    simp [madeCells, Nat.mod_one]

theorem make_row (n : Nat) (hn : n ≤ 1000000) (W1 : World) : ∃ w', (Instr.makeSlice 22 (.int .i64 (n : Int)) (.int .i64 (n : Int))).run Tryd.prog W1 = .ok (.slice (some ⟨W1.heap.size, 0, none⟩) n n) w' ∧ w'.ownsRow W1.heap.size 3 1 (.slice (some ⟨W1.heap.size, 0, none⟩) n n) n ((zer n).map (Value.int .i64)) ∧ W1.grownBy w' none := by
  obtain ⟨i0, hi, hz0, hz1, hz2⟩ := info_parts Tryd.info3
  obtain ⟨w', hrun, r1, r2⟩ := run_make_full (P := Tryd.prog) W1 W1.heap.size 22 3 i0 (.int .i64 0) 1 Tryd.underlying22 hi hz0 hz1 .i64 .i64 n (by rw [hz2]; omega) (by unfold maxLen; omega) (Nat.le_refl _)
  refine ⟨w', hrun, ?_, r2⟩
  rw [← made_zer]
  simpa [Value.cells] using r1

/-- The world while a row of the call's own is written: its cells are Y. -/
structure PW (w3 : World) (B cb n cc : Nat) (wr : World) (Y : List Int) : Prop where
  k : Keeps (fun k => k = cb) w3 wr
  o : wr.ownsRow B 3 1 (.slice (some ⟨cb, 0, none⟩) n cc) n (Y.map (Value.int .i64))

theorem PW.set {w3 : World} {B cb n cc : Nat} {wr : World} {Y : List Int} (h : PW w3 B cb n cc wr Y) (Q : Nat) (x : Int) : PW w3 B cb n cc (wr.setCell ⟨cb, Q, none⟩ (.int .i64 x)) (Y.set Q x) := by
  refine ⟨h.k.setCell (X := fun k => k = cb) rfl _, ?_⟩
  have := (World.ownsRow.stored h.o Q (.int .i64 x)).1
  rwa [← List.map_set] at this

theorem PW.cell {w3 : World} {B cb n cc : Nat} {wr : World} {Y : List Int} (h : PW w3 B cb n cc wr Y) {Q : Nat} (hQ : Q < n) : (∃ v, wr.cell? ⟨cb, Q, none⟩ = some (.int .i64 v)) ∧ wr.frozen? ⟨cb, Q, none⟩ = false := by
  refine ⟨?_, World.ownsRow.frozenAt h.o Q⟩
  have hl : Y.length = n := by simpa using h.o.1
  exact ⟨Y.getD Q 0, by rw [World.ownsRow.cellAt h.o Q (by omega)]; simp [List.getD, hl, hQ]⟩

def pw2 (k : Nat) : Nat := 2 ^ k
/-- The row while numbers are written. -/
def nuL (ks : List Nat) (j : Nat) : List Int := toI ((ks.take j).map numb) ++ zer (ks.length - j)
theorem nuL_zero (ks : List Nat) : nuL ks 0 = zer ks.length := by simp [nuL, toI]
theorem nuL_end (ks : List Nat) : nuL ks ks.length = toI (ks.map numb) := by simp [nuL, zer]
theorem nuL_set {ks : List Nat} {j : Nat} (hj : j < ks.length) : (nuL ks j).set j ((numb (ks.getD j 0) : Nat) : Int) = nuL ks (j + 1) := by
  unfold nuL
  have hl : (toI ((ks.take j).map numb)).length = j := by simp [toI]; omega
  have hs : (toI ((ks.take j).map numb) ++ zer (ks.length - j)).set j ((numb (ks.getD j 0) : Nat) : Int) = toI ((ks.take j).map numb) ++ (zer (ks.length - j)).set 0 ((numb (ks.getD j 0) : Nat) : Int) := by
    rw [List.set_append_right _ _ (by omega), hl, Nat.sub_self]
  have hg : ks.getD j 0 = ks[j] := by simp [List.getD, hj]
  rw [hs, show zer (ks.length - j) = 0 :: zer (ks.length - (j + 1)) by unfold zer; rw [show ks.length - j = (ks.length - (j + 1)) + 1 by omega, List.replicate_succ], hg, List.take_succ_eq_append_getElem hj]
  simp only [toI, List.map_append, List.map_cons, List.map_nil, List.append_assoc, List.cons_append, List.nil_append, List.set_cons_zero]

attribute [local irreducible] wyL numb nuL

set_option maxRecDepth 100000 in
set_option maxHeartbeats 4000000 in
theorem numbers_any (ks : List Nat) (ov : Nat) (h13 : ks.length ≤ 13) (hk : ∀ k ∈ ks, k < 64) (w : World) (hT : TzT w) :
    Calls Tryd.prog 36 #[.agg (wyL (ks.map pw2) ov).toArray] w fun e w' => ∃ a c, e = .returned (.slice a ks.length c) ∧ w'.ownsRow w.heap.size 3 1 (.slice a ks.length c) ks.length ((toI (ks.map numb)).map (Value.int .i64)) ∧ Below w.heap.size w w' := by
  have hml : (ks.map pw2).length = ks.length := List.length_map ..
  have HAT : Hid (∀ j, j < ks.length → (wyL (ks.map pw2) ov)[j]? = some (.int .u64 (2 ^ ks.getD j 0 : Nat))) := hide (fun j hj => by
    rw [wy_at (by omega) (by omega)]
    have : (ks.map pw2).getD j 0 = 2 ^ ks.getD j 0 := by simp [List.getD, hj, pw2]
    rw [this])
  have HNM : Hid (∀ j, j < ks.length → ∀ W, TzT W → Calls Tryd.prog 66 #[.int .u64 (2 ^ ks.getD j 0 : Nat)] W fun e w' => e = .returned (.int .i64 (numb (ks.getD j 0) : Nat)) ∧ w' = W) := hide (fun j hj W h => number_any _ (hk _ (by simp [List.getD, hj])) W h)
  have HSET := hide (fun j (hj : j < ks.length) => nuL_set hj)
  have HZ := hide (nuL_zero ks)
  have HEND := hide (nuL_end ks)
  obtain ⟨w1, hw1⟩ : ∃ w1, w.alloc (.cells (wyL (ks.map pw2) ov).toArray 65) = w1 := ⟨_, rfl⟩
  have HB1 : Hid (Below w.heap.size w w1) := hide (by rw [← hw1]; exact (Below.refl _ _).alloc (Nat.le_refl _) _)
  have V1 : Vb w1 w.heap.size 65 (wyL (ks.map pw2) ov) := by rw [← hw1]; exact Vb.new _ _ _
  have c13 := V1.cell (wy_long (ov := ov) (W := ks.map pw2) (by omega))
  rw [hml] at c13
  have HV1 := hide V1
  have HT1 := hide (hT.mono HB1.out)
  obtain ⟨w2, hrun, hO2, hg2⟩ := make_row ks.length (by omega) w1
  have B12 : Below w1.heap.size w1 w2 := (Below.refl _ w1).grown hg2 (Nat.le_refl _) (fun j hj => by cases hj)
  have HP2 : Hid (PW w2 w1.heap.size w1.heap.size ks.length ks.length w2 (zer ks.length)) := hide ⟨Keeps.refl _ _, hO2⟩
  have HV2 := hide (HV1.out.mono B12)
  have HT2 := hide (HT1.out.mono B12)
  have HB2 := hide (HB1.out.trans (B12.mono HB1.out.size))
  have HWW : Hid (w.heap.size < w1.heap.size ∧ 1 < w1.heap.size) := hide ⟨HV1.out.lt, HT1.out.lt⟩
  obtain ⟨R, hR⟩ : ∃ R, toI (ks.map numb) = R := ⟨_, rfl⟩
  rw [hR] at HEND ⊢
  obtain ⟨n, hn⟩ : ∃ n, ks.length = n := ⟨_, rfl⟩
  rw [hn] at HAT HNM HSET HZ HEND c13 hrun HP2 h13 ⊢
  generalize hWL : wyL (ks.map pw2) ov = WL at *
  have c13' := HV2.out.cell (show WL[13]? = some (.int .i64 (n : Nat)) by rw [← hWL, wy_long (by omega), hml, hn])
  clear hO2 hg2 B12 V1 hT hk hml hR hn HV1 HT1 hWL
  go_enter Tryd.func36, Tryd.ntmps36
  go_upto_region 1 with fail
  clear hw1
  go_upto_region 2 with fail
  clear hrun c13
  go_wp2_with fail
  clear c13'
  go_loopw [10] (fun v wr => ∃ j : Nat, v = .int .i64 j ∧ j ≤ n ∧ Hid (PW w2 w1.heap.size w1.heap.size n n wr (nuL ks j))) (fun v _ => n - (intOf v).toNat)
  case atStart => exact ⟨0, rfl, by omega, hide (by rw [HZ.out]; exact HP2.out)⟩
  case round =>
    obtain ⟨j, rfl, hj, hP⟩ := hrel
    by_cases hjn : j < n
    · have hjn' : (j : Int) < n := by omega
      have hww := HWW.out
      have HTr := hide (HT2.out.keeps hP.out.k (by omega))
      have hj13 : (j : Int) < 13 := by omega
      have c0 := (HV2.out.keeps hP.out.k (by omega)).cell (HAT.out j hjn)
      obtain ⟨⟨v1, c1⟩, f1⟩ := hP.out.cell (show j < n by omega)
      have HC := hide (HNM.out j hjn wr HTr.out)
      have HS := hide (hP.out.set j ((numb (ks.getD j 0) : Nat) : Int))
      rw [HSET.out j hjn] at HS
      generalize (2 ^ ks.getD j 0 : Nat) = K2 at *
      generalize numb (ks.getD j 0) = NB at *
      clear hww
      go_wp2_with fail
      refine HC.out.mono ?_
      rintro e w3 ⟨rfl, hw3⟩
      subst w3
      go_wp2_with fail
      refine ⟨⟨j + 1, by go_num, by omega, HS⟩, by simp [intOf]; omega⟩
    · obtain rfl : j = n := by omega
      have HO : Hid (wr.ownsRow w.heap.size 3 1 (.slice (some ⟨w1.heap.size, 0, none⟩) j j) j (R.map (Value.int .i64))) := hide (by
        have := hP.out.o
        rw [HEND.out] at this
        exact own_base this (by have := HWW.out; omega))
      have HBB : Hid (Below w.heap.size w wr) := hide (HB2.out.trans (hP.out.k.below HB2.out.size (fun k hk e => by have := HWW.out; omega)))
      go_wp2_with fail
      go_ret
      exact ⟨_, _, rfl, HO.out, HBB.out⟩

end Go.Proofs.YtnbaangnpoblfaaDoor
