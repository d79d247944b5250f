/-
  Chess: where a king stands; small functions of the document. No conditions beyond those that each theorem bears.
  Chess: the places between two, one by one. No conditions beyond those that each theorem bears.
  Chess: the document's attack, walked. No conditions beyond those that each theorem bears.
  Chess: sets of places, a bit each: the lowest one, and all, one by one. No conditions beyond those that each theorem bears.
-/
import Derived.Test.YtdmlamnonbmboaaGreatDoorV07
import Derived.Test.YtdmlamnonbmboaaGreatDoorV01
import Derived.Test.YtdmlamnonbmboaaGreatDoorV09
import Derived.Test.YtdmlamnonbmboaaGreatDoorV05
import Derived.Laws.Bits64b
import Derived.Laws.BitsAllLaws
namespace Go.Proofs.YtdmlamnonbmboaaGreatDoor
open Go.RowKit Go.Shelf

/-- The first place of a number. -/
def Fst (Z : List Int) (x : Int) (k : Nat) : Prop := k < 64 ∧ zg Z k = x ∧ ∀ j, j < k → zg Z j ≠ x

theorem index_king (a : Option Addr) (c : Nat) (Z : List Int) (x : Int) (k : Nat) (hk : Fst Z x k) (w : World) (h : Rd w a 64 c Z) :
    Calls Tryz.prog 77 #[.slice a 64 c, .int .i64 x] w fun e w' => e = .returned (.int .i64 (k : Nat)) ∧ w' = w := by
  have hcm := h.max
  unfold maxLen at hcm
  have hcc := h.cap
  obtain ⟨b, off, rfl, hc⟩ := h.cells (by omega)
  obtain ⟨hk64, hkx, hkn⟩ := hk
  have HC : Hid (∀ i, i < 64 → w.cell? ⟨b, off + i, none⟩ = some (.int .i64 (zg Z i))) := hide hc
  have HKX := hide hkx
  have HKN := hide hkn
  clear h hc hkx hkn
  go_enter Tryz.func77, Tryz.ntmps77
  go_wp2_with fail
  go_loopw [8] (fun v wr => ∃ i : Nat, v = .int .i64 i ∧ i ≤ k ∧ w = wr) (fun v _ => 64 - (intOf v).toNat)
  case atStart => exact ⟨0, rfl, by omega, rfl⟩
  case round =>
    obtain ⟨i, rfl, hi, rfl⟩ := hrel
    have hlt' : (i : Int) < 64 := by omega
    have cx := HC.out i (by omega)
    by_cases e : i = k
    · subst e
      rw [HKX.out] at cx
      go_wp2_with fail
      go_ret
      exact ⟨rfl, rfl⟩
    · have hb : (x == zg Z i) = false := by simpa using fun h => HKN.out i (by omega) h.symm
      generalize zg Z i = z at *
      go_wp2_with fail
      exact ⟨⟨i + 1, by go_num, by omega, trivial⟩, by simp [intOf]; omega⟩

end Go.Proofs.YtdmlamnonbmboaaGreatDoor

namespace Go.Proofs.YtdmlamnonbmboaaGreatDoor
set_option maxRecDepth 20000

/-- How many steps a place is away. -/
def jz (f t q : Nat) : Nat := ((List.range 8).takeWhile fun j => !(Nat.beq (bt f t j) q)).length

theorem tab_K : ((List.range 64).all fun f => (List.range 64).all fun t => (decide (dX f t = 0) && decide (dY f t = 0)) || !(slant f t || strai f t) || (Nat.ble 1 (mD f t) && Nat.ble (mD f t) 7 && (List.range (mD f t)).all fun j => decide (((bt f t j : Nat) : Int) = (f : Int) + ((j : Int) + 1) * sD f t) && Nat.blt (bt f t j) 64 && (Nat.beq (bt f t j) t == Nat.beq (j + 1) (mD f t)) && Nat.beq (jz f t (bt f t j)) j)) = true := by decide +kernel

theorem mD_bd {f t : Nat} (hf : f < 64) (ht : t < 64) (hne : ¬ (dX f t = 0 ∧ dY f t = 0)) (ha : (slant f t || strai f t) = true) : 1 ≤ mD f t ∧ mD f t ≤ 7 ∧
    ∀ j, j < mD f t → ((bt f t j : Nat) : Int) = (f : Int) + ((j : Int) + 1) * sD f t ∧ bt f t j < 64 ∧ (bt f t j = t ↔ j + 1 = mD f t) ∧ jz f t (bt f t j) = j := by
  have h := all64 (all64 tab_K hf) ht
  have hn : (decide (dX f t = 0) && decide (dY f t = 0)) = false := by
    by_cases h1 : dX f t = 0 <;> by_cases h2 : dY f t = 0 <;> simp [h1, h2] at hne ⊢
  rw [hn, ha] at h
  simp only [Bool.not_true, Bool.or_self, Bool.false_or, Bool.and_eq_true] at h
  obtain ⟨⟨h1, h2⟩, h3⟩ := h
  refine ⟨Nat.le_of_ble_eq_true h1, Nat.le_of_ble_eq_true h2, fun j hj => ?_⟩
  have h4 := allN h3 hj
  simp only [Bool.and_eq_true, decide_eq_true_eq, beq_iff_eq] at h4
  obtain ⟨⟨⟨a1, a2⟩, a3⟩, a4⟩ := h4
  refine ⟨a1, Nat.blt_eq ▸ a2, ?_, Nat.eq_of_beq_eq_true a4⟩
  constructor
  · intro e
    rw [e] at a3
    rw [Nat.beq_refl] at a3
    exact Nat.eq_of_beq_eq_true a3.symm
  · intro e
    rw [e, Nat.beq_refl] at a3
    exact Nat.eq_of_beq_eq_true a3

theorem bt_succ {f t j : Nat} (hf : f < 64) (ht : t < 64) (hne : ¬ (dX f t = 0 ∧ dY f t = 0)) (ha : (slant f t || strai f t) = true) (hj : j + 1 < mD f t) : ((bt f t j : Nat) : Int) + sD f t = ((bt f t (j + 1) : Nat) : Int) := by
  obtain ⟨-, -, h⟩ := mD_bd hf ht hne ha
  rw [(h j (by omega)).1, (h (j + 1) hj).1, Int.natCast_succ, Int.add_mul ((j : Int) + 1) 1, Int.one_mul]
  omega

theorem bt_zero {f t : Nat} (hf : f < 64) (ht : t < 64) (hne : ¬ (dX f t = 0 ∧ dY f t = 0)) (ha : (slant f t || strai f t) = true) : (f : Int) + sD f t = ((bt f t 0 : Nat) : Int) := by
  obtain ⟨h1, -, h⟩ := mD_bd hf ht hne ha
  rw [(h 0 (by omega)).1]
  simp

theorem sg_bd (x : Int) : -1 ≤ sg x ∧ sg x ≤ 1 := by
  unfold sg
  split
  · omega
  · split <;> omega

theorem dXY_bd {f t : Nat} (hf : f < 64) (ht : t < 64) : -7 ≤ dX f t ∧ dX f t ≤ 7 ∧ -7 ≤ dY f t ∧ dY f t ≤ 7 := by
  unfold dX dY
  omega

theorem mul_bd {x y : Int} (hx : -7 ≤ x ∧ x ≤ 7) (hy : -7 ≤ y ∧ y ≤ 7) : -49 ≤ x * y ∧ x * y ≤ 49 := by
  have h : (x * y).natAbs ≤ 7 * 7 := by
    rw [Int.natAbs_mul]
    exact Nat.mul_le_mul (by omega) (by omega)
  omega

/-- So far nothing is in the way. -/
theorem btw_end {Z : List Int} {f t j : Nat} (hj : j + 1 = mD f t) (h : ∀ i, i < j → zg Z (bt f t i) = 0) : ((btw f t).all fun k => zg Z k == 0) = true := by
  rw [List.all_eq_true]
  intro k hk
  simp only [btw, List.mem_map, List.mem_range] at hk
  obtain ⟨i, hi, rfl⟩ := hk
  simpa using h i (by omega)
theorem btw_no {Z : List Int} {f t j : Nat} (hj : j + 1 < mD f t) (h : zg Z (bt f t j) ≠ 0) : ((btw f t).all fun k => zg Z k == 0) = false := by
  rw [Bool.eq_false_iff]
  intro e
  rw [List.all_eq_true] at e
  have := e (bt f t j) (by simp only [btw, List.mem_map, List.mem_range]; exact ⟨j, by omega, rfl⟩)
  exact h (by simpa using this)

end Go.Proofs.YtdmlamnonbmboaaGreatDoor

namespace Go.Proofs.YtdmlamnonbmboaaGreatDoor
open Go.RowKit Go.Shelf

/-- A number's size. -/
def nab (x : Int) : Nat := x.natAbs

theorem nab_le {x : Int} {n : Nat} (h1 : -(n : Int) ≤ x) (h2 : x ≤ n) : nab x ≤ n := by unfold nab; omega
theorem nab_zero {x : Int} : x = 0 ↔ nab x = 0 := by unfold nab; omega
theorem slant_eq (f t : Nat) : slant f t = (nab (dX f t) == nab (dY f t)) := rfl
theorem atR_eq (Z : List Int) (f t : Nat) : atR Z f t = if dX f t = 0 ∧ dY f t = 0 then false
      else if nab (zg Z f) = 1 then nab (dX f t) == 1 && dY f t == zg Z f
      else if nab (zg Z f) = 2 then nab (dX f t * dY f t) == 2
      else if nab (zg Z f) = 6 then decide (nab (dX f t) ≤ 1) && decide (nab (dY f t) ≤ 1)
      else if zg Z f = 0 ∨ (slant f t = false ∧ strai f t = false) ∨ (nab (zg Z f) = 3 ∧ slant f t = false) ∨ (nab (zg Z f) = 4 ∧ strai f t = false) then false
      else (btw f t).all fun k => zg Z k == 0 := rfl

attribute [local irreducible] bt btw mD jz sg nab

end Go.Proofs.YtdmlamnonbmboaaGreatDoor

namespace Go.Proofs.YtdmlamnonbmboaaGreatDoor
open Go.RowKit Go.Shelf

theorem p64 : (2 : Nat) ^ 64 = 18446744073709551616 := rfl

/-- The table of package bits. -/
def tabL : List Nat := [0, 1, 56, 2, 57, 49, 28, 3, 61, 58, 42, 50, 38, 29, 17, 4, 62, 47, 59, 36, 45, 43, 51, 22, 53, 39, 33, 30, 24, 18, 12, 5, 63, 55, 48, 27, 60, 41, 37, 16, 46, 35, 44, 21, 52, 32, 23, 11, 54, 26, 40, 15, 34, 20, 31, 10, 25, 14, 19, 9, 13, 8, 7, 6]

def TzT (w : World) : Prop := ∀ i, i < 64 → w.cell? ⟨2, i, none⟩ = some (.int .u8 (tabL.getD i 0))

theorem TzT.keeps {X : Nat → Prop} {w w' : World} (h : TzT w) (hk : Keeps X w w') (hX : ¬ X 2) : TzT w' := fun i hi => hk.cell (h i hi) hX
theorem TzT.lt {w : World} (h : TzT w) : 2 < w.heap.size := World.block_lt_of_cell? w _ (h 0 (by omega))
theorem TzT.mono {w w' : World} (h : TzT w) (hb : Below w.heap.size w w') : TzT w' := fun i hi => (hb.cell (p := ⟨2, i, none⟩) h.lt).trans (h i hi)

theorem tab_k : ∀ k, k < 64 → tabL.getD (2 ^ k * 285870213051353865 % 18446744073709551616 / 288230376151711744) 0 = k := by decide +kernel

theorem cast_ix (A : Nat) : ((A : Nat) : Int) * 285870213051353865 % 18446744073709551616 / 288230376151711744 = ((A * 285870213051353865 % 18446744073709551616 / 288230376151711744 : Nat) : Int) := by
  generalize h : A * 285870213051353865 = X
  have hx : (A : Int) * 285870213051353865 = (X : Int) := by rw [← h]; exact (Int.natCast_mul _ _).symm
  rw [hx]
  exact (congrArg (· / (288230376151711744 : Int)) (Int.natCast_emod X 18446744073709551616).symm).trans (Int.natCast_ediv _ _).symm

theorem low_facts {r k q : Nat} (hr : r < 2 ^ 64) (e : r = 2 ^ k * (2 * q + 1)) : bits BinOp.and IntKind.u64 (r : Int) (IntKind.u64.wrap (-(r : Int))) = ((2 ^ k : Nat) : Int) ∧ bits BinOp.and IntKind.u64 (r : Int) (IntKind.u64.wrap ((r : Int) - 1)) = ((r &&& (r - 1) : Nat) : Int) ∧ k < 64 := by
  have hp : 0 < r := by rw [e]; exact Nat.mul_pos (Nat.two_pow_pos k) (by omega)
  have ha := bit_alone k q (e ▸ hr)
  rw [← e] at ha
  have hr' := hr
  rw [p64] at hr'
  refine ⟨?_, ?_, low_lt k q (e ▸ hr)⟩
  · have w1 : IntKind.u64.wrap (-(r : Int)) = ((2 ^ 64 - r : Nat) : Int) := by rw [IntKind.wrap_u64]; omega
    rw [w1, u64_and_nat r (2 ^ 64 - r) hr' (by omega), ha]
  · have w1 : IntKind.u64.wrap ((r : Int) - 1) = ((r - 1 : Nat) : Int) := by rw [IntKind.wrap_u64]; omega
    rw [w1, u64_and_nat r (r - 1) hr' (by omega)]

set_option maxRecDepth 100000 in
set_option maxHeartbeats 1000000 in
theorem tz_any (m k q : Nat) (h : m < 2 ^ 64) (e : m = 2 ^ k * (2 * q + 1)) (w : World) (hT : TzT w) :
    Calls Tryz.prog 90 #[.int .u64 (m : Nat)] w fun e w' => e = .returned (.int .i64 k) ∧ w' = w := by
  have hk : k < 64 := (low_facts h e).2.2
  have ha := (low_facts h e).1
  have hp : 0 < m := by rw [e]; exact Nat.mul_pos (Nat.two_pow_pos k) (by omega)
  have ht := tab_k k hk
  obtain ⟨i, hi⟩ : ∃ i, 2 ^ k * 285870213051353865 % 18446744073709551616 / 288230376151711744 = i := ⟨_, rfl⟩
  rw [hi] at ht
  have hi64 : i < 64 := by rw [← hi]; omega
  have c1 := hT i hi64
  rw [ht] at c1
  have e1 : IntKind.u64.wrap (bits BinOp.and IntKind.u64 (m : Int) (IntKind.u64.wrap (-(m : Int))) * 285870213051353865) / 288230376151711744 = (i : Int) := by
    rw [ha, IntKind.wrap_u64, ← hi]
    exact cast_ix (2 ^ k)
  have hi64' : (i : Int) < 64 := by omega
  clear ha hi ht hT h e
  have hz : ((m : Int) == 0) = false := by simp; omega
  go_enter Tryz.func90, Tryz.ntmps90
  go_wp2
  go_ret
  exact ⟨rfl, rfl⟩

/-- What 'each' has captured. -/
def EaR (bp M : Nat) (W : World) : Prop := W.cell? ⟨bp, 0, none⟩ = some (.int .u64 (M : Nat)) ∧ TzT W
def EaG (q : Nat) (args : Array Value) (_ : World) : Prop := args = #[.int .i64 (q : Nat)]

theorem each_any (M : Nat) (w : World) : Calls Tryz.prog 63 #[.int .u64 (M : Nat)] w fun e w' => e = .returned (.func (.func 89) #[] #[.pointer (some ⟨w.heap.size, 0, none⟩)]) ∧ w' = w.alloc (.cells #[.int .u64 (M : Nat)] 87) := by
  go_enter Tryz.func63, Tryz.ntmps63
  go_wp2
  go_ret
  exact ⟨rfl, rfl⟩

theorem just_any (q : Nat) (hq : q < 64) (w : World) : Calls Tryz.prog 65 #[.int .i64 (q : Nat)] w fun e w' => e = .returned (.int .u64 (2 ^ q : Nat)) ∧ w' = w := by
  have h1 : IntKind.u64.wrap (2 ^ q) = ((2 ^ q : Nat) : Int) := by
    have h2 : 2 ^ q < 2 ^ 64 := Nat.pow_lt_pow_right (by omega) hq
    rw [IntKind.wrap_u64, show (2 : Int) ^ q = ((2 ^ q : Nat) : Int) by rw [Int.natCast_pow]; rfl]
    rw [p64] at h2
    generalize 2 ^ q = x at *
    omega
  have hq' : (q : Int) < 64 := by omega
  go_enter Tryz.func65, Tryz.ntmps65
  go_wp2
  go_ret
  exact ⟨by first | rfl | (rw [← h1]; simp) , rfl⟩

attribute [local irreducible] bln From
attribute [local go_sem] Oper.semAt_some wide_fn wide_fn0 wide_depth

set_option maxRecDepth 100000 in
set_option maxHeartbeats 4000000 in
theorem each1_o (bp M : Nat) (hM : M < 2 ^ 64) :
    SeqO Tryz.prog 89 #[.pointer (some ⟨bp, 0, none⟩)] EaG (bln M 64) (EaR bp M) (fun k => k = bp ∨ k = 2) := by
  intro l J Jx N0 W O0 hR hN hC hY h0
  have HY := hide hY
  have HC := hide hC
  have HJ0 := hide h0
  have HN := hide hN
  have cp : W.cell? ⟨bp, 0, none⟩ = some (.int .u64 (M : Nat)) := hR.1
  have HTT : Hid (∀ W', Keeps O0 W W' → TzT W') := hide (fun W' hk => hR.2.keeps hk (fun h => ((hC.lt _ _ _ h0) 2 h).2 (Or.inr rfl)))
  clear hR hY h0 hC hN
  refine callsIn_of_wp Tryz.func89 rfl trivial ?_ rfl
  simp only [Tryz.ntmps89, List.size_toArray, List.length_cons, List.length_nil, Nat.reduceAdd, Nat.reduceSub, Array.replicate_succ, Array.replicate_zero, List.push_toArray, List.append_toArray, List.nil_append, List.cons_append]
  refine wpIn_wide.2 ?_
  go_wp2_with fail
  clear cp
  have HM := hide hM
  clear hM
  go_loopw [3] (fun v wr => ∃ r lo : Nat, v = .int .u64 r ∧ lo ≤ 64 ∧ Hid (r < 2 ^ 64) ∧ Hid (From M r lo) ∧ Hid (∃ O, J O (bln M lo) wr ∧ (∀ k, k < W.heap.size → O k → O0 k)) ∧ Hid (Keeps O0 W wr)) (fun v _ => (intOf v).toNat)
  case atStart => exact ⟨M, 0, rfl, by omega, HM, hide (from_zero M), hide ⟨O0, by rw [bln_zero]; exact HJ0.out, fun _ _ h => h⟩, hide (Keeps.refl _ _)⟩
  case round =>
    obtain ⟨r, lo, rfl, hlo, hrb, hF, hJr, hKr⟩ := hrel
    clear HJ0
    by_cases hr : r = 0
    · subst hr
      have HE : Hid (∃ O, J O (bln M 64) wr ∧ (∀ k, k < W.heap.size → O k → O0 k)) := hide (by rw [← bln_end hF.out hlo]; exact hJr.out)
      have hz : (((0 : Nat) : Int) != 0) = false := by rfl
      clear hJr hF
      go_wp2_with fail
      refine bodyPost_end (results_none rfl _ _ _) rfl ?_
      obtain ⟨O, h1, h2⟩ := HE.out
      exact ⟨⟨_, rfl⟩, hKr.out, O, h2, .inl h1⟩
    · have hz : ((r : Int) != 0) = true := u64_ne hr
      obtain ⟨k, q, hk⟩ := low_split r hr
      obtain ⟨e1, e2, hk64⟩ := low_facts hrb.out hk
      have HST := hide (from_step M r lo k q hF.out hk)
      have HB := hide (bln_step hF.out hk)
      have HPP : Hid ((bln M lo ++ [k]) <+: bln M 64) := hide (by rw [← HB.out]; exact bln_pre (by omega))
      obtain ⟨d, hd⟩ : ∃ d, r &&& (r - 1) = d := ⟨_, rfl⟩
      rw [hd] at e2 HST
      have HDL : Hid (d < r) := hide (by rw [← hd]; have := Nat.and_le_right (n := r) (m := r - 1); omega)
      have HTZ := hide (tz_any r k q hrb.out hk wr (HTT.out wr hKr.out))
      obtain ⟨O, hJO, hOm⟩ := hJr.out
      have HOM := hide hOm
      obtain ⟨fn, tmps, assign, body, hy, hRR⟩ := YieldAt.anyD (m' := 0) (HY.out O (bln M lo) k #[.int .i64 (k : Nat)] wr hJO HPP.out rfl (Nat.le_trans HN.out hKr.out.size))
      clear hd hk hOm hJO hJr e1
      refine (wpIn_wide (n := 1)).1 ?_
      gi_wp2
      refine (callsIn_wide.2 HTZ.out).mono ?_
      rintro e w5 ⟨rfl, hw5⟩
      subst w5
      gi_wp2
      refine hRR.mono ?_
      rintro e W3 ⟨hk3, O', hO', h3⟩
      have HK3 : Hid (Keeps O0 W W3) := hide ⟨hk3.os.trans hKr.out.os, hk3.tape.trans hKr.out.tape, hk3.output.trans hKr.out.output, Nat.le_trans hKr.out.size hk3.size, fun i hi hx => (hk3.block i (Nat.lt_of_lt_of_le hi hKr.out.size) (fun h => hx (HOM.out i hi h))).trans (hKr.out.block i hi hx)⟩
      have HO3 : Hid (∀ k, k < W.heap.size → O' k → O0 k) := hide (fun k hk h => HOM.out k hk (hO' k (Nat.lt_of_lt_of_le hk hKr.out.size) h))
      clear hy hRR hKr hk3 hO' HOM
      rcases h3 with ⟨rfl, hJ3⟩ | ⟨rfl, hJ3⟩
      · have HJ3 := hide hJ3
        clear hJ3
        gi_wp2
        refine ⟨⟨d, k + 1, rfl, by omega, hide (Nat.lt_trans HDL.out hrb.out), hide HST.out.2.2.2, hide ⟨O', by rw [HB.out]; exact HJ3.out, HO3.out⟩, HK3⟩, ?_⟩
        simp only [intOf, Int.toNat_natCast]
        exact HDL.out
      · have HJ3 := hide hJ3
        clear hJ3
        gi_wp2
        refine bodyPost_ret (results_none rfl _ _ _) rfl ?_
        exact ⟨⟨_, rfl⟩, HK3.out, O', HO3.out, .inr HJ3.out⟩

end Go.Proofs.YtdmlamnonbmboaaGreatDoor
