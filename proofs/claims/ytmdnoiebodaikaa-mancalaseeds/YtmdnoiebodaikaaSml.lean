/-
  What a board's own small questions answer. No conditions beyond those that each theorem bears.
-/
import Derived.Test.YtmdnoiebodaikaaMath
namespace Go.Proofs.Ytmdnoiebodaikaa
open Go.RowKit

theorem wpList_wanted {P : Program} {ops : Array Oper} {rest : List Oper} {o : Oper} {a : Act} {w : World} {Q : Exit → Act → World → Prop} (hw : Region.wanted o (yielded ops a.tmps) = true)
    (h : ∀ K : Act → World → Prop, (∀ a w, wpList P ops Q rest a w → K a w) → o.wp P a w K Q) : wpList P ops Q (o :: rest) a w :=
  wpList_step fun K hK => by simp only [hw, if_true]; exact h K hK

/-- A board is read whole, where a guard lets it. -/
theorem wpList_load_bdw {ops : Array Oper} {rest : List Oper} {op : Oper} {a : Act} {w : World} {Q : Exit → Act → World → Prop} (hw : Region.wanted op (yielded ops a.tmps) = true) (x : Operand) (ho : op.op = .load 46 x)
    (b : Nat) (hx : a.eval x = .pointer (some ⟨b, 0, none⟩)) (S : List Int) (hS : S.length = 16) (hc : Blk w b 46 S)
    (h : wpList Try.prog ops Q rest (a.put op.dst (.agg (ivs S).toArray)) w) : wpList Try.prog ops Q (op :: rest) a w :=
  wpList_wanted hw fun _ hK => wp_load_mid 46 x ho b 0 hx (ivs S) _ hc.range Try.underlying46 rfl (by rw [ivs_length, hS]; exact size46) (hK _ _ h)

set_option maxHeartbeats 1000000 in
theorem inPits_any (S : List Int) (hS : S.length = 14) (p t x : Nat) (hp : p ≤ 6) (hx : x ≤ 1) (hf : Fit p S) (w : World) :
    Calls Try.prog 31 #[bv S p t, .int .i64 x] w fun e w' => e = .returned (.int .i64 (inP p x S)) ∧ Below w.heap.size w w' := by
  have K0 : Blk (w.alloc (Obj.cells (ivs (bdL S p t)).toArray 46)) w.heap.size 46 (bdL S p t) := Blk.new w 46 _ _ rfl
  have c14 := K0.pits hS
  have HK := hide K0
  have HB := hide (show Below w.heap.size w (w.alloc (Obj.cells (ivs (bdL S p t)).toArray 46)) from (Below.refl _ w).alloc (Nat.le_refl _) _)
  clear K0
  have hl : Hid ((bdL S p t).length = 16) := hide (bdL_length S p t hS)
  have HF := hide hf
  go_enter Try.func31, Try.ntmps31
  go_wp2
  go_loopw [5, 9] (fun s v wr => ∃ (k : Nat), v = .int .i64 k ∧ k ≤ p ∧ s = .int .i64 (inK p x k S) ∧ Hid (Below w.heap.size w wr) ∧ Hid (Blk wr w.heap.size 46 (bdL S p t))) (fun _ v _ => p - (intOf v).toNat)
  case atStart => exact ⟨0, rfl, by omega, rfl, HB.out, HK.out⟩
  case round =>
    obtain ⟨k, rfl, hk, rfl, hB, hK⟩ := hrel
    obtain ⟨hd, hd'⟩ := inP_step HF.out hx k hk
    by_cases hlt : k < p
    · have hlt' : (k : Int) < (p : Int) := by omega
      obtain ⟨hd2, hd2'⟩ := inP_step HF.out hx (k + 1) hlt
      have hq := pl_lt (p := p) hx (show k ≤ p by omega)
      have hv := HF.out.pos _ hq
      have hv2 := HF.out.le hq
      have HE := hide (inK_succ p x k S)
      go_wp2_with (refine wpList_load_bd rfl _ rfl w.heap.size rfl (bdL S p t) hl.out hK.out ?_)
      refine (place_any S hS p t x k hp hx (by omega) _).mono ?_
      rintro e w1 ⟨rfl, hw⟩
      have K1 := hK.out.below hw hK.out.lt
      have B1 := hB.out.trans (hw.mono (show w.heap.size ≤ wr.heap.size from hB.out.size))
      have c1 := K1.seed hS (i := pl p x k) (by omega)
      have HK1 := hide K1
      have HB1 := hide B1
      clear K1 B1 hw
      generalize pl p x k = q at *
      generalize S.getD q 0 = z at *
      go_wp2
      refine ⟨⟨k + 1, by go_num, by omega, ?_, HB1.out, HK1.out⟩, by simp [intOf]; omega⟩
      rw [HE.out]
    · obtain rfl : k = p := by omega
      have hlt' : ¬ (k : Int) < (k : Int) := by omega
      go_wp2
      go_ret
      exact ⟨rfl, hB.out⟩

set_option maxHeartbeats 1000000 in
theorem over_any (S : List Int) (hS : S.length = 14) (p t : Nat) (hp : p ≤ 6) (hf : Fit p S) (w : World) :
    Calls Try.prog 26 #[bv S p t] w fun e w' => e = .returned (.bool (overB p S)) ∧ Below w.heap.size w w' := by
  have K0 : Blk (w.alloc (Obj.cells (ivs (bdL S p t)).toArray 46)) w.heap.size 46 (bdL S p t) := Blk.new w 46 _ _ rfl
  have HK := hide K0
  have HB := hide (show Below w.heap.size w (w.alloc (Obj.cells (ivs (bdL S p t)).toArray 46)) from (Below.refl _ w).alloc (Nat.le_refl _) _)
  clear K0
  have hl : Hid ((bdL S p t).length = 16) := hide (bdL_length S p t hS)
  by_cases h0 : inP p 0 S = 0
  · have HV : Hid (overB p S = true) := hide (by simp [overB, h0])
    have h0b : (inP p 0 S == 0) = true := by simpa using h0
    have H0 := hide h0
    clear h0
    go_enter Try.func26, Try.ntmps26
    go_wp2_with (refine wpList_load_bd rfl _ rfl w.heap.size rfl (bdL S p t) hl.out HK.out ?_)
    refine (inPits_any S hS p t 0 hp (by omega) hf _).mono ?_
    rintro e w1 ⟨rfl, hw⟩
    have B1 := hide (HB.out.trans (hw.mono HB.out.size))
    clear hw
    go_wp2
    go_ret
    exact ⟨ret_bool HV.out.symm, B1.out⟩
  · have h0b : (inP p 0 S == 0) = false := by simpa using h0
    have HV : Hid (overB p S = (inP p 1 S == 0)) := hide (by simp [overB, h0]; rfl)
    clear h0
    go_enter Try.func26, Try.ntmps26
    go_wp2_with (refine wpList_load_bd rfl _ rfl w.heap.size rfl (bdL S p t) hl.out HK.out ?_)
    refine (inPits_any S hS p t 0 hp (by omega) hf _).mono ?_
    rintro e w1 ⟨rfl, hw⟩
    have B1 := hide (HB.out.trans (hw.mono HB.out.size))
    have K1 := hide (HK.out.below hw HK.out.lt)
    clear hw
    go_wp2_with (refine wpList_load_bdw rfl _ rfl w.heap.size rfl (bdL S p t) hl.out K1.out ?_)
    refine (inPits_any S hS p t 1 hp (by omega) hf _).mono ?_
    rintro e w2 ⟨rfl, hw⟩
    have B2 := hide (B1.out.trans (hw.mono B1.out.size))
    clear hw
    go_wp2
    go_ret
    exact ⟨ret_bool HV.out.symm, B2.out⟩

set_option maxHeartbeats 1000000 in
theorem empty_any (S : List Int) (hS : S.length = 14) (p t i : Nat) (hp : p ≤ 6) (ht : t ≤ 1) (hi : i < p) (w : World) :
    Calls Try.prog 27 #[bv S p t, .int .i64 i] w fun e w' => e = .returned (.bool (S.getD (pl p t i) 0 == 0)) ∧ Below w.heap.size w w' := by
  have K0 : Blk (w.alloc (Obj.cells (ivs (bdL S p t)).toArray 46)) w.heap.size 46 (bdL S p t) := Blk.new w 46 _ _ rfl
  have c15 := K0.turn hS
  have HK := hide K0
  have HB := hide (show Below w.heap.size w (w.alloc (Obj.cells (ivs (bdL S p t)).toArray 46)) from (Below.refl _ w).alloc (Nat.le_refl _) _)
  clear K0
  have hl : Hid ((bdL S p t).length = 16) := hide (bdL_length S p t hS)
  obtain ⟨z, hz⟩ : ∃ z, S.getD (pl p t i) 0 = z := ⟨_, rfl⟩
  rw [hz]
  have HZ := hide hz
  clear hz
  go_enter Try.func27, Try.ntmps27
  go_wp2_with (refine wpList_load_bd rfl _ rfl w.heap.size rfl (bdL S p t) hl.out HK.out ?_)
  refine (place_any S hS p t t i hp ht (by omega) _).mono ?_
  rintro e w1 ⟨rfl, hw⟩
  have B1 := hide (HB.out.trans (hw.mono HB.out.size))
  have hq := pl_lt (p := p) ht (show i ≤ p by omega)
  have c1 := (HK.out.below hw HK.out.lt).seed hS (i := pl p t i) (by omega)
  rw [HZ.out] at c1
  clear hw
  generalize pl p t i = q at *
  go_wp2
  go_ret
  exact ⟨rfl, B1.out⟩

def isP (p x q : Nat) : Bool := decide (pl p x 0 ≤ q ∧ q < pl p x p)

set_option maxHeartbeats 1000000 in
theorem isPitOf_any (S : List Int) (hS : S.length = 14) (p t x q : Nat) (hp : p ≤ 6) (hx : x ≤ 1) (w : World) :
    Calls Try.prog 37 #[bv S p t, .int .i64 x, .int .i64 q] w fun e w' => e = .returned (.bool (isP p x q)) ∧ Below w.heap.size w w' := by
  have K0 : Blk (w.alloc (Obj.cells (ivs (bdL S p t)).toArray 46)) w.heap.size 46 (bdL S p t) := Blk.new w 46 _ _ rfl
  have HK := hide K0
  have HB := hide (show Below w.heap.size w (w.alloc (Obj.cells (ivs (bdL S p t)).toArray 46)) from (Below.refl _ w).alloc (Nat.le_refl _) _)
  clear K0
  have hl : Hid ((bdL S p t).length = 16) := hide (bdL_length S p t hS)
  by_cases h0 : pl p x 0 ≤ q
  · have HV : Hid (isP p x q = decide (q < pl p x p)) := hide (by
      rw [Bool.eq_iff_iff]; simp [isP, h0])
    have h0' : (pl p x 0 : Int) ≤ (q : Int) := by omega
    clear h0
    go_enter Try.func37, Try.ntmps37
    go_wp2_with (refine wpList_load_bd rfl _ rfl w.heap.size rfl (bdL S p t) hl.out HK.out ?_)
    refine (place_any S hS p t x 0 hp hx (by omega) _).mono ?_
    rintro e w1 ⟨rfl, hw⟩
    have B1 := hide (HB.out.trans (hw.mono HB.out.size))
    have K1 := hide (HK.out.below hw HK.out.lt)
    clear hw
    generalize pl p x 0 = q0 at *
    go_wp2_with (refine wpList_load_bdw rfl _ rfl w.heap.size rfl (bdL S p t) hl.out K1.out ?_)
    refine (store_any S hS p t x hp hx _).mono ?_
    rintro e w2 ⟨rfl, hw⟩
    have B2 := hide (B1.out.trans (hw.mono B1.out.size))
    clear hw
    generalize pl p x p = q1 at *
    go_wp2
    go_ret
    exact ⟨ret_bool HV.out.symm, B2.out⟩
  · have HV : Hid (isP p x q = false) := hide (by simp [isP, h0])
    have h0' : decide ((pl p x 0 : Int) ≤ (q : Int)) = false := by simp; omega
    have h0n : decide (pl p x 0 ≤ q) = false := by simp; omega
    clear h0
    go_enter Try.func37, Try.ntmps37
    go_wp2_with (refine wpList_load_bd rfl _ rfl w.heap.size rfl (bdL S p t) hl.out HK.out ?_)
    refine (place_any S hS p t x 0 hp hx (by omega) _).mono ?_
    rintro e w1 ⟨rfl, hw⟩
    have B1 := hide (HB.out.trans (hw.mono HB.out.size))
    clear hw
    generalize pl p x 0 = q0 at *
    go_wp2
    go_ret
    exact ⟨ret_bool HV.out.symm, B1.out⟩

set_option maxHeartbeats 1000000 in
/-- A place's seeds are taken. -/
theorem take_any (S : List Int) (hS : S.length = 14) (p t q : Nat) (hq : q < 14) (w : World) (b : Nat) (hb : Blk w b 46 (bdL S p t)) :
    Calls Try.prog 39 #[.pointer (some ⟨b, 0, none⟩), .int .i64 q] w fun e w' => e = .returned (.int .i64 (S.getD q 0)) ∧ Blk w' b 46 (bdL (S.set q 0) p t) ∧ Keeps (fun k => k = b) w w' := by
  have c1 := hb.seed hS hq
  have f1 := hb.frozen q
  have HK : Hid (Blk (w.setCell ⟨b, q, none⟩ (.int .i64 0)) b 46 (bdL (S.set q 0) p t)) := hide (by rw [← bdL_set _ _ _ _ _ hS hq]; exact hb.set q 0)
  have HP := hide (Keeps.set1 w b q (.int .i64 0))
  obtain ⟨z, hz⟩ : ∃ z, S.getD q 0 = z := ⟨_, rfl⟩
  rw [hz] at c1 ⊢
  clear hz hb
  go_enter Try.func39, Try.ntmps39
  go_wp2
  go_ret
  exact ⟨rfl, HK.out, HP.out⟩

end Go.Proofs.Ytmdnoiebodaikaa
