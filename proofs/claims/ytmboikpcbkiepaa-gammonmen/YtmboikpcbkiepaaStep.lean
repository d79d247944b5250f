/-
  What a side's step answers. No conditions beyond those that each theorem bears.
-/
import Derived.Test.YtmboikpcbkiepaaSdF
import Derived.Deep.Cut
import Derived.Deep.CutRange
import Derived.Deep.DeepCutAuto
import Derived.Deep.CutBlock
namespace Go.Proofs.Ytmboikpcbkiepaa
open Go.RowKit

theorem wpList_wanted {P : Program} {ops : Array Oper} {rest : List Oper} {o : Oper} {a : Act} {w : World} {Q : Exit → Act → World → Prop} (hw : Region.wanted o (yielded ops a.tmps) = true)
    (h : ∀ K : Act → World → Prop, (∀ a w, wpList P ops Q rest a w → K a w) → o.wp P a w K Q) : wpList P ops Q (o :: rest) a w :=
  wpList_step fun K hK => by simp only [hw, if_true]; exact h K hK

/-- A side is read whole, where a guard lets it. -/
theorem wpList_load_sdw {ops : Array Oper} {rest : List Oper} {op : Oper} {a : Act} {w : World} {Q : Exit → Act → World → Prop} (hw : Region.wanted op (yielded ops a.tmps) = true) (x : Operand) (ho : op.op = .load 54 x)
    (b : Nat) (hx : a.eval x = .pointer (some ⟨b, 0, none⟩)) (S : List Int) (hS : S.length = 52) (hc : Blk w b 54 S)
    (h : wpList Try.prog ops Q rest (a.put op.dst (.agg (ivs S).toArray)) w) : wpList Try.prog ops Q (op :: rest) a w :=
  wpList_wanted hw fun _ hK => wp_load_mid 54 x ho b 0 hx (ivs S) _ hc.range Try.underlying54 rfl (by rw [ivs_length, hS]; exact size54) (hK _ _ h)

/-- A man comes to a point, and hits. -/
def hitS (S : List Int) (f t : Nat) : List Int :=
  (((S.set 26 (S.getD 26 0 + S.getD (26 + t) 0)).set (26 + t) 0).set f (S.getD f 0 - 1)).set t (S.getD t 0 + 1)

/-- A step of one man. -/
def stp (S : List Int) (f p : Nat) : Option (List Int) :=
  if S.getD f 0 = 0 ∨ (f ≠ 25 ∧ 0 < S.getD 25 0) then none
  else if f ≤ p then
    if homeB S = false ∨ (f < p ∧ behB S f = true) then none else some (S.set f (S.getD f 0 - 1))
  else if 1 < S.getD (26 + (f - p)) 0 then none
  else some (hitS S f (f - p))

def noS : List Int := List.replicate 52 0
theorem noS_length : noS.length = 52 := rfl

def stpV (o : Option (List Int)) : Value := .tuple #[.agg (ivs (o.getD noS)).toArray, .bool o.isSome]

set_option maxRecDepth 100000 in
set_option maxHeartbeats 4000000 in
theorem step_none (S : List Int) (hS : S.length = 52) (f p : Nat) (hf : 1 ≤ f ∧ f ≤ 25) (h1 : S.getD f 0 = 0 ∨ (f ≠ 25 ∧ 0 < S.getD 25 0)) (w : World) :
    Calls Try.prog 31 #[.agg (ivs S).toArray, .int .i64 f, .int .i64 p] w fun e w' => e = .returned (stpV (stp S f p)) ∧ Below w.heap.size w w' := by
  have HV : Hid (stp S f p = none) := hide (by rw [stp, if_pos h1])
  go_enter Try.func31, Try.ntmps31
  go_upto_region 1 with fail
  obtain ⟨w1, hw1⟩ : ∃ w1, (w.alloc (Obj.cells (ivs S).toArray 54)).alloc (Obj.cells #[.int .i64 0, .int .i64 0, .int .i64 0, .int .i64 0, .int .i64 0, .int .i64 0, .int .i64 0, .int .i64 0, .int .i64 0, .int .i64 0, .int .i64 0, .int .i64 0, .int .i64 0, .int .i64 0, .int .i64 0, .int .i64 0, .int .i64 0, .int .i64 0, .int .i64 0, .int .i64 0, .int .i64 0, .int .i64 0, .int .i64 0, .int .i64 0, .int .i64 0, .int .i64 0, .int .i64 0, .int .i64 0, .int .i64 0, .int .i64 0, .int .i64 0, .int .i64 0, .int .i64 0, .int .i64 0, .int .i64 0, .int .i64 0, .int .i64 0, .int .i64 0, .int .i64 0, .int .i64 0, .int .i64 0, .int .i64 0, .int .i64 0, .int .i64 0, .int .i64 0, .int .i64 0, .int .i64 0, .int .i64 0, .int .i64 0, .int .i64 0, .int .i64 0, .int .i64 0] 54) = w1 := ⟨_, rfl⟩
  rw [hw1]
  have K0 : Blk w1 w.heap.size 54 S := by rw [← hw1]; exact (Blk.new w 54 S _ rfl).old _
  have K6 : Blk w1 (w.heap.size + 1) 54 noS := by
    rw [← hw1]
    have := Blk.new (w.alloc (Obj.cells (ivs S).toArray 54)) 54 noS #[.int .i64 0, .int .i64 0, .int .i64 0, .int .i64 0, .int .i64 0, .int .i64 0, .int .i64 0, .int .i64 0, .int .i64 0, .int .i64 0, .int .i64 0, .int .i64 0, .int .i64 0, .int .i64 0, .int .i64 0, .int .i64 0, .int .i64 0, .int .i64 0, .int .i64 0, .int .i64 0, .int .i64 0, .int .i64 0, .int .i64 0, .int .i64 0, .int .i64 0, .int .i64 0, .int .i64 0, .int .i64 0, .int .i64 0, .int .i64 0, .int .i64 0, .int .i64 0, .int .i64 0, .int .i64 0, .int .i64 0, .int .i64 0, .int .i64 0, .int .i64 0, .int .i64 0, .int .i64 0, .int .i64 0, .int .i64 0, .int .i64 0, .int .i64 0, .int .i64 0, .int .i64 0, .int .i64 0, .int .i64 0, .int .i64 0, .int .i64 0, .int .i64 0, .int .i64 0] rfl
    rw [World.size_alloc] at this
    exact this
  have B1 : Below w.heap.size w w1 := by rw [← hw1]; exact ((Below.refl _ w).alloc (Nat.le_refl _) _).alloc (by simp) _
  have c1 := K0.cell (i := f) (by omega)
  have c2 := K0.cell (i := 25) (by omega)
  clear hw1
  generalize S.getD f 0 = z at *
  generalize S.getD 25 0 = y at *
  by_cases hz : z = 0
  · subst hz
    clear h1
    go_wp2_with (refine wpList_store_sd rfl (.tmp 6) (.tmp 24) rfl (w.heap.size + 1) noS noS rfl rfl rfl rfl K6 ?_; intro w2 k2 kk2)
    refine bodyPost_ret (results_sb rfl _ _ (w.heap.size + 1) rfl noS rfl k2) rfl ⟨?_, ?_⟩
    · rw [HV.out]; rfl
    · exact B1.trans ((kk2.mono (Y := fun k => w.heap.size ≤ k) (fun k _ e => by omega)).below (by have := B1.size; omega) (fun k hk e => by omega))
  · obtain ⟨g1, g2⟩ : f ≠ 25 ∧ 0 < y := by rcases h1 with h1 | h1; exact absurd h1 hz; exact h1
    have q1 : (z == 0) = false := by simpa using hz
    have q2 : ((f : Int) == 25) = false := by simp; omega
    have q3 : ((f : Int) != 25) = true := by simp; omega
    clear h1 hz
    go_wp2_with (refine wpList_store_sd rfl (.tmp 6) (.tmp 24) rfl (w.heap.size + 1) noS noS rfl rfl rfl rfl K6 ?_; intro w2 k2 kk2)
    refine bodyPost_ret (results_sb rfl _ _ (w.heap.size + 1) rfl noS rfl k2) rfl ⟨?_, ?_⟩
    · rw [HV.out]; rfl
    · exact B1.trans ((kk2.mono (Y := fun k => w.heap.size ≤ k) (fun k _ e => by omega)).below (by have := B1.size; omega) (fun k hk e => by omega))

set_option maxRecDepth 100000 in
set_option maxHeartbeats 4000000 in
theorem step_off (S : List Int) (hS : S.length = 52) (hr : ∀ i, i < 52 → -1000 ≤ S.getD i 0 ∧ S.getD i 0 ≤ 1000) (f p : Nat) (hf : 1 ≤ f ∧ f ≤ 25) (hp : 1 ≤ p ∧ p ≤ 6) (h1 : ¬ (S.getD f 0 = 0 ∨ (f ≠ 25 ∧ 0 < S.getD 25 0))) (h2 : f ≤ p) (w : World) :
    Calls Try.prog 31 #[.agg (ivs S).toArray, .int .i64 f, .int .i64 p] w fun e w' => e = .returned (stpV (stp S f p)) ∧ Below w.heap.size w w' := by
  have hz0 : S.getD f 0 ≠ 0 := fun e => h1 (Or.inl e)
  have hy0 : ¬ 0 < S.getD 25 0 := fun e => h1 (Or.inr ⟨by omega, e⟩)
  have HV : Hid (stp S f p = if homeB S = false ∨ (f < p ∧ behB S f = true) then none else some (S.set f (S.getD f 0 - 1))) := hide (by rw [stp, if_neg h1, if_pos h2])
  have hzr := hr f (by omega)
  obtain ⟨z, hz⟩ : ∃ z, S.getD f 0 = z := ⟨_, rfl⟩
  have HZ := hide hz
  rw [hz] at HV hzr hz0
  clear hz
  go_enter Try.func31, Try.ntmps31
  go_upto_region 1 with fail
  obtain ⟨w1, hw1⟩ : ∃ w1, (w.alloc (Obj.cells (ivs S).toArray 54)).alloc (Obj.cells #[.int .i64 0, .int .i64 0, .int .i64 0, .int .i64 0, .int .i64 0, .int .i64 0, .int .i64 0, .int .i64 0, .int .i64 0, .int .i64 0, .int .i64 0, .int .i64 0, .int .i64 0, .int .i64 0, .int .i64 0, .int .i64 0, .int .i64 0, .int .i64 0, .int .i64 0, .int .i64 0, .int .i64 0, .int .i64 0, .int .i64 0, .int .i64 0, .int .i64 0, .int .i64 0, .int .i64 0, .int .i64 0, .int .i64 0, .int .i64 0, .int .i64 0, .int .i64 0, .int .i64 0, .int .i64 0, .int .i64 0, .int .i64 0, .int .i64 0, .int .i64 0, .int .i64 0, .int .i64 0, .int .i64 0, .int .i64 0, .int .i64 0, .int .i64 0, .int .i64 0, .int .i64 0, .int .i64 0, .int .i64 0, .int .i64 0, .int .i64 0, .int .i64 0, .int .i64 0] 54) = w1 := ⟨_, rfl⟩
  rw [hw1]
  have K0 : Blk w1 w.heap.size 54 S := by rw [← hw1]; exact (Blk.new w 54 S _ rfl).old _
  have K6 : Blk w1 (w.heap.size + 1) 54 noS := by
    rw [← hw1]
    have := Blk.new (w.alloc (Obj.cells (ivs S).toArray 54)) 54 noS #[.int .i64 0, .int .i64 0, .int .i64 0, .int .i64 0, .int .i64 0, .int .i64 0, .int .i64 0, .int .i64 0, .int .i64 0, .int .i64 0, .int .i64 0, .int .i64 0, .int .i64 0, .int .i64 0, .int .i64 0, .int .i64 0, .int .i64 0, .int .i64 0, .int .i64 0, .int .i64 0, .int .i64 0, .int .i64 0, .int .i64 0, .int .i64 0, .int .i64 0, .int .i64 0, .int .i64 0, .int .i64 0, .int .i64 0, .int .i64 0, .int .i64 0, .int .i64 0, .int .i64 0, .int .i64 0, .int .i64 0, .int .i64 0, .int .i64 0, .int .i64 0, .int .i64 0, .int .i64 0, .int .i64 0, .int .i64 0, .int .i64 0, .int .i64 0, .int .i64 0, .int .i64 0, .int .i64 0, .int .i64 0, .int .i64 0, .int .i64 0, .int .i64 0, .int .i64 0] rfl
    rw [World.size_alloc] at this
    exact this
  have B1 : Below w.heap.size w w1 := by rw [← hw1]; exact ((Below.refl _ w).alloc (Nat.le_refl _) _).alloc (by simp) _
  have c1 := K0.cell (i := f) (by omega)
  have c2 := K0.cell (i := 25) (by omega)
  clear hw1
  rw [HZ.out] at c1
  generalize S.getD 25 0 = y at *
  have q1 : (z == 0) = false := by simpa using hz0
  have q2 : ((f : Int) == 25) = false := by simp; omega
  have q3 : ((f : Int) != 25) = true := by simp; omega
  have q4 : decide (0 < y) = false := by simpa using hy0
  have q5 : (f : Int) - (p : Int) ≤ 0 := by omega
  have AH := hide (allHome_any S hS)
  have AB := hide (anyBehind_any S hS f (by omega))
  clear h1 hr hz0
  cases hh : homeB S with
  | false =>
    have HV' : Hid (stp S f p = none) := hide (by rw [HV.out, if_pos (Or.inl hh)])
    clear HV
    have HV := HV'
    rw [hh] at AH
    go_wp2_with (refine wpList_load_sd rfl (.tmp 3) rfl w.heap.size rfl S hS K0 ?_)
    refine (AH.out _).mono ?_
    rintro e w3 ⟨rfl, hb3⟩
    have K63 := K6.below hb3 K6.lt
    have B3 := B1.trans (hb3.mono B1.size)
    clear hb3
    go_wp2_with (refine wpList_store_sd rfl (.tmp 6) (.tmp 42) rfl (w.heap.size + 1) noS noS rfl rfl rfl rfl K63 ?_; intro w2 k2 kk2)
    refine bodyPost_ret (results_sb rfl _ _ (w.heap.size + 1) rfl noS rfl k2) rfl ⟨?_, ?_⟩
    · rw [HV.out]; rfl
    · exact B3.trans ((kk2.mono (Y := fun k => w.heap.size ≤ k) (fun k _ e => by omega)).below (by have := B3.size; omega) (fun k hk e => by omega))
  | true =>
    rw [hh] at AH
    go_wp2_with (refine wpList_load_sd rfl (.tmp 3) rfl w.heap.size rfl S hS K0 ?_)
    refine (AH.out _).mono ?_
    rintro e w3 ⟨rfl, hb3⟩
    have K63 := K6.below hb3 K6.lt
    have K03 := K0.below hb3 K0.lt
    have B3 := B1.trans (hb3.mono B1.size)
    clear hb3 K0 K6 B1 c1 c2
    have c1 := K03.cell (i := f) (by omega)
    by_cases hfp : f < p
    · have q6 : (f : Int) - (p : Int) < 0 := by omega
      cases hbe : behB S f with
      | true =>
        have HV' : Hid (stp S f p = none) := hide (by rw [HV.out, if_pos (Or.inr ⟨hfp, hbe⟩)])
        clear HV
        have HV := HV'
        rw [hbe] at AB
        go_wp2_with (refine wpList_load_sdw rfl (.tmp 3) rfl w.heap.size rfl S hS K03 ?_)
        refine (AB.out _).mono ?_
        rintro e w4 ⟨rfl, hb4⟩
        have K64 := K63.below hb4 K63.lt
        have B4 := B3.trans (hb4.mono B3.size)
        clear hb4
        go_wp2_with (refine wpList_store_sd rfl (.tmp 6) (.tmp 42) rfl (w.heap.size + 1) noS noS rfl rfl rfl rfl K64 ?_; intro w2 k2 kk2)
        refine bodyPost_ret (results_sb rfl _ _ (w.heap.size + 1) rfl noS rfl k2) rfl ⟨?_, ?_⟩
        · rw [HV.out]; rfl
        · exact B4.trans ((kk2.mono (Y := fun k => w.heap.size ≤ k) (fun k _ e => by omega)).below (by have := B4.size; omega) (fun k hk e => by omega))
      | false =>
        have HV' : Hid (stp S f p = some (S.set f (z - 1))) := hide (by rw [HV.out, if_neg (by rw [hh, hbe]; simp)])
        clear HV
        have HV := HV'
        rw [hbe] at AB
        go_wp2_with (refine wpList_load_sdw rfl (.tmp 3) rfl w.heap.size rfl S hS K03 ?_)
        refine (AB.out _).mono ?_
        rintro e w4 ⟨rfl, hb4⟩
        have K64 := K63.below hb4 K63.lt
        have K04 := K03.below hb4 K03.lt
        have B4 := B3.trans (hb4.mono B3.size)
        clear hb4 c1 K03 K63 B3
        have c1 := K04.cell (i := f) (by omega)
        have f1 := K04.frozen f
        rw [HZ.out] at c1
        go_upto_region 8 with fail
        have K5 := K04.set f (z - 1)
        have K65 := K64.other (show w.heap.size + 1 ≠ w.heap.size by omega) f (.int .i64 (z - 1))
        have B5 := B4.setCell (p := ⟨w.heap.size, f, none⟩) (Nat.le_refl _) (.int .i64 (z - 1))
        generalize World.setCell w4 ⟨w.heap.size, f, none⟩ (.int .i64 (z - 1)) = w5 at *
        go_wp2_with (first
          | refine wpList_load_sd rfl (.tmp 3) rfl w.heap.size rfl _ (by simp [hS]) K5 ?_
          | (refine wpList_store_sd rfl (.tmp 6) (.tmp 50) rfl (w.heap.size + 1) (S.set f (z - 1)) noS (by simp [hS]) rfl rfl rfl K65 ?_; intro w6 k6 kk6))
        refine bodyPost_ret (results_sb rfl _ _ (w.heap.size + 1) rfl (S.set f (z - 1)) (by simp [hS]) k6) rfl ⟨?_, ?_⟩
        · rw [HV.out]; rfl
        · exact B5.trans ((kk6.mono (Y := fun k => w.heap.size ≤ k) (fun k _ e => by omega)).below (by have := B5.size; omega) (fun k hk e => by omega))
    · obtain rfl : f = p := by omega
      have q6 : ¬ ((f : Int) - (f : Int) < 0) := by omega
      have HV' : Hid (stp S f f = some (S.set f (z - 1))) := hide (by rw [HV.out, if_neg (by rw [hh]; simp)])
      clear HV
      have HV := HV'
      have f1 := K03.frozen f
      rw [HZ.out] at c1
      go_upto_region 8 with fail
      have K5 := K03.set f (z - 1)
      have K65 := K63.other (show w.heap.size + 1 ≠ w.heap.size by omega) f (.int .i64 (z - 1))
      have B5 := B3.setCell (p := ⟨w.heap.size, f, none⟩) (Nat.le_refl _) (.int .i64 (z - 1))
      generalize World.setCell w3 ⟨w.heap.size, f, none⟩ (.int .i64 (z - 1)) = w5 at *
      go_wp2_with (first
        | refine wpList_load_sd rfl (.tmp 3) rfl w.heap.size rfl _ (by simp [hS]) K5 ?_
        | (refine wpList_store_sd rfl (.tmp 6) (.tmp 50) rfl (w.heap.size + 1) (S.set f (z - 1)) noS (by simp [hS]) rfl rfl rfl K65 ?_; intro w6 k6 kk6))
      refine bodyPost_ret (results_sb rfl _ _ (w.heap.size + 1) rfl (S.set f (z - 1)) (by simp [hS]) k6) rfl ⟨?_, ?_⟩
      · rw [HV.out]; rfl
      · exact B5.trans ((kk6.mono (Y := fun k => w.heap.size ≤ k) (fun k _ e => by omega)).below (by have := B5.size; omega) (fun k hk e => by omega))

set_option maxRecDepth 100000 in
set_option maxHeartbeats 4000000 in
theorem step_move (S : List Int) (hS : S.length = 52) (hr : ∀ i, i < 52 → -1000 ≤ S.getD i 0 ∧ S.getD i 0 ≤ 1000) (f p : Nat) (hf : 1 ≤ f ∧ f ≤ 25) (hp : 1 ≤ p ∧ p ≤ 6) (h1 : ¬ (S.getD f 0 = 0 ∨ (f ≠ 25 ∧ 0 < S.getD 25 0))) (t : Nat) (h2 : f = t + p) (ht : 1 ≤ t) (w : World) :
    Calls Try.prog 31 #[.agg (ivs S).toArray, .int .i64 f, .int .i64 p] w fun e w' => e = .returned (stpV (stp S f p)) ∧ Below w.heap.size w w' := by
  have hz0 : S.getD f 0 ≠ 0 := fun e => h1 (Or.inl e)
  have hq5 : (f : Int) - (p : Int) = (t : Int) := by omega
  have hft : f - p = t := by omega
  have HV : Hid (stp S f p = if 1 < S.getD (26 + t) 0 then none else some (hitS S f t)) := hide (by rw [stp, if_neg h1, if_neg (by omega), hft])
  have hzr := hr f (by omega)
  have hor := hr (26 + t) (by omega)
  have h0r := hr 26 (by omega)
  have htr := hr t (by omega)
  have h2a : t + p ≤ f := by omega
  have h2b : f ≤ t + p := by omega
  clear h2 hft
  go_enter Try.func31, Try.ntmps31
  go_upto_region 1 with fail
  obtain ⟨w1, hw1⟩ : ∃ w1, (w.alloc (Obj.cells (ivs S).toArray 54)).alloc (Obj.cells #[.int .i64 0, .int .i64 0, .int .i64 0, .int .i64 0, .int .i64 0, .int .i64 0, .int .i64 0, .int .i64 0, .int .i64 0, .int .i64 0, .int .i64 0, .int .i64 0, .int .i64 0, .int .i64 0, .int .i64 0, .int .i64 0, .int .i64 0, .int .i64 0, .int .i64 0, .int .i64 0, .int .i64 0, .int .i64 0, .int .i64 0, .int .i64 0, .int .i64 0, .int .i64 0, .int .i64 0, .int .i64 0, .int .i64 0, .int .i64 0, .int .i64 0, .int .i64 0, .int .i64 0, .int .i64 0, .int .i64 0, .int .i64 0, .int .i64 0, .int .i64 0, .int .i64 0, .int .i64 0, .int .i64 0, .int .i64 0, .int .i64 0, .int .i64 0, .int .i64 0, .int .i64 0, .int .i64 0, .int .i64 0, .int .i64 0, .int .i64 0, .int .i64 0, .int .i64 0] 54) = w1 := ⟨_, rfl⟩
  rw [hw1]
  have K0 : Blk w1 w.heap.size 54 S := by rw [← hw1]; exact (Blk.new w 54 S _ rfl).old _
  have K6 : Blk w1 (w.heap.size + 1) 54 noS := by
    rw [← hw1]
    have := Blk.new (w.alloc (Obj.cells (ivs S).toArray 54)) 54 noS #[.int .i64 0, .int .i64 0, .int .i64 0, .int .i64 0, .int .i64 0, .int .i64 0, .int .i64 0, .int .i64 0, .int .i64 0, .int .i64 0, .int .i64 0, .int .i64 0, .int .i64 0, .int .i64 0, .int .i64 0, .int .i64 0, .int .i64 0, .int .i64 0, .int .i64 0, .int .i64 0, .int .i64 0, .int .i64 0, .int .i64 0, .int .i64 0, .int .i64 0, .int .i64 0, .int .i64 0, .int .i64 0, .int .i64 0, .int .i64 0, .int .i64 0, .int .i64 0, .int .i64 0, .int .i64 0, .int .i64 0, .int .i64 0, .int .i64 0, .int .i64 0, .int .i64 0, .int .i64 0, .int .i64 0, .int .i64 0, .int .i64 0, .int .i64 0, .int .i64 0, .int .i64 0, .int .i64 0, .int .i64 0, .int .i64 0, .int .i64 0, .int .i64 0, .int .i64 0] rfl
    rw [World.size_alloc] at this
    exact this
  have B1 : Below w.heap.size w w1 := by rw [← hw1]; exact ((Below.refl _ w).alloc (Nat.le_refl _) _).alloc (by simp) _
  have c1 := K0.cell (i := f) (by omega)
  have c2 := K0.cell (i := 25) (by omega)
  clear hw1
  have c3 := K0.cell (i := 26 + t) (by omega)
  have c4 := K0.cell (i := 26) (by omega)
  have hHit : Hid (hitS S f t = (((S.set 26 (S.getD 26 0 + S.getD (26 + t) 0)).set (26 + t) 0).set f (S.getD f 0 - 1)).set t (S.getD t 0 + 1)) := hide rfl
  have D := hide (fun (x y : Int) => (show ((S.set 26 x).set (26 + t) y).getD f 0 = S.getD f 0 by rw [getD_set _ _ _ _ (by simp; omega), if_neg (by omega), getD_set _ _ _ _ (by omega), if_neg (by omega)]))
  have D2 := hide (fun (x y v : Int) => (show (((S.set 26 x).set (26 + t) y).set f v).getD t 0 = S.getD t 0 by rw [getD_set _ _ _ _ (by simp; omega), if_neg (by omega), getD_set _ _ _ _ (by simp; omega), if_neg (by omega), getD_set _ _ _ _ (by omega), if_neg (by omega)]))
  have hbar : f = 25 ∨ ¬ 0 < S.getD 25 0 := by
    by_cases e : f = 25
    · exact Or.inl e
    · exact Or.inr (fun e2 => h1 (Or.inr ⟨e, e2⟩))
  have HBAR := hide hbar
  generalize S.getD f 0 = z at *
  generalize S.getD (26 + t) 0 = u at *
  generalize hgx : S.getD 26 0 = x at *
  generalize hgv : S.getD t 0 = v at *
  have q1 : (z == 0) = false := by simpa using hz0
  have q5 : ¬ (t : Int) ≤ 0 := by omega
  have f26 := K0.frozen 26
  clear h1 hr hz0 hgx hgv hbar
  by_cases hu : 1 < u
  · have HV' : Hid (stp S f p = none) := hide (by rw [HV.out, if_pos hu])
    clear HV hHit D D2
    have HV := HV'
    rcases HBAR.out with e25 | e25
    · have q2 : ((f : Int) == 25) = true := by simp; omega
      have q3 : ((f : Int) != 25) = false := by simp; omega
      clear HBAR e25
      go_wp2_with (refine wpList_store_sd rfl (.tmp 6) (.tmp 56) rfl (w.heap.size + 1) noS noS rfl rfl rfl rfl K6 ?_; intro w2 k2 kk2)
      refine bodyPost_ret (results_sb rfl _ _ (w.heap.size + 1) rfl noS rfl k2) rfl ⟨?_, ?_⟩
      · rw [HV.out]; rfl
      · exact B1.trans ((kk2.mono (Y := fun k => w.heap.size ≤ k) (fun k _ e => by omega)).below (by have := B1.size; omega) (fun k hk e => by omega))
    · have q4 : decide (0 < S.getD 25 0) = false := by simpa using e25
      generalize S.getD 25 0 = y at *
      clear HBAR
      by_cases e26 : f = 25
      · have q2 : ((f : Int) == 25) = true := by simp; omega
        have q3 : ((f : Int) != 25) = false := by simp; omega
        clear e26
        go_wp2_with (refine wpList_store_sd rfl (.tmp 6) (.tmp 56) rfl (w.heap.size + 1) noS noS rfl rfl rfl rfl K6 ?_; intro w2 k2 kk2)
        refine bodyPost_ret (results_sb rfl _ _ (w.heap.size + 1) rfl noS rfl k2) rfl ⟨?_, ?_⟩
        · rw [HV.out]; rfl
        · exact B1.trans ((kk2.mono (Y := fun k => w.heap.size ≤ k) (fun k _ e => by omega)).below (by have := B1.size; omega) (fun k hk e => by omega))
      · have q2 : ((f : Int) == 25) = false := by simp; omega
        have q3 : ((f : Int) != 25) = true := by simp; omega
        clear e26
        go_wp2_with (refine wpList_store_sd rfl (.tmp 6) (.tmp 56) rfl (w.heap.size + 1) noS noS rfl rfl rfl rfl K6 ?_; intro w2 k2 kk2)
        refine bodyPost_ret (results_sb rfl _ _ (w.heap.size + 1) rfl noS rfl k2) rfl ⟨?_, ?_⟩
        · rw [HV.out]; rfl
        · exact B1.trans ((kk2.mono (Y := fun k => w.heap.size ≤ k) (fun k _ e => by omega)).below (by have := B1.size; omega) (fun k hk e => by omega))
  · have HV' : Hid (stp S f p = some (hitS S f t)) := hide (by rw [HV.out, if_neg hu])
    clear HV
    have HV := HV'
    have q6 : decide (1 < u) = false := by simpa using hu
    rcases HBAR.out with e25 | e25
    · have q2 : ((f : Int) == 25) = true := by simp; omega
      have q3 : ((f : Int) != 25) = false := by simp; omega
      clear HBAR e25
      go_upto_region 11 with fail
      go_region
      go_upto_region 12 with fail
      have A1 := (K0.set 26 (x + u))
      have A6 := (K6.other (show w.heap.size + 1 ≠ w.heap.size by omega) 26 (.int .i64 (x + u)))
      have AB := B1.setCell (p := ⟨w.heap.size, 26, none⟩) (Nat.le_refl _) (.int .i64 (x + u))
      have A1 := hide (show Blk (World.drew (w1.setCell ⟨w.heap.size, 26, none⟩ (.int .i64 (x + u)))) w.heap.size 54 (S.set 26 (x + u)) from A1)
      have A6 := hide (show Blk (World.drew (w1.setCell ⟨w.heap.size, 26, none⟩ (.int .i64 (x + u)))) (w.heap.size + 1) 54 noS from A6)
      have AB := hide AB.drew
      have fu := A1.out.frozen (26 + t)
      have gu := A1.out.cell (i := 26 + t) (by simp; omega)
      clear c1 c2 c3 c4 f26 K0 K6 B1
      generalize World.drew (w1.setCell ⟨w.heap.size, 26, none⟩ (.int .i64 (x + u))) = w2 at *
      go_upto_region 13 with fail
      have C1 := A1.out.set (26 + t) 0
      have C6 := A6.out.other (show w.heap.size + 1 ≠ w.heap.size by omega) (26 + t) (.int .i64 0)
      have CB := AB.out.setCell (p := ⟨w.heap.size, 26 + t, none⟩) (Nat.le_refl _) (.int .i64 0)
      generalize World.setCell w2 ⟨w.heap.size, 26 + t, none⟩ (.int .i64 0) = w3 at *
      clear fu gu A1 A6 AB
      have fu := C1.frozen f
      have gu := C1.cell (i := f) (by simp; omega)
      rw [D.out] at gu
      go_upto_region 14 with fail
      have E1 := C1.set f (z - 1)
      have E6 := C6.other (show w.heap.size + 1 ≠ w.heap.size by omega) f (.int .i64 (z - 1))
      have EB := CB.setCell (p := ⟨w.heap.size, f, none⟩) (Nat.le_refl _) (.int .i64 (z - 1))
      generalize World.setCell w3 ⟨w.heap.size, f, none⟩ (.int .i64 (z - 1)) = w4 at *
      clear fu gu C1 C6 CB
      have fu := E1.frozen t
      have gu := E1.cell (i := t) (by simp; omega)
      rw [D2.out] at gu
      go_upto_region 15 with fail
      have F1 := E1.set t (v + 1)
      have F6 := E6.other (show w.heap.size + 1 ≠ w.heap.size by omega) t (.int .i64 (v + 1))
      have FB := EB.setCell (p := ⟨w.heap.size, t, none⟩) (Nat.le_refl _) (.int .i64 (v + 1))
      generalize World.setCell w4 ⟨w.heap.size, t, none⟩ (.int .i64 (v + 1)) = w5 at *
      clear fu gu E1 E6 EB
      rw [← hHit.out] at F1
      have hl : (hitS S f t).length = 52 := by unfold hitS; simp [hS]
      go_wp2_with (first
        | refine wpList_load_sd rfl (.tmp 3) rfl w.heap.size rfl _ hl F1 ?_
        | (refine wpList_store_sd rfl (.tmp 6) (.tmp 84) rfl (w.heap.size + 1) (hitS S f t) noS hl rfl rfl rfl F6 ?_; intro w6 k6 kk6))
      refine bodyPost_ret (results_sb rfl _ _ (w.heap.size + 1) rfl (hitS S f t) hl k6) rfl ⟨?_, ?_⟩
      · rw [HV.out]; rfl
      · exact FB.trans ((kk6.mono (Y := fun k => w.heap.size ≤ k) (fun k _ e => by omega)).below (by have := FB.size; omega) (fun k hk e => by omega))
    · have q4 : decide (0 < S.getD 25 0) = false := by simpa using e25
      generalize S.getD 25 0 = y at *
      clear HBAR
      by_cases e26 : f = 25
      · have q2 : ((f : Int) == 25) = true := by simp; omega
        have q3 : ((f : Int) != 25) = false := by simp; omega
        clear e26
        go_upto_region 11 with fail
        go_region
        go_upto_region 12 with fail
        have A1 := (K0.set 26 (x + u))
        have A6 := (K6.other (show w.heap.size + 1 ≠ w.heap.size by omega) 26 (.int .i64 (x + u)))
        have AB := B1.setCell (p := ⟨w.heap.size, 26, none⟩) (Nat.le_refl _) (.int .i64 (x + u))
        have A1 := hide (show Blk (World.drew (w1.setCell ⟨w.heap.size, 26, none⟩ (.int .i64 (x + u)))) w.heap.size 54 (S.set 26 (x + u)) from A1)
        have A6 := hide (show Blk (World.drew (w1.setCell ⟨w.heap.size, 26, none⟩ (.int .i64 (x + u)))) (w.heap.size + 1) 54 noS from A6)
        have AB := hide AB.drew
        have fu := A1.out.frozen (26 + t)
        have gu := A1.out.cell (i := 26 + t) (by simp; omega)
        clear c1 c2 c3 c4 f26 K0 K6 B1
        generalize World.drew (w1.setCell ⟨w.heap.size, 26, none⟩ (.int .i64 (x + u))) = w2 at *
        go_upto_region 13 with fail
        have C1 := A1.out.set (26 + t) 0
        have C6 := A6.out.other (show w.heap.size + 1 ≠ w.heap.size by omega) (26 + t) (.int .i64 0)
        have CB := AB.out.setCell (p := ⟨w.heap.size, 26 + t, none⟩) (Nat.le_refl _) (.int .i64 0)
        generalize World.setCell w2 ⟨w.heap.size, 26 + t, none⟩ (.int .i64 0) = w3 at *
        clear fu gu A1 A6 AB
        have fu := C1.frozen f
        have gu := C1.cell (i := f) (by simp; omega)
        rw [D.out] at gu
        go_upto_region 14 with fail
        have E1 := C1.set f (z - 1)
        have E6 := C6.other (show w.heap.size + 1 ≠ w.heap.size by omega) f (.int .i64 (z - 1))
        have EB := CB.setCell (p := ⟨w.heap.size, f, none⟩) (Nat.le_refl _) (.int .i64 (z - 1))
        generalize World.setCell w3 ⟨w.heap.size, f, none⟩ (.int .i64 (z - 1)) = w4 at *
        clear fu gu C1 C6 CB
        have fu := E1.frozen t
        have gu := E1.cell (i := t) (by simp; omega)
        rw [D2.out] at gu
        go_upto_region 15 with fail
        have F1 := E1.set t (v + 1)
        have F6 := E6.other (show w.heap.size + 1 ≠ w.heap.size by omega) t (.int .i64 (v + 1))
        have FB := EB.setCell (p := ⟨w.heap.size, t, none⟩) (Nat.le_refl _) (.int .i64 (v + 1))
        generalize World.setCell w4 ⟨w.heap.size, t, none⟩ (.int .i64 (v + 1)) = w5 at *
        clear fu gu E1 E6 EB
        rw [← hHit.out] at F1
        have hl : (hitS S f t).length = 52 := by unfold hitS; simp [hS]
        go_wp2_with (first
          | refine wpList_load_sd rfl (.tmp 3) rfl w.heap.size rfl _ hl F1 ?_
          | (refine wpList_store_sd rfl (.tmp 6) (.tmp 84) rfl (w.heap.size + 1) (hitS S f t) noS hl rfl rfl rfl F6 ?_; intro w6 k6 kk6))
        refine bodyPost_ret (results_sb rfl _ _ (w.heap.size + 1) rfl (hitS S f t) hl k6) rfl ⟨?_, ?_⟩
        · rw [HV.out]; rfl
        · exact FB.trans ((kk6.mono (Y := fun k => w.heap.size ≤ k) (fun k _ e => by omega)).below (by have := FB.size; omega) (fun k hk e => by omega))
      · have q2 : ((f : Int) == 25) = false := by simp; omega
        have q3 : ((f : Int) != 25) = true := by simp; omega
        clear e26
        go_upto_region 11 with fail
        go_region
        go_upto_region 12 with fail
        have A1 := (K0.set 26 (x + u))
        have A6 := (K6.other (show w.heap.size + 1 ≠ w.heap.size by omega) 26 (.int .i64 (x + u)))
        have AB := B1.setCell (p := ⟨w.heap.size, 26, none⟩) (Nat.le_refl _) (.int .i64 (x + u))
        have A1 := hide (show Blk (World.drew (w1.setCell ⟨w.heap.size, 26, none⟩ (.int .i64 (x + u)))) w.heap.size 54 (S.set 26 (x + u)) from A1)
        have A6 := hide (show Blk (World.drew (w1.setCell ⟨w.heap.size, 26, none⟩ (.int .i64 (x + u)))) (w.heap.size + 1) 54 noS from A6)
        have AB := hide AB.drew
        have fu := A1.out.frozen (26 + t)
        have gu := A1.out.cell (i := 26 + t) (by simp; omega)
        clear c1 c2 c3 c4 f26 K0 K6 B1
        generalize World.drew (w1.setCell ⟨w.heap.size, 26, none⟩ (.int .i64 (x + u))) = w2 at *
        go_upto_region 13 with fail
        have C1 := A1.out.set (26 + t) 0
        have C6 := A6.out.other (show w.heap.size + 1 ≠ w.heap.size by omega) (26 + t) (.int .i64 0)
        have CB := AB.out.setCell (p := ⟨w.heap.size, 26 + t, none⟩) (Nat.le_refl _) (.int .i64 0)
        generalize World.setCell w2 ⟨w.heap.size, 26 + t, none⟩ (.int .i64 0) = w3 at *
        clear fu gu A1 A6 AB
        have fu := C1.frozen f
        have gu := C1.cell (i := f) (by simp; omega)
        rw [D.out] at gu
        go_upto_region 14 with fail
        have E1 := C1.set f (z - 1)
        have E6 := C6.other (show w.heap.size + 1 ≠ w.heap.size by omega) f (.int .i64 (z - 1))
        have EB := CB.setCell (p := ⟨w.heap.size, f, none⟩) (Nat.le_refl _) (.int .i64 (z - 1))
        generalize World.setCell w3 ⟨w.heap.size, f, none⟩ (.int .i64 (z - 1)) = w4 at *
        clear fu gu C1 C6 CB
        have fu := E1.frozen t
        have gu := E1.cell (i := t) (by simp; omega)
        rw [D2.out] at gu
        go_upto_region 15 with fail
        have F1 := E1.set t (v + 1)
        have F6 := E6.other (show w.heap.size + 1 ≠ w.heap.size by omega) t (.int .i64 (v + 1))
        have FB := EB.setCell (p := ⟨w.heap.size, t, none⟩) (Nat.le_refl _) (.int .i64 (v + 1))
        generalize World.setCell w4 ⟨w.heap.size, t, none⟩ (.int .i64 (v + 1)) = w5 at *
        clear fu gu E1 E6 EB
        rw [← hHit.out] at F1
        have hl : (hitS S f t).length = 52 := by unfold hitS; simp [hS]
        go_wp2_with (first
          | refine wpList_load_sd rfl (.tmp 3) rfl w.heap.size rfl _ hl F1 ?_
          | (refine wpList_store_sd rfl (.tmp 6) (.tmp 84) rfl (w.heap.size + 1) (hitS S f t) noS hl rfl rfl rfl F6 ?_; intro w6 k6 kk6))
        refine bodyPost_ret (results_sb rfl _ _ (w.heap.size + 1) rfl (hitS S f t) hl k6) rfl ⟨?_, ?_⟩
        · rw [HV.out]; rfl
        · exact FB.trans ((kk6.mono (Y := fun k => w.heap.size ≤ k) (fun k _ e => by omega)).below (by have := FB.size; omega) (fun k hk e => by omega))

theorem step_any (S : List Int) (hS : S.length = 52) (hr : ∀ i, i < 52 → -1000 ≤ S.getD i 0 ∧ S.getD i 0 ≤ 1000) (f p : Nat) (hf : 1 ≤ f ∧ f ≤ 25) (hp : 1 ≤ p ∧ p ≤ 6) (w : World) :
    Calls Try.prog 31 #[.agg (ivs S).toArray, .int .i64 f, .int .i64 p] w fun e w' => e = .returned (stpV (stp S f p)) ∧ Below w.heap.size w w' := by
  by_cases h1 : S.getD f 0 = 0 ∨ (f ≠ 25 ∧ 0 < S.getD 25 0)
  · exact step_none S hS f p hf h1 w
  · by_cases h2 : f ≤ p
    · exact step_off S hS hr f p hf hp h1 h2 w
    · exact step_move S hS hr f p hf hp h1 (f - p) (by omega) (by omega) w

end Go.Proofs.Ytmboikpcbkiepaa
