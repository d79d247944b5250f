/-
  An end that a row of all pieces may begin with. No conditions beyond those that each theorem bears.
-/
import Derived.Test.YtjcglpnpdalcjaaRowFrom
import Derived.Deep.MidRow
namespace Go.Proofs.Ytjcglpnpdalcjaa
open Go.RowKit
attribute [local go_sem] build35 run_eq35 guard35

def ivs (L : List Nat) : List Value := L.map fun x : Nat => Value.int .i64 (x : Int)
theorem ivs_length (L : List Nat) : (ivs L).length = L.length := by simp [ivs]

/-- A block of numbers. -/
def Blk (w : World) (b : Nat) (L : List Nat) : Prop := w.heap[b]? = some (.cells (ivs L).toArray 57 (0, 0))
theorem Blk.cell {w : World} {b : Nat} {L : List Nat} (h : Blk w b L) {i : Nat} (hi : i < L.length) : w.cell? ⟨b, i, none⟩ = some (.int .i64 (L.getD i 0)) := by
  have h' : w.heap[b]? = _ := h
  simp [World.cell?, h', ivs, List.getD, hi]
theorem Blk.frozen {w : World} {b : Nat} {L : List Nat} (h : Blk w b L) (i : Nat) : w.frozen? ⟨b, i, none⟩ = false := by
  have h' : w.heap[b]? = _ := h
  simp [World.frozen?, h']
theorem Blk.set {w : World} {b : Nat} {L : List Nat} (h : Blk w b L) (i x : Nat) : Blk (w.setCell ⟨b, i, none⟩ (.int .i64 x)) b (L.set i x) := by
  have h' : w.heap[b]? = _ := h
  simp [Blk, World.setCell, Array.getElem?_modify, h', ivs, List.map_set]
theorem Blk.lt {w : World} {b : Nat} {L : List Nat} (h : Blk w b L) : b < w.heap.size := (Array.getElem?_eq_some_iff.1 h).1
theorem Blk.range {w : World} {b : Nat} {L : List Nat} (h : Blk w b L) : w.rangeAt b 0 (ivs L) := by
  intro j v hv
  have h' : w.heap[b]? = _ := h
  simp only [World.cell?, h', Nat.zero_add]
  simpa using hv

theorem size57 : (Try.prog.info? 57).map (·.size) = some 10 := by kernel_rfl

theorem run_idx57 (xs : List Nat) (hl : xs.length = 10) (k : Nat) (hk : k < 10) (w : World) : (Instr.index 57 (.agg (ivs xs).toArray) (.int .i64 k)).run Try.prog w = .ok (.int .i64 (xs.getD k 0)) w := by
  have hg : (ivs xs)[k]? = some (.int .i64 ((xs.getD k 0 : Nat) : Int)) := by simp [ivs, List.getD, hl, hk]
  have hk2 : ¬ 10 ≤ k := by omega
  simp [Instr.index, run_underlying Try.underlying57, asIntOf, part, go_sem, hg, hk2]

/-- How many ends have so many pips. -/
def endN (ps : List Pc) (u : Nat) : Nat := (ps.map fun p => (if p.1 = (u : Int) then 1 else 0) + (if p.2 = (u : Int) then 1 else 0)).sum
def endL (ps : List Pc) : List Nat := (List.range 10).map (endN ps)
theorem endL_length (ps : List Pc) : (endL ps).length = 10 := by simp [endL]
theorem endL_get (ps : List Pc) (k : Nat) (hk : k < 10) : (endL ps).getD k 0 = endN ps k := by simp [endL, List.getD, hk]
theorem endN_le (ps : List Pc) (u : Nat) : endN ps u ≤ 2 * ps.length := by
  induction ps with
  | nil => simp [endN]
  | cons p ps ih =>
    have e : endN (p :: ps) u = ((if p.1 = (u : Int) then 1 else 0) + (if p.2 = (u : Int) then 1 else 0)) + endN ps u := by simp [endN]
    rw [e, List.length_cons]
    split <;> split <;> omega

theorem getD_get (l : List Nat) (i : Nat) (h : i < l.length) : l.getD i 0 = l[i] := by simp [List.getD, List.getElem?_eq_getElem h]

theorem endL_snoc (ps : List Pc) (X Y : Nat) (_hX : X < 10) (hY : Y < 10) :
    ((endL ps).set X (endN ps X + 1)).set Y (((endL ps).set X (endN ps X + 1)).getD Y 0 + 1) = endL (ps ++ [((X : Int), (Y : Int))]) := by
  have e1 : ∀ t (h : t < (endL ps).length), (endL ps)[t] = endN ps t := fun t h => by simp [endL]
  obtain ⟨EY, hEY⟩ : ∃ EY, EY = ((endL ps).set X (endN ps X + 1)).getD Y 0 := ⟨_, rfl⟩
  rw [← hEY]
  have e3 : EY = if X = Y then endN ps X + 1 else endN ps Y := by
    have hYl : Y < ((endL ps).set X (endN ps X + 1)).length := by simp [endL, hY]
    rw [hEY, getD_get _ _ hYl, List.getElem_set]
    split
    · rfl
    · rw [e1]
  clear hEY
  apply List.ext_getElem (by simp [endL])
  intro t h1 h2
  have e2 : ∀ h, (endL (ps ++ [((X : Int), (Y : Int))]))[t]'h = endN ps t + ((if (X : Int) = (t : Int) then 1 else 0) + (if (Y : Int) = (t : Int) then 1 else 0)) := fun h => by simp [endL, endN]
  rw [e2, List.getElem_set, List.getElem_set]
  by_cases c1 : Y = t
  · subst c1
    rw [if_pos rfl, e3]
    by_cases c2 : X = Y
    · rw [if_pos c2, if_pos (by omega), if_pos rfl, c2]
    · rw [if_neg c2, if_neg (by omega), if_pos rfl]
  · have n1 : ¬ (Y : Int) = (t : Int) := by omega
    rw [if_neg c1]
    by_cases c2 : X = t
    · rw [if_pos c2, if_pos (by omega), if_neg n1, c2]
    · rw [if_neg c2, e1, if_neg (by omega), if_neg n1]; omega

/-- The last odd one among the first k, and how many. -/
def begTo (E : Nat → Nat) (f0 : Int) : Nat → Int × Nat
  | 0 => (f0, 0)
  | k + 1 => if E k % 2 = 1 then ((k : Int), (begTo E f0 k).2 + 1) else begTo E f0 k
def begF (ps : List Pc) : Int × Nat := begTo (endN ps) (ps.getD 0 (0, 0)).1 10

theorem begTo_le (E : Nat → Nat) (f0 : Int) (k : Nat) : (begTo E f0 k).2 ≤ k := by
  induction k with
  | zero => simp [begTo]
  | succ k ih =>
    rw [begTo]
    split
    · simp only; omega
    · omega

theorem pc_nat {p : Pc} (h : pcB p = true) : ∃ X Y : Nat, p = ((X : Int), (Y : Int)) ∧ X < 10 ∧ Y < 10 := by
  obtain ⟨x, y⟩ := p
  simp [pcB, endB] at h
  exact ⟨x.toNat, y.toNat, Prod.ext (show x = ((x.toNat : Nat) : Int) by omega) (show y = ((y.toNat : Nat) : Int) by omega), by omega, by omega⟩
theorem pcs_nat {ps : List Pc} (h : pcsB ps = true) {i : Nat} (hi : i < ps.length) : ∃ X Y : Nat, ps.getD i (0, 0) = ((X : Int), (Y : Int)) ∧ X < 10 ∧ Y < 10 :=
  pc_nat (List.all_eq_true.1 h _ (by simp [List.getD, hi]))

theorem ret_tup {x : Int} {a b : Bool} (h : a = b) : Ending.returned (.tuple #[.int .i64 x, .bool a]) = .returned (.tuple #[.int .i64 x, .bool b]) := by rw [h]
theorem le2 (S : Nat) : decide ((S : Int) ≤ 2) = decide (S ≤ 2) := decide_eq_decide.2 (by omega)

set_option maxHeartbeats 4000000 in
theorem beginning_any (a : Option Addr) (n c : Nat) (ps : List Pc) (w : World) (h : Rp w a n c ps) (hn : n ≤ 1000) (hp : pcsB ps = true) :
    Calls Try.prog 28 #[.slice a n c] w fun e w' => e = .returned (.tuple #[.int .i64 (begF ps).1, .bool (decide ((begF ps).2 ≤ 2))]) ∧ Below w.heap.size w w' := by
  have HH := hide h
  have HP := hide hp
  clear h hp
  obtain ⟨BF, hBF⟩ : ∃ b, b = begF ps := ⟨_, rfl⟩
  rw [← hBF]
  have HBF := hide hBF
  clear hBF
  go_enter Try.func28, Try.ntmps28
  go_wp2_with fail
  go_loopw [13] (fun v wr => ∃ i : Nat, i ≤ n ∧ v = .int .i64 i ∧ Hid (Blk wr w.heap.size (endL (ps.take i))) ∧ Hid (Below w.heap.size w wr)) (fun v _ => n - (intOf v).toNat)
  case atStart => exact ⟨0, by omega, rfl, hide (by
      have := heap_alloc_new w (.cells #[.int .i64 0, .int .i64 0, .int .i64 0, .int .i64 0, .int .i64 0, .int .i64 0, .int .i64 0, .int .i64 0, .int .i64 0, .int .i64 0] 57)
      exact this), hide ((Below.refl _ _).alloc (Nat.le_refl _) _)⟩
  case round =>
    obtain ⟨i, hi, rfl, HK, HB⟩ := hrel
    by_cases hlt : i < n
    · have HR := hide (HH.out.mono HB.out)
      obtain ⟨b, off, ha, hc⟩ := HR.out.cells (by omega)
      subst ha
      obtain ⟨r1, r2⟩ := hc i hlt
      clear hc
      have hzl : i < ps.length := by rw [HH.out.len]; exact hlt
      obtain ⟨X, Y, hXY, hX, hY⟩ := pcs_nat HP.out hzl
      rw [hXY] at r1 r2
      simp only at r1 r2
      have HT : Hid (ps.take (i + 1) = ps.take i ++ [((X : Int), (Y : Int))]) := hide (by rw [take_snocP ps i hzl, hXY])
      clear hXY hzl
      have hX' : (X : Int) < 10 := by omega
      have hY' : (Y : Int) < 10 := by omega
      have b0 := HK.out.cell (i := X) (by rw [endL_length]; exact hX)
      rw [endL_get _ _ hX] at b0
      have f0 := HK.out.frozen X
      have B0 : Below wr.heap.size wr (wr.alloc (.cells #[.int .i64 (X : Int), .int .i64 (Y : Int)] 35)) := (Below.refl _ _).alloc (Nat.le_refl _) _
      have K1 : Blk (wr.alloc (.cells #[.int .i64 (X : Int), .int .i64 (Y : Int)] 35)) w.heap.size (endL (ps.take i)) := (B0.block _ HK.out.lt).trans HK.out
      have K2 := K1.set X (endN (ps.take i) X + 1)
      have c1 := K2.cell (i := Y) (by rw [List.length_set, endL_length]; exact hY)
      have f1 := K2.frozen Y
      have K3 := K2.set Y (((endL (ps.take i)).set X (endN (ps.take i) X + 1)).getD Y 0 + 1)
      rw [endL_snoc _ X Y hX hY, ← HT.out] at K3
      have b0' := K1.cell (i := X) (by rw [endL_length]; exact hX)
      rw [endL_get _ _ hX] at b0'
      have f0' := K1.frozen X
      have hE1 : endN (ps.take i) X ≤ 2000 := by have := endN_le (ps.take i) X; rw [List.length_take] at this; omega
      have hE2 : ((endL (ps.take i)).set X (endN (ps.take i) X + 1)).getD Y 0 ≤ 2001 := by
        have hYl : Y < ((endL (ps.take i)).set X (endN (ps.take i) X + 1)).length := by simp [endL, hY]
        rw [show ((endL (ps.take i)).set X (endN (ps.take i) X + 1)).getD Y 0 = ((endL (ps.take i)).set X (endN (ps.take i) X + 1))[Y] from getD_get _ _ hYl, List.getElem_set]
        split
        · omega
        · have := endN_le (ps.take i) Y; rw [List.length_take] at this; simp [endL]; omega
      generalize ((endL (ps.take i)).set X (endN (ps.take i) X + 1)).getD Y 0 = EY at *
      generalize endN (ps.take i) X = EX at *
      have HK3 := hide K3
      have HSZ := hide (show w.heap.size ≤ wr.heap.size from HB.out.size)
      have hne : ¬ w.heap.size = wr.heap.size := by have := HK.out.lt; omega
      clear K3 K2 K1 B0
      rw [show ((EX + 1 : Nat) : Int) = (EX : Int) + 1 from rfl] at c1 f1 HK3
      rw [show ((EY + 1 : Nat) : Int) = (EY : Int) + 1 from rfl] at HK3
      go_wp2_with fail
      go_roundw
      case rel => exact ⟨i + 1, by omega, by go_num, HK3, hide (((HB.out.alloc HB.out.size _).setCell (Nat.le_refl _) _).setCell (Nat.le_refl _) _)⟩
      case measure => simp [intOf]; omega
    · obtain rfl : i = n := by omega
      have hlt' : ¬ (i : Int) < (i : Int) := by omega
      have HKN : Hid (Blk wr w.heap.size (endL ps)) := hide (by
        have := HK.out
        rwa [List.take_of_length_le (by rw [HH.out.len]; exact Nat.le_refl _)] at this)
      have hix : ∀ (k : Nat), k < 10 → ∀ W : World, (Instr.index 57 (.agg (ivs (endL ps)).toArray) (.int .i64 k)).run Try.prog W = .ok (.int .i64 ((endN ps k : Nat) : Int)) W := fun k hk W => by
        rw [run_idx57 (endL ps) (endL_length ps) k hk W, endL_get ps k hk]
      have HIX := hide hix
      clear HK hix
      have HF0 : Hid (0 < i → ∃ b off, a = some ⟨b, off, none⟩ ∧ wr.cell? ⟨b, off, none⟩ = some (.int .i64 (ps.getD 0 (0, 0)).1)) := hide (fun h0 => by
        obtain ⟨b, off, ha, hc⟩ := (HH.out.mono HB.out).cells h0
        have := (hc 0 h0).1
        rw [Nat.zero_mul, Nat.add_zero] at this
        exact ⟨b, off, ha, this⟩)
      by_cases h0 : 0 < i
      · obtain ⟨b, off, ha, r0⟩ := HF0.out h0
        subst ha
        have h0' : (0 : Int) < (i : Int) := by omega
        go_wp2_with (refine wpList_load_mid rfl 57 _ rfl w.heap.size 0 rfl (ivs (endL ps)) _ HKN.out.range Try.underlying57 rfl (by rw [ivs_length, endL_length]; exact size57) ?_)
        go_loop [7, 8, 38] (fun f o u => ∃ k : Nat, k ≤ 10 ∧ u = .int .i64 k ∧ f = .int .i64 (begTo (endN ps) ((ps.getD 0 (0, 0)).1) k).1 ∧ o = .int .i64 ((begTo (endN ps) ((ps.getD 0 (0, 0)).1) k).2 : Nat)) (fun _ _ u => 10 - (intOf u).toNat)
        case atStart => exact ⟨0, by omega, rfl, rfl, rfl⟩
        case round =>
          obtain ⟨k, hk, rfl, rfl, rfl⟩ := hrel
          by_cases hk10 : k < 10
          · have hk' : (k : Int) < 10 := by omega
            have hI := HIX.out k hk10 wr
            have hle := begTo_le (endN ps) ((ps.getD 0 (0, 0)).1) k
            by_cases hodd : endN ps k % 2 = 1
            · have HST : Hid (begTo (endN ps) ((ps.getD 0 (0, 0)).1) (k + 1) = ((k : Int), (begTo (endN ps) ((ps.getD 0 (0, 0)).1) k).2 + 1)) := hide (by rw [begTo, if_pos hodd])
              have t1 : ((endN ps k : Nat) : Int).tmod 2 = 1 := by rw [Int.tmod_eq_emod_of_nonneg (by omega)]; omega
              have t2 : ((endN ps k : Nat) : Int) % 2 = 1 := by omega
              generalize (begTo (endN ps) ((ps.getD 0 (0, 0)).1) k).2 = O at *
              clear hodd
              go_wp2_with fail
              go_round
              case rel => exact ⟨k + 1, by omega, by go_num, by rw [HST.out], by rw [HST.out]; go_num⟩
              case measure => simp [intOf]; omega
            · have HST : Hid (begTo (endN ps) ((ps.getD 0 (0, 0)).1) (k + 1) = begTo (endN ps) ((ps.getD 0 (0, 0)).1) k) := hide (by rw [begTo, if_neg hodd])
              have t1 : ((endN ps k : Nat) : Int).tmod 2 = 0 := by rw [Int.tmod_eq_emod_of_nonneg (by omega)]; omega
              have t2 : ((endN ps k : Nat) : Int) % 2 = 0 := by omega
              clear hodd
              go_wp2_with fail
              go_round
              case rel => exact ⟨k + 1, by omega, by go_num, by rw [HST.out], by rw [HST.out]⟩
              case measure => simp [intOf]; omega
          · obtain rfl : k = 10 := by omega
            go_wp2_with fail
            refine bodyPost_ret (results_tmp2 rfl _ _ _) rfl ⟨?_, HB.out⟩
            rw [HBF.out, begF]
            exact ret_tup (le2 _)
      · obtain rfl : i = 0 := by omega
        have HF : Hid ((ps.getD 0 (0, 0)).1 = 0) := hide (by
          have : ps = [] := List.eq_nil_of_length_eq_zero HH.out.len
          rw [this]; rfl)
        go_wp2_with (refine wpList_load_mid rfl 57 _ rfl w.heap.size 0 rfl (ivs (endL ps)) _ HKN.out.range Try.underlying57 rfl (by rw [ivs_length, endL_length]; exact size57) ?_)
        go_loop [7, 8, 38] (fun f o u => ∃ k : Nat, k ≤ 10 ∧ u = .int .i64 k ∧ f = .int .i64 (begTo (endN ps) (0) k).1 ∧ o = .int .i64 ((begTo (endN ps) (0) k).2 : Nat)) (fun _ _ u => 10 - (intOf u).toNat)
        case atStart => exact ⟨0, by omega, rfl, rfl, rfl⟩
        case round =>
          obtain ⟨k, hk, rfl, rfl, rfl⟩ := hrel
          by_cases hk10 : k < 10
          · have hk' : (k : Int) < 10 := by omega
            have hI := HIX.out k hk10 wr
            have hle := begTo_le (endN ps) (0) k
            by_cases hodd : endN ps k % 2 = 1
            · have HST : Hid (begTo (endN ps) (0) (k + 1) = ((k : Int), (begTo (endN ps) (0) k).2 + 1)) := hide (by rw [begTo, if_pos hodd])
              have t1 : ((endN ps k : Nat) : Int).tmod 2 = 1 := by rw [Int.tmod_eq_emod_of_nonneg (by omega)]; omega
              have t2 : ((endN ps k : Nat) : Int) % 2 = 1 := by omega
              generalize (begTo (endN ps) (0) k).2 = O at *
              clear hodd
              go_wp2_with fail
              go_round
              case rel => exact ⟨k + 1, by omega, by go_num, by rw [HST.out], by rw [HST.out]; go_num⟩
              case measure => simp [intOf]; omega
            · have HST : Hid (begTo (endN ps) (0) (k + 1) = begTo (endN ps) (0) k) := hide (by rw [begTo, if_neg hodd])
              have t1 : ((endN ps k : Nat) : Int).tmod 2 = 0 := by rw [Int.tmod_eq_emod_of_nonneg (by omega)]; omega
              have t2 : ((endN ps k : Nat) : Int) % 2 = 0 := by omega
              clear hodd
              go_wp2_with fail
              go_round
              case rel => exact ⟨k + 1, by omega, by go_num, by rw [HST.out], by rw [HST.out]⟩
              case measure => simp [intOf]; omega
          · obtain rfl : k = 10 := by omega
            go_wp2_with fail
            refine bodyPost_ret (results_tmp2 rfl _ _ _) rfl ⟨?_, HB.out⟩
            rw [HBF.out, begF, HF.out]
            exact ret_tup (le2 _)

end Go.Proofs.Ytjcglpnpdalcjaa
