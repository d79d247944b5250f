/-
  What crib.pointsOf, crib.alikeAtEnd, crib.isRow and crib.rowAtEnd answer. No conditions beyond those that each theorem bears.
-/
import Derived.Test.YtneafmjbekafmaaPegMath
import Derived.Test.YtneafmjbekafmaaShelf
namespace Go.Proofs.Ytneafmjbekafmaa
open Go.RowKit Go.Shelf

set_option maxHeartbeats 1000000 in
theorem sumOf_any (a : Option Addr) (n c : Nat) (L : List Nat) (hlt : ∀ x ∈ L, x < 52) (hn : n ≤ 13) (w : World) (h : Rd w a n c (toI L)) :
    Calls Try.prog 32 #[.slice a n c] w fun e w' => e = .returned (.int .i64 (sumP L n)) ∧ w' = w := by
  have hcm := h.max
  have hcn := h.cap
  unfold maxLen at hcm
  have hLl : Hid (L.length = n) := hide (by have := h.len; rwa [toI_length] at this)
  have HH := hide h
  clear h
  go_enter Try.func32, Try.ntmps32
  go_wp2
  go_loop [3, 8] (fun s v => ∃ k : Nat, k ≤ n ∧ v = .int .i64 k ∧ s = .int .i64 (sumP L k)) (fun _ v => n - (intOf v).toNat)
  case atStart => exact ⟨0, by omega, rfl, rfl⟩
  case round =>
    obtain ⟨k, hk, rfl, rfl⟩ := hrel
    have hs := sumP_le L k
    by_cases hlt' : k < n
    · have hkn : (k : Int) < (n : Int) := by omega
      obtain ⟨b, off, ha, hc⟩ := HH.out.cells (by omega)
      subst ha
      have r1 := hc k hlt'
      rw [toI_getD] at r1
      clear hc
      have hm := hlt _ (mem_getD L k (by rw [hLl.out]; exact hlt'))
      have hS : Hid (sumP L (k + 1) = sumP L k + ptC (L.getD k 0)) := rfl
      obtain ⟨x, hx⟩ : ∃ x, L.getD k 0 = x := ⟨_, rfl⟩
      rw [hx] at r1 hm hS
      have PT := hide (points_any x hm)
      have hp := (ptC_bd x).2
      obtain ⟨y, hy⟩ : ∃ y, ptC x = y := ⟨_, rfl⟩
      rw [hy] at PT hS hp
      clear hx hy
      go_wp2_with fail
      refine (PT.out _).mono ?_
      rintro e w1 ⟨rfl, hw⟩
      subst w1
      go_wp2
      go_round
      case rel => exact ⟨k + 1, by omega, by go_num, by rw [hS.out]; go_num⟩
      case measure => simp [intOf]; omega
    · obtain rfl : k = n := by omega
      have hkn : ¬ (k : Int) < (k : Int) := by omega
      go_wp2
      go_ret
      exact ⟨rfl, rfl⟩

theorem sameE_one (L : List Nat) : sameE L 1 := fun j hj => by
  obtain rfl : j = 0 := by omega
  rfl

theorem rkE_cell {w : World} {b off n : Nat} {L : List Nat} (hc : ∀ i, i < n → w.cell? ⟨b, off + i, none⟩ = some (.int .i64 ((toI L).getD i 0))) {k : Nat} (hk : k < n) :
    w.cell? ⟨b, off + (n - 1 - k), none⟩ = some (.int .i64 (L.getD (n - 1 - k) 0 : Nat)) := by
  have := hc (n - 1 - k) (by omega)
  rwa [toI_getD] at this

set_option maxHeartbeats 1000000 in
theorem alike_any (a : Option Addr) (n c : Nat) (L : List Nat) (hlt : ∀ x ∈ L, x < 52) (h1 : 1 ≤ n) (hn : n ≤ 13) (w : World) (h : Rd w a n c (toI L)) :
    Calls Try.prog 33 #[.slice a n c] w fun e w' => ∃ K, Alike L K ∧ e = .returned (.int .i64 (K : Nat)) ∧ w' = w := by
  have hcm := h.max
  have hcn := h.cap
  unfold maxLen at hcm
  have hL : L.length = n := by have := h.len; rwa [toI_length] at this
  obtain ⟨b, off, rfl, hc⟩ := h.cells (by omega)
  have HC := hide hc
  have HL := hide hL
  have r0 := rkE_cell hc (k := 0) (by omega)
  have hm0 := hlt _ (mem_getD L (n - 1 - 0) (by omega))
  have HE0 : Hid (rkE L 0 = rkC (L.getD (n - 1 - 0) 0)) := hide (by rw [rkE, hL])
  rw [Nat.sub_zero] at r0 hm0 HE0
  obtain ⟨x, hx⟩ : ∃ x, L.getD (n - 1) 0 = x := ⟨_, rfl⟩
  rw [hx] at r0 hm0 HE0
  have RK0 := hide (rankOf_any x hm0)
  have hr0 := rkC_lt x
  obtain ⟨r, hr⟩ : ∃ r, rkC x = r := ⟨_, rfl⟩
  rw [hr] at RK0 HE0 hr0
  have e1 : (n : Int) - 1 = ((n - 1 : Nat) : Int) := by omega
  have hb1 : ((n - 1 : Nat) : Int) < (n : Int) := by omega
  clear hc h hL hx hr
  go_enter Try.func33, Try.ntmps33
  go_wp2_with fail
  refine (RK0.out _).mono ?_
  rintro e w1 ⟨rfl, hw⟩
  subst w1
  go_wp2_with fail
  go_loop [4] (fun v => ∃ k : Nat, 1 ≤ k ∧ k ≤ n ∧ v = .int .i64 k ∧ Hid (sameE L k)) (fun v => n - (intOf v).toNat)
  case atStart => exact ⟨1, by omega, by omega, rfl, sameE_one L⟩
  case round =>
    obtain ⟨k, hk1, hk, rfl, hs⟩ := hrel
    by_cases hlt' : k < n
    · have hkn : (k : Int) < (n : Int) := by omega
      have rk := rkE_cell HC.out hlt'
      have hmk := hlt _ (mem_getD L (n - 1 - k) (by have := HL.out; omega))
      have HEk : Hid (rkE L k = rkC (L.getD (n - 1 - k) 0)) := hide (by rw [rkE, HL.out])
      obtain ⟨y, hy⟩ : ∃ y, L.getD (n - 1 - k) 0 = y := ⟨_, rfl⟩
      rw [hy] at rk hmk HEk
      have RK := hide (rankOf_any y hmk)
      obtain ⟨ry, hry⟩ : ∃ r, rkC y = r := ⟨_, rfl⟩
      rw [hry] at RK HEk
      clear hy hry
      obtain ⟨p, hp⟩ : ∃ p, n - 1 - k = p := ⟨_, rfl⟩
      rw [hp] at rk
      have e2 : (n : Int) - 1 - (k : Int) = (p : Int) := by omega
      have e3 : ((n - 1 : Nat) : Int) - (k : Int) = (p : Int) := by omega
      have hpn : (p : Int) < (n : Int) := by omega
      clear hp
      by_cases he : ry = r
      · have HS2 : Hid (sameE L (k + 1)) := hide (fun j hj => by
          by_cases e : j = k
          · subst e; rw [HEk.out, HE0.out, he]
          · exact hs.out j (by omega))
        subst he
        go_wp2_with fail
        refine (RK.out _).mono ?_
        rintro e w1 ⟨rfl, hw⟩
        subst w1
        go_wp2
        go_round
        case rel => exact ⟨k + 1, by omega, by omega, by go_num, HS2⟩
        case measure => simp [intOf]; omega
      · have hb : ((ry : Int) == (r : Int)) = false := by simp; omega
        have AL : Hid (Alike L k) := hide ⟨hk1, by rw [HL.out]; exact hk, hs.out, fun _ e => he (by rw [HEk.out, HE0.out] at e; exact e)⟩
        clear he
        go_wp2_with fail
        refine (RK.out _).mono ?_
        rintro e w1 ⟨rfl, hw⟩
        subst w1
        go_wp2
        go_ret
        exact ⟨k, AL.out, rfl, rfl⟩
    · obtain rfl : k = n := by omega
      have hkn : ¬ (k : Int) < (k : Int) := by omega
      have hkd : decide ((k : Int) < (k : Int)) = false := by simp
      have AL : Hid (Alike L k) := hide ⟨hk1, by rw [HL.out]; exact hk, hs.out, fun h => by have := HL.out; omega⟩
      go_wp2
      go_ret
      exact ⟨k, AL.out, rfl, rfl⟩

/-- A number as a value. -/
def encN (x : Nat) : Value := .int .i64 (x : Int)
def posP (x : Nat) : Bool := decide (0 < x)

set_option maxHeartbeats 400000 in
theorem pos_call (x : Nat) (W : World) : Calls Try.prog 57 #[encN x] W fun e w' => e = .returned (.bool (posP x)) ∧ w' = W := by
  unfold encN posP
  by_cases h : 0 < x
  · have h' : (0 : Int) < (x : Int) := by omega
    have HD : Hid (decide (0 < x) = true) := hide (by simp [h])
    clear h
    go_enter Try.func57, Try.ntmps57
    go_wp2
    go_ret
    exact ⟨ret_bool (by rw [HD.out]), rfl⟩
  · obtain rfl : x = 0 := by omega
    go_enter Try.func57, Try.ntmps57
    go_wp2
    go_ret
    exact ⟨rfl, rfl⟩

theorem first_any (b : Nat) (S : List Nat) (h : 0 < S.length) (w : World) (hr : w.rangeAt b 0 (ivs (tms S))) :
    Calls Try.prog 58 #[.slice (some ⟨b, 0, none⟩) 13 13, .func (.func 57) #[] #[]] w fun e w' => e = .returned (.int .i64 (fstI (tms S) : Nat)) ∧ ∃ q, w' = w.drewN q := by
  obtain ⟨hf, hp⟩ := tms_pos S h
  have hl := tms_length S
  have g : ∀ j, j < 13 → (tms S)[j]! = (tms S).getD j 0 := fun j hj => by simp [List.getD, hl, hj]
  have := Try.slices_IndexFunc encN posP 57 #[] (enters_of Try.func57 (by kernel_rfl) rfl) b 0 13 13 (tms S) w (fun W x _ => (pos_call x W).mono fun e w' ⟨he, hw⟩ => ⟨he, 0, hw⟩) (by omega) (by omega) (fun j hj => by
    have hj13 : j < 13 := by omega
    rw [g j hj13]
    refine hr j _ ?_
    simp [ivs, toI, encN, List.getD, hl, hj13])
  rw [Lib.idxBy_hit (fun _ y => posP y) (tms S) 13 (fstI (tms S)) default hf (by omega) (by show posP _ = true; rw [g _ hf, posP, decide_eq_true_eq]; exact hp) (fun j hj => by show posP _ = false; rw [g j (by omega), fst_min S j hj]; rfl)] at this
  exact this

set_option maxRecDepth 100000 in
set_option maxHeartbeats 2000000 in
theorem isRow_any (a : Option Addr) (n c : Nat) (S : List Nat) (hlt : ∀ x ∈ S, x < 52) (h1 : 1 ≤ n) (hn : n ≤ 13) (w : World) (h : Rd w a n c (toI S)) :
    Calls Try.prog 52 #[.slice a n c] w fun e w' => e = .returned (.bool (rowB S)) ∧ Below w.heap.size w w' := by
  have hL : S.length = n := by have := h.len; rwa [toI_length] at this
  have HL := hide hL
  have HH := hide h
  obtain ⟨hf, hp⟩ := tms_pos S (by omega)
  have HRB : Hid (rowB S = decide (fstI (tms S) + n ≤ 13 ∧ ∀ i, i < n → (tms S).getD (fstI (tms S) + i) 0 = 1)) := hide (by rw [rowB, hL])
  have TO := hide (timesOf_any a n c S hlt hn w h)
  have FS := hide (fun b w hr => first_any b S (by omega) w hr)
  have hTL := tms_length S
  have HT13 : Hid (∀ r, (tms S).getD r 0 ≤ 13) := hide (fun r => by
    by_cases hr : r < 13
    · rw [tms_getD S r hr]
      refine Nat.le_trans List.count_le_length ?_
      rw [List.length_map, hL]; exact hn
    · rw [List.getD_eq_getElem?_getD, List.getElem?_eq_none (by rw [hTL]; omega)]; simp)
  generalize hTT : tms S = T at *
  generalize fstI T = f at *
  have HTL := hide hTL
  clear hTL hTT hL h hp
  go_enter Try.func52, Try.ntmps52
  go_wp2_with fail
  refine TO.out.mono ?_
  rintro e w4 ⟨rfl, hB4⟩
  have HB4 := hide hB4
  clear hB4 TO
  unfold arrT
  have KB : Blk (w4.alloc (Obj.cells #[.int .i64 0, .int .i64 0, .int .i64 0, .int .i64 0, .int .i64 0, .int .i64 0, .int .i64 0, .int .i64 0, .int .i64 0, .int .i64 0, .int .i64 0, .int .i64 0, .int .i64 0] 58)) w4.heap.size 58 (List.replicate 13 0) := Blk.new w4 58 (List.replicate 13 0) _ rfl
  have hth : (w4.alloc (Obj.cells #[.int .i64 0, .int .i64 0, .int .i64 0, .int .i64 0, .int .i64 0, .int .i64 0, .int .i64 0, .int .i64 0, .int .i64 0, .int .i64 0, .int .i64 0, .int .i64 0, .int .i64 0] 58)).there w4.heap.size 0 T.length := by rw [HTL.out]; exact KB.there
  have hst := store57 (w4.alloc (Obj.cells #[.int .i64 0, .int .i64 0, .int .i64 0, .int .i64 0, .int .i64 0, .int .i64 0, .int .i64 0, .int .i64 0, .int .i64 0, .int .i64 0, .int .i64 0, .int .i64 0, .int .i64 0] 58)) w4.heap.size T hth
  have hil : (ivs T).length = 13 := by rw [ivs_length, HTL.out]
  have RG0 := hide (World.rangeAt_setCells_same (w4.alloc (Obj.cells #[.int .i64 0, .int .i64 0, .int .i64 0, .int .i64 0, .int .i64 0, .int .i64 0, .int .i64 0, .int .i64 0, .int .i64 0, .int .i64 0, .int .i64 0, .int .i64 0, .int .i64 0] 58)) w4.heap.size 0 (ivs T) (by rw [ivs_length]; exact hth))
  have B50 : Hid (Below w4.heap.size w4 ((w4.alloc (Obj.cells #[.int .i64 0, .int .i64 0, .int .i64 0, .int .i64 0, .int .i64 0, .int .i64 0, .int .i64 0, .int .i64 0, .int .i64 0, .int .i64 0, .int .i64 0, .int .i64 0, .int .i64 0] 58)).setCells w4.heap.size 0 (ivs T))) := ((Below.refl _ w4).alloc (Nat.le_refl _) _).trans (setCells_below _ _ _ (Nat.le_refl _))
  clear hth KB
  go_wp2_with fail
  generalize (w4.alloc (Obj.cells #[.int .i64 0, .int .i64 0, .int .i64 0, .int .i64 0, .int .i64 0, .int .i64 0, .int .i64 0, .int .i64 0, .int .i64 0, .int .i64 0, .int .i64 0, .int .i64 0, .int .i64 0] 58)).setCells w4.heap.size 0 (ivs T) = w5 at *
  clear hst hil
  refine (FS.out _ _ RG0.out).mono ?_
  rintro e w6 ⟨rfl, q, hw6⟩
  subst hw6
  have HB5 := hide (HB4.out.trans (B50.out.mono HB4.out.size))
  have HC : Hid (∀ i, i < 13 → w5.cell? ⟨w4.heap.size, i, none⟩ = some (.int .i64 (T.getD i 0 : Nat))) := hide (fun i hi => by
    have := RG0.out i (.int .i64 (T.getD i 0 : Nat)) (by simp [ivs, toI, List.getD, HTL.out, hi])
    rwa [Nat.zero_add] at this)
  clear B50 HB4 RG0 FS
  go_wp2_with fail
  go_loop [14] (fun v => ∃ i : Nat, i ≤ n ∧ v = .int .i64 i ∧ Hid (∀ j, j < i → f + j < 13 ∧ T.getD (f + j) 0 = 1)) (fun v => n - (intOf v).toNat)
  case atStart => exact ⟨0, by omega, rfl, fun j hj => by omega⟩
  case round =>
    obtain ⟨i, hi, rfl, hj⟩ := hrel
    by_cases hin : i < n
    · have hin' : (i : Int) < (n : Int) := by omega
      by_cases h13 : f + i < 13
      · have h13' : ¬ (13 : Int) ≤ (f : Int) + (i : Int) := by omega
        have d13 : decide ((13 : Int) ≤ (f : Int) + (i : Int)) = false := by simp; omega
        have c1 := HC.out (f + i) h13
        have hm13 := HT13.out (f + i)
        obtain ⟨m, hm⟩ : ∃ m, T.getD (f + i) 0 = m := ⟨_, rfl⟩
        rw [hm] at c1 hm13
        have HM := hide hm
        clear hm
        obtain ⟨p, hp⟩ : ∃ p, f + i = p := ⟨_, rfl⟩
        have e1 : (f : Int) + (i : Int) = (p : Int) := by omega
        rw [hp] at c1
        have hp13 : (p : Int) < 13 := by omega
        by_cases h1 : m = 1
        · have HJ : Hid (∀ j, j < i + 1 → f + j < 13 ∧ T.getD (f + j) 0 = 1) := hide (fun j hj' => by
            by_cases e : j = i
            · subst e; exact ⟨h13, HM.out.trans h1⟩
            · exact hj.out j (by omega))
          subst h1
          go_wp2
          go_round
          case rel => exact ⟨i + 1, by omega, by go_num, HJ⟩
          case measure => simp [intOf]; omega
        · have hb : ((m : Int) != 1) = true := by simp; omega
          have HF : Hid (rowB S = false) := hide (by
            rw [HRB.out, decide_eq_false_iff_not]
            intro hh
            exact h1 (HM.out.symm.trans (hh.2 i hin)))
          go_wp2
          go_ret
          exact ⟨ret_bool HF.out.symm, HB5.out.trans (drewN_below _ _ _)⟩
      · have h13' : (13 : Int) ≤ (f : Int) + (i : Int) := by omega
        have HF : Hid (rowB S = false) := hide (by
          rw [HRB.out, decide_eq_false_iff_not]
          intro hh
          omega)
        go_wp2
        go_ret
        exact ⟨ret_bool HF.out.symm, HB5.out.trans (drewN_below _ _ _)⟩
    · obtain rfl : i = n := by omega
      have hin' : ¬ (i : Int) < (i : Int) := by omega
      have HF : Hid (rowB S = true) := hide (by
        rw [HRB.out, decide_eq_true_eq]
        refine ⟨?_, fun j hj' => (hj.out j hj').2⟩
        have := (hj.out (i - 1) (by omega)).1
        omega)
      go_wp2
      go_ret
      exact ⟨ret_bool HF.out.symm, HB5.out.trans (drewN_below _ _ _)⟩

end Go.Proofs.Ytneafmjbekafmaa
