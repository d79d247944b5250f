/-
  Small functions on lists, of the laws, of the document and of the library, walked. No conditions beyond those that each theorem bears.
-/
import Derived.Test.YtnbaangnpoblfaaDoorIt
namespace Go.Proofs.YtnbaangnpoblfaaDoor
open Go.RowKit Go.Shelf

set_option maxHeartbeats 400000 in
theorem sameInts_any (a b : Option Addr) (n c m d : Nat) (xs ys : List Int) (w : World) (hx : Rd w a n c xs) (hy : Rd w b m d ys) :
    Calls Tryd.prog 37 #[.slice a n c, .slice b m d] w fun e w' => e = .returned (.bool (decide (xs = ys))) ∧ ∃ k, w' = w.drewN k := by
  have hmx := hx.max
  have hcx := hx.cap
  have hmy := hy.max
  have hcy := hy.cap
  unfold maxLen at hmx hmy
  by_cases hnm : n = m
  · subst hnm
    have hne : ((n : Int) != (n : Int)) = false := by simp
    by_cases h0 : n = 0
    · subst h0
      have ex : xs = [] := List.eq_nil_of_length_eq_zero hx.len
      have ey : ys = [] := List.eq_nil_of_length_eq_zero hy.len
      subst ex ey
      go_enter Tryd.func37, Tryd.ntmps37
      go_wp2
      refine wp_loop_rounds 1 ?_
      rw [rounds_succ]
      go_wp2
      go_ret
      exact ⟨rfl, 0, rfl⟩
    · obtain ⟨b1, o1, rfl, hc1⟩ := hx.cells (by omega)
      obtain ⟨b2, o2, rfl, hc2⟩ := hy.cells (by omega)
      have lx : Hid (xs.length = n) := hx.len
      have ly : Hid (ys.length = n) := hy.len
      clear hx hy
      go_enter Tryd.func37, Tryd.ntmps37
      go_wp2
      go_loopw [5] (fun i wr => ∃ k q : Nat, k ≤ n ∧ i = .int .i64 k ∧ wr = w.drewN q ∧ Hid (xs.take k = ys.take k)) (fun i _ => n - (intOf i).toNat)
      case atStart => exact ⟨0, 0, by omega, rfl, rfl, by simp [Hid]⟩
      case round =>
        obtain ⟨k, q, hk, rfl, rfl, hq⟩ := hrel
        by_cases hlt : k < n
        · have e1 := hc1 k hlt
          have e2 := hc2 k hlt
          clear hc1 hc2
          have hlt' : (k : Int) < (n : Int) := by omega
          have hs := take_succ_eq xs ys k (by rw [lx.out]; exact hlt) (by rw [ly.out]; exact hlt)
          have HS := hide hs
          clear hs
          by_cases hv : xs.getD k 0 = ys.getD k 0
          · have hb : (xs[k]?.getD 0 != ys[k]?.getD 0) = false := by simpa using hv
            have HV := hide hv
            clear hv
            go_wp2
            go_quiet (fail)
            go_wp2
            go_roundw
            case rel => exact ⟨k + 1, _, by omega, by go_num, rfl, HS.out.2 ⟨hq.out, HV.out⟩⟩
            case measure => simp [intOf]; omega
          · have hb : (xs[k]?.getD 0 != ys[k]?.getD 0) = true := by simpa using hv
            go_wp2
            go_quiet (fail)
            go_wp2
            go_ret
            exact ⟨ret_bool (by symm; rw [decide_eq_false_iff_not]; rintro rfl; exact hv rfl), _, World.drewN_drewN _ _ _⟩
        · have hlt' : ¬ (k : Int) < (n : Int) := by omega
          obtain rfl : k = n := by omega
          go_wp2
          go_ret
          refine ⟨ret_bool ?_, _, rfl⟩
          symm
          rw [decide_eq_true_iff]
          have h1 := hq.out
          rw [List.take_of_length_le (by rw [lx.out]; exact Nat.le_refl _), List.take_of_length_le (by rw [ly.out]; exact Nat.le_refl _)] at h1
          exact h1
  · have hne : ((n : Int) != (m : Int)) = true := by rw [bne_iff_ne]; omega
    go_enter Tryd.func37, Tryd.ntmps37
    go_wp2
    go_ret
    exact ⟨ret_bool (by symm; rw [decide_eq_false_iff_not]; rintro rfl; exact hnm (hx.len.symm.trans hy.len)), 0, rfl⟩

set_option maxHeartbeats 400000 in
theorem sameIntsL_any (a b : Option Addr) (n c m d : Nat) (xs ys : List Int) (w : World) (hx : Rd w a n c xs) (hy : Rd w b m d ys) :
    Calls Tryd.prog 21 #[.slice a n c, .slice b m d] w fun e w' => e = .returned (.bool (decide (xs = ys))) ∧ ∃ k, w' = w.drewN k := by
  have hmx := hx.max
  have hcx := hx.cap
  have hmy := hy.max
  have hcy := hy.cap
  unfold maxLen at hmx hmy
  by_cases hnm : n = m
  · subst hnm
    have hne : ((n : Int) != (n : Int)) = false := by simp
    by_cases h0 : n = 0
    · subst h0
      have ex : xs = [] := List.eq_nil_of_length_eq_zero hx.len
      have ey : ys = [] := List.eq_nil_of_length_eq_zero hy.len
      subst ex ey
      go_enter Tryd.func21, Tryd.ntmps21
      go_wp2
      refine wp_loop_rounds 1 ?_
      rw [rounds_succ]
      go_wp2
      go_ret
      exact ⟨rfl, 0, rfl⟩
    · obtain ⟨b1, o1, rfl, hc1⟩ := hx.cells (by omega)
      obtain ⟨b2, o2, rfl, hc2⟩ := hy.cells (by omega)
      have lx : Hid (xs.length = n) := hx.len
      have ly : Hid (ys.length = n) := hy.len
      clear hx hy
      go_enter Tryd.func21, Tryd.ntmps21
      go_wp2
      go_loopw [5] (fun i wr => ∃ k q : Nat, k ≤ n ∧ i = .int .i64 k ∧ wr = w.drewN q ∧ Hid (xs.take k = ys.take k)) (fun i _ => n - (intOf i).toNat)
      case atStart => exact ⟨0, 0, by omega, rfl, rfl, by simp [Hid]⟩
      case round =>
        obtain ⟨k, q, hk, rfl, rfl, hq⟩ := hrel
        by_cases hlt : k < n
        · have e1 := hc1 k hlt
          have e2 := hc2 k hlt
          clear hc1 hc2
          have hlt' : (k : Int) < (n : Int) := by omega
          have hs := take_succ_eq xs ys k (by rw [lx.out]; exact hlt) (by rw [ly.out]; exact hlt)
          have HS := hide hs
          clear hs
          by_cases hv : xs.getD k 0 = ys.getD k 0
          · have hb : (xs[k]?.getD 0 != ys[k]?.getD 0) = false := by simpa using hv
            have HV := hide hv
            clear hv
            go_wp2
            go_quiet (fail)
            go_wp2
            go_roundw
            case rel => exact ⟨k + 1, _, by omega, by go_num, rfl, HS.out.2 ⟨hq.out, HV.out⟩⟩
            case measure => simp [intOf]; omega
          · have hb : (xs[k]?.getD 0 != ys[k]?.getD 0) = true := by simpa using hv
            go_wp2
            go_quiet (fail)
            go_wp2
            go_ret
            exact ⟨ret_bool (by symm; rw [decide_eq_false_iff_not]; rintro rfl; exact hv rfl), _, World.drewN_drewN _ _ _⟩
        · have hlt' : ¬ (k : Int) < (n : Int) := by omega
          obtain rfl : k = n := by omega
          go_wp2
          go_ret
          refine ⟨ret_bool ?_, _, rfl⟩
          symm
          rw [decide_eq_true_iff]
          have h1 := hq.out
          rw [List.take_of_length_le (by rw [lx.out]; exact Nat.le_refl _), List.take_of_length_le (by rw [ly.out]; exact Nat.le_refl _)] at h1
          exact h1
  · have hne : ((n : Int) != (m : Int)) = true := by rw [bne_iff_ne]; omega
    go_enter Tryd.func21, Tryd.ntmps21
    go_wp2
    go_ret
    exact ⟨ret_bool (by symm; rw [decide_eq_false_iff_not]; rintro rfl; exact hnm (hx.len.symm.trans hy.len)), 0, rfl⟩

set_option maxHeartbeats 400000 in
theorem sameK_any (a b : Option Addr) (n c m d : Nat) (xs ys : List Int) (w : World) (hx : Rd w a n c xs) (hy : Rd w b m d ys) :
    Calls Tryd.prog 29 #[.slice a n c, .slice b m d] w fun e w' => e = .returned (.bool (decide (xs = ys))) ∧ ∃ k, w' = w.drewN k := by
  have hmx := hx.max
  have hcx := hx.cap
  have hmy := hy.max
  have hcy := hy.cap
  unfold maxLen at hmx hmy
  by_cases hnm : n = m
  · subst hnm
    have hne : ((n : Int) != (n : Int)) = false := by simp
    by_cases h0 : n = 0
    · subst h0
      have ex : xs = [] := List.eq_nil_of_length_eq_zero hx.len
      have ey : ys = [] := List.eq_nil_of_length_eq_zero hy.len
      subst ex ey
      go_enter Tryd.func29, Tryd.ntmps29
      go_wp2
      refine wp_loop_rounds 1 ?_
      rw [rounds_succ]
      go_wp2
      go_ret
      exact ⟨rfl, 0, rfl⟩
    · obtain ⟨b1, o1, rfl, hc1⟩ := hx.cells (by omega)
      obtain ⟨b2, o2, rfl, hc2⟩ := hy.cells (by omega)
      have lx : Hid (xs.length = n) := hx.len
      have ly : Hid (ys.length = n) := hy.len
      clear hx hy
      go_enter Tryd.func29, Tryd.ntmps29
      go_wp2
      go_loopw [5] (fun i wr => ∃ k q : Nat, k ≤ n ∧ i = .int .i64 k ∧ wr = w.drewN q ∧ Hid (xs.take k = ys.take k)) (fun i _ => n - (intOf i).toNat)
      case atStart => exact ⟨0, 0, by omega, rfl, rfl, by simp [Hid]⟩
      case round =>
        obtain ⟨k, q, hk, rfl, rfl, hq⟩ := hrel
        by_cases hlt : k < n
        · have e1 := hc1 k hlt
          have e2 := hc2 k hlt
          clear hc1 hc2
          have hlt' : (k : Int) < (n : Int) := by omega
          have hs := take_succ_eq xs ys k (by rw [lx.out]; exact hlt) (by rw [ly.out]; exact hlt)
          have HS := hide hs
          clear hs
          by_cases hv : xs.getD k 0 = ys.getD k 0
          · have hb : (xs[k]?.getD 0 != ys[k]?.getD 0) = false := by simpa using hv
            have HV := hide hv
            clear hv
            go_wp2
            go_quiet (fail)
            go_wp2
            go_roundw
            case rel => exact ⟨k + 1, _, by omega, by go_num, rfl, HS.out.2 ⟨hq.out, HV.out⟩⟩
            case measure => simp [intOf]; omega
          · have hb : (xs[k]?.getD 0 != ys[k]?.getD 0) = true := by simpa using hv
            go_wp2
            go_quiet (fail)
            go_wp2
            go_ret
            exact ⟨ret_bool (by symm; rw [decide_eq_false_iff_not]; rintro rfl; exact hv rfl), _, World.drewN_drewN _ _ _⟩
        · have hlt' : ¬ (k : Int) < (n : Int) := by omega
          obtain rfl : k = n := by omega
          go_wp2
          go_ret
          refine ⟨ret_bool ?_, _, rfl⟩
          symm
          rw [decide_eq_true_iff]
          have h1 := hq.out
          rw [List.take_of_length_le (by rw [lx.out]; exact Nat.le_refl _), List.take_of_length_le (by rw [ly.out]; exact Nat.le_refl _)] at h1
          exact h1
  · have hne : ((n : Int) != (m : Int)) = true := by rw [bne_iff_ne]; omega
    go_enter Tryd.func29, Tryd.ntmps29
    go_wp2
    go_ret
    exact ⟨ret_bool (by symm; rw [decide_eq_false_iff_not]; rintro rfl; exact hnm (hx.len.symm.trans hy.len)), 0, rfl⟩

set_option maxHeartbeats 400000 in
theorem equal_any (a b : Option Addr) (n c m d : Nat) (xs ys : List Int) (w : World) (hx : Rd w a n c xs) (hy : Rd w b m d ys) :
    Calls Tryd.prog 46 #[.slice a n c, .slice b m d] w fun e w' => e = .returned (.bool (decide (xs = ys))) ∧ ∃ k, w' = w.drewN k := by
  have hmx := hx.max
  have hcx := hx.cap
  have hmy := hy.max
  have hcy := hy.cap
  unfold maxLen at hmx hmy
  by_cases hnm : n = m
  · subst hnm
    have hne : ((n : Int) != (n : Int)) = false := by simp
    by_cases h0 : n = 0
    · subst h0
      have ex : xs = [] := List.eq_nil_of_length_eq_zero hx.len
      have ey : ys = [] := List.eq_nil_of_length_eq_zero hy.len
      subst ex ey
      go_enter Tryd.func46, Tryd.ntmps46
      go_wp2
      refine wp_loop_rounds 1 ?_
      rw [rounds_succ]
      go_wp2
      go_ret
      exact ⟨rfl, 0, rfl⟩
    · obtain ⟨b1, o1, rfl, hc1⟩ := hx.cells (by omega)
      obtain ⟨b2, o2, rfl, hc2⟩ := hy.cells (by omega)
      have lx : Hid (xs.length = n) := hx.len
      have ly : Hid (ys.length = n) := hy.len
      clear hx hy
      go_enter Tryd.func46, Tryd.ntmps46
      go_wp2
      go_loopw [13] (fun i wr => ∃ k q : Nat, k ≤ n ∧ i = .int .i64 k ∧ wr = w.drewN q ∧ Hid (xs.take k = ys.take k)) (fun i _ => n - (intOf i).toNat)
      case atStart => exact ⟨0, 0, by omega, rfl, rfl, by simp [Hid]⟩
      case round =>
        obtain ⟨k, q, hk, rfl, rfl, hq⟩ := hrel
        by_cases hlt : k < n
        · have e1 := hc1 k hlt
          have e2 := hc2 k hlt
          clear hc1 hc2
          have hlt' : (k : Int) < (n : Int) := by omega
          have hs := take_succ_eq xs ys k (by rw [lx.out]; exact hlt) (by rw [ly.out]; exact hlt)
          have HS := hide hs
          clear hs
          by_cases hv : xs.getD k 0 = ys.getD k 0
          · have hb : (xs[k]?.getD 0 != ys[k]?.getD 0) = false := by simpa using hv
            have HV := hide hv
            clear hv
            go_wp2
            go_quiet (fail)
            go_wp2
            go_roundw
            case rel => exact ⟨k + 1, _, by omega, by go_num, rfl, HS.out.2 ⟨hq.out, HV.out⟩⟩
            case measure => simp [intOf]; omega
          · have hb : (xs[k]?.getD 0 != ys[k]?.getD 0) = true := by simpa using hv
            go_wp2
            go_quiet (fail)
            go_wp2
            go_ret
            exact ⟨ret_bool (by symm; rw [decide_eq_false_iff_not]; rintro rfl; exact hv rfl), _, World.drewN_drewN _ _ _⟩
        · have hlt' : ¬ (k : Int) < (n : Int) := by omega
          obtain rfl : k = n := by omega
          go_wp2
          go_ret
          refine ⟨ret_bool ?_, _, rfl⟩
          symm
          rw [decide_eq_true_iff]
          have h1 := hq.out
          rw [List.take_of_length_le (by rw [lx.out]; exact Nat.le_refl _), List.take_of_length_le (by rw [ly.out]; exact Nat.le_refl _)] at h1
          exact h1
  · have hne : ((n : Int) != (m : Int)) = true := by rw [bne_iff_ne]; omega
    go_enter Tryd.func46, Tryd.ntmps46
    go_wp2
    go_ret
    exact ⟨ret_bool (by symm; rw [decide_eq_false_iff_not]; rintro rfl; exact hnm (hx.len.symm.trans hy.len)), 0, rfl⟩

set_option maxRecDepth 100000 in
set_option maxHeartbeats 2000000 in
theorem at_any (a : Option Addr) (n c : Nat) (zs : List Int) (x : Int) (hn : n ≤ 1000) (w : World) (h : Rd w a n c zs) :
    Calls Tryd.prog 67 #[.slice a n c, .int .i64 x] w fun e w' => (∃ r : Int, e = .returned (.int .i64 r) ∧ -1 ≤ r ∧ r ≤ 1000 ∧ (0 ≤ r ↔ x ∈ zs)) ∧ w' = w := by
  have hcm := h.max
  unfold maxLen at hcm
  have hcc := h.cap
  have HL := hide h.len
  have HC : Hid (∀ i, i < n → ∃ b off, a = some ⟨b, off, none⟩ ∧ w.cell? ⟨b, off + i, none⟩ = some (.int .i64 (zs.getD i 0))) := hide (fun i hi => by
    obtain ⟨b, off, e, hc⟩ := h.cells (by omega)
    exact ⟨b, off, e, hc i hi⟩)
  clear h
  go_enter Tryd.func67, Tryd.ntmps67
  go_wp2_with fail
  go_loopw [5] (fun v wr => ∃ i : Nat, v = .int .i64 i ∧ i ≤ n ∧ Hid (∀ j, j < i → zs.getD j 0 ≠ x) ∧ w = wr) (fun v _ => n - (intOf v).toNat)
  case atStart => exact ⟨0, rfl, by omega, hide (fun j hj => absurd hj (by omega)), rfl⟩
  case round =>
    obtain ⟨i, rfl, hi, hall, rfl⟩ := hrel
    by_cases hlt : i < n
    · have hlt' : (i : Int) < (n : Int) := by omega
      obtain ⟨b, off, rfl, cx⟩ := HC.out i hlt
      have HMEM : Hid (zs.getD i 0 = x → x ∈ zs) := hide (fun e => by rw [← e]; exact getD_mem (by rw [HL.out]; exact hlt))
      have HN : Hid (zs.getD i 0 ≠ x → ∀ j, j < i + 1 → zs.getD j 0 ≠ x) := hide (fun e j hj => by
        by_cases e2 : j = i
        · subst e2; exact e
        · exact hall.out j (by omega))
      obtain ⟨z, hz⟩ : ∃ z, zs.getD i 0 = z := ⟨_, rfl⟩
      rw [hz] at cx HMEM HN
      clear hz
      by_cases e : z = x
      · have hb : (z == x) = true := by simpa using e
        have HM := hide (HMEM.out e)
        clear e HMEM HN
        go_wp2_with fail
        go_ret
        exact ⟨⟨_, rfl, by omega, by omega, fun _ => HM.out, fun _ => by omega⟩, rfl⟩
      · have hb : (z == x) = false := by simpa using e
        have HM := hide (HN.out e)
        clear e HMEM HN
        go_wp2_with fail
        exact ⟨⟨i + 1, by go_num, by omega, HM, trivial⟩, by simp [intOf]; omega⟩
    · have hlt' : ¬ (i : Int) < (n : Int) := by omega
      have HM : Hid (¬ x ∈ zs) := hide (fun hx => by
        obtain ⟨j, hj, e⟩ := List.getElem_of_mem hx
        refine hall.out j (by have := HL.out; omega) ?_
        simp [List.getD, hj, e])
      go_wp2_with fail
      go_ret
      exact ⟨⟨_, rfl, by omega, by omega, fun h => by omega, fun h => absurd h HM.out⟩, rfl⟩

theorem within_any (x lo hi : Int) (w : World) : Calls Tryd.prog 38 #[.int .i64 x, .int .i64 lo, .int .i64 hi] w fun e w' => e = .returned (.bool (decide (lo ≤ x ∧ x ≤ hi))) ∧ w' = w := by
  by_cases h1 : lo ≤ x
  · by_cases h2 : x ≤ hi
    · go_enter Tryd.func38, Tryd.ntmps38
      go_wp2
      go_ret
      exact ⟨ret_bool (by simp [h1, h2]), rfl⟩
    · go_enter Tryd.func38, Tryd.ntmps38
      go_wp2
      go_ret
      exact ⟨ret_bool (by simp [h2]), rfl⟩
  · go_enter Tryd.func38, Tryd.ntmps38
    go_wp2
    go_ret
    exact ⟨ret_bool (by simp; omega), rfl⟩

def lexI : List Int → List Int → Bool
  | [], [] => false
  | [], _ :: _ => true
  | _ :: _, [] => false
  | x :: xs, y :: ys => if x = y then lexI xs ys else decide (x < y)

theorem lexI_drop {xs ys : List Int} {k : Nat} (h1 : k < xs.length) (h2 : k < ys.length) :
    lexI (xs.drop k) (ys.drop k) = if xs.getD k 0 = ys.getD k 0 then lexI (xs.drop (k + 1)) (ys.drop (k + 1)) else decide (xs.getD k 0 < ys.getD k 0) := by
  rw [List.drop_eq_getElem_cons h1, List.drop_eq_getElem_cons h2, lexI]
  simp [List.getD, h1, h2]

theorem lexI_end {xs ys : List Int} {k : Nat} (h1 : k ≤ xs.length) (h2 : k ≤ ys.length) (h : ¬ (k < xs.length ∧ k < ys.length)) :
    lexI (xs.drop k) (ys.drop k) = decide (xs.length < ys.length) := by
  by_cases hx : k < xs.length
  · have hy : ¬ k < ys.length := fun hy => h ⟨hx, hy⟩
    rw [List.drop_eq_getElem_cons hx, List.drop_of_length_le (l := ys) (by omega), lexI]
    symm; simp; omega
  · rw [List.drop_of_length_le (l := xs) (by omega)]
    by_cases hy : k < ys.length
    · rw [List.drop_eq_getElem_cons hy, lexI]; symm; simp; omega
    · rw [List.drop_of_length_le (l := ys) (by omega), lexI]; symm; simp; omega

set_option maxRecDepth 100000 in
set_option maxHeartbeats 2000000 in
theorem less_any (a : Option Addr) (n c : Nat) (xs : List Int) (a2 : Option Addr) (m d : Nat) (ys : List Int) (w : World) (h : Rd w a n c xs) (h2 : Rd w a2 m d ys) :
    Calls Tryd.prog 68 #[.slice a n c, .slice a2 m d] w fun e w' => e = .returned (.bool (lexI xs ys)) ∧ ∃ q, w' = w.drewN q := by
  have hcm := h.max
  have hcn := h.cap
  have hcm2 := h2.max
  have hcn2 := h2.cap
  unfold maxLen at hcm hcm2
  have lx : Hid (xs.length = n) := h.len
  have ly : Hid (ys.length = m) := h2.len
  have HC1 := hide (fun h0 => h.cells h0)
  have HC2 := hide (fun h0 => h2.cells h0)
  clear h h2
  go_enter Tryd.func68, Tryd.ntmps68
  go_wp2
  go_loopw [5] (fun i wr => ∃ k q : Nat, k ≤ n ∧ k ≤ m ∧ i = .int .i64 k ∧ wr = w.drewN q ∧ Hid (lexI (xs.drop k) (ys.drop k) = lexI xs ys)) (fun i _ => n - (intOf i).toNat)
  case atStart => exact ⟨0, 0, by omega, by omega, rfl, rfl, by simp [Hid]⟩
  case round =>
    obtain ⟨k, q, hk, hkm, rfl, rfl, hq⟩ := hrel
    by_cases hlt : k < n
    · have hlt' : (k : Int) < (n : Int) := by omega
      by_cases hlm : k < m
      · have hlm' : (k : Int) < (m : Int) := by omega
        obtain ⟨b1, o1, ha1, hc1⟩ := HC1.out (by omega)
        obtain ⟨b2, o2, ha2, hc2⟩ := HC2.out (by omega)
        subst ha1 ha2
        have e1 := hc1 k hlt
        have e2 := hc2 k hlm
        clear hc1 hc2 HC1 HC2
        have HS := hide (lexI_drop (xs := xs) (ys := ys) (k := k) (by rw [lx.out]; exact hlt) (by rw [ly.out]; exact hlm))
        by_cases hv : xs.getD k 0 = ys.getD k 0
        · have hb : (xs[k]?.getD 0 != ys[k]?.getD 0) = false := by simpa using hv
          have HV := hide hv
          clear hv
          go_wp2
          go_quiet (fail)
          go_wp2
          go_roundw
          case rel => exact ⟨k + 1, _, by omega, by omega, by go_num, rfl, by have := HS.out; rw [if_pos HV.out] at this; exact this.symm.trans hq.out⟩
          case measure => simp [intOf]; omega
        · have hb : (xs[k]?.getD 0 != ys[k]?.getD 0) = true := by simpa using hv
          have HV := hide hv
          clear hv
          go_wp2
          go_quiet (fail)
          go_wp2
          go_quiet (fail)
          go_wp2
          go_ret
          refine ⟨ret_bool ?_, _, by simp only [World.drewN_drewN]; rfl⟩
          have := HS.out
          rw [if_neg HV.out] at this
          rw [← hq.out, this]
          exact decide_eq_decide.2 (by simp [List.getD])
      · have hlm' : ¬ (k : Int) < (m : Int) := by omega
        have HE := hide (lexI_end (xs := xs) (ys := ys) (k := k) (by rw [lx.out]; exact hk) (by rw [ly.out]; exact hkm) (by rw [ly.out]; omega))
        go_wp2
        go_ret
        refine ⟨ret_bool ?_, _, rfl⟩
        rw [← hq.out, HE.out, lx.out, ly.out]
    · have hlt' : ¬ (k : Int) < (n : Int) := by omega
      have HE := hide (lexI_end (xs := xs) (ys := ys) (k := k) (by rw [lx.out]; exact hk) (by rw [ly.out]; exact hkm) (by rw [lx.out]; omega))
      go_wp2
      go_ret
      refine ⟨ret_bool ?_, _, rfl⟩
      rw [← hq.out, HE.out, lx.out, ly.out]

end Go.Proofs.YtnbaangnpoblfaaDoor
