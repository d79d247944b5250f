/-
  What package deck's Riffle and Cut, and the document's own riffle, answer: for every slice of ints that can be read. No conditions beyond those that each theorem bears.
-/
import Derived.Test.YtdipbbcggccgcaaBase
namespace Go.Proofs.Ytdipbbcggccgcaa
open Go.RowKit

/-- What stands at place p of a riffled list. -/
def rifAt (zs : List Int) (b : Bool) (p : Nat) : Int :=
  if (p % 2 == 1) = b then zs.getD (p / 2) 0 else zs.getD (zs.length / 2 + p / 2) 0

def rif (zs : List Int) (b : Bool) : List Int := (List.range zs.length).map (rifAt zs b)

theorem rif_length (zs : List Int) (b : Bool) : (rif zs b).length = zs.length := by simp [rif]

theorem eq_rif (zs : List Int) (b : Bool) (L : List Int) (hl : L.length = zs.length) (h : ∀ p, p < zs.length → L.getD p 0 = rifAt zs b p) : L = rif zs b := by
  apply List.ext_getElem (by simp [rif, hl])
  intro i h1 h2
  have := h i (by omega)
  simp [List.getD, h1] at this
  simp [rif, this]

theorem ints_set (L : List Int) (i : Nat) (x : Int) : (L.map (Value.int .i64)).set i (.int .i64 x) = (L.set i x).map (Value.int .i64) := by
  rw [List.map_set]

theorem getD_set (L : List Int) (i j : Nat) (x : Int) (hi : i < L.length) : (L.set i x).getD j 0 = if j = i then x else L.getD j 0 := by
  simp only [List.getD, List.getElem?_set]
  by_cases h : i = j
  · subst h; simp [hi]
  · rw [if_neg h, if_neg (fun e => h e.symm)]

set_option maxHeartbeats 400000 in
theorem mayBe_any (n : Int) (w : World) :
    Calls Try.prog 35 #[.int .i64 n] w fun e w' => e = .returned (.bool (decide (0 ≤ n ∧ n ≤ 104 ∧ n % 2 = 0))) ∧ w' = w := by
  by_cases h1 : 0 ≤ n
  · by_cases h2 : n ≤ 104
    · by_cases h3 : n % 2 = 0
      all_goals
        go_enter Try.func35, Try.ntmps35
        go_wp2
        go_ret
        exact ⟨ret_bool (by simp [h1, h2, h3]), rfl⟩
    · go_enter Try.func35, Try.ntmps35
      go_wp2
      go_ret
      exact ⟨ret_bool (by simp; omega), rfl⟩
  · go_enter Try.func35, Try.ntmps35
    go_wp2
    go_ret
    exact ⟨ret_bool (by simp; omega), rfl⟩

theorem made_ints (n : Nat) : (madeCells #[Value.int .i64 0] n).toList = (List.replicate n (0 : Int)).map (Value.int .i64) := by
  rw [toList_madeCells_one, List.map_replicate]

theorem own_cell {wr : World} {base g n : Nat} {L : List Int} (h : wr.ownsRow base 3 1 (.slice (some ⟨g, 0, none⟩) n n) n (L.map (Value.int .i64))) (p : Nat) (hp : p < n) :
    wr.cell? ⟨g, p, none⟩ = some (.int .i64 (L.getD p 0)) ∧ wr.frozen? ⟨g, p, none⟩ = false := by
  refine ⟨?_, h.frozenAt p⟩
  have hl : L.length = n := by simpa using h.1
  rw [h.cellAt p (by omega)]
  simp [List.getD, hl, hp]

theorem own_set {wr : World} {base g n : Nat} {L : List Int} (h : wr.ownsRow base 3 1 (.slice (some ⟨g, 0, none⟩) n n) n (L.map (Value.int .i64))) (p : Nat) (x : Int) :
    (wr.setCell ⟨g, p, none⟩ (.int .i64 x)).ownsRow base 3 1 (.slice (some ⟨g, 0, none⟩) n n) n ((L.set p x).map (Value.int .i64)) := by
  have := (h.stored p (.int .i64 x)).1
  rwa [ints_set] at this

theorem rif_step_false (zs L : List Int) (m k : Nat) (hz : zs.length = 2 * m) (hL : L.length = 2 * m) (hk : k < m) (x y : Int) (hx : x = zs.getD k 0) (hy : y = zs.getD (m + k) 0) (H : ∀ p, p < 2 * k → L.getD p 0 = rifAt zs false p) :
    ∀ p, p < 2 * (k + 1) → ((L.set (2 * k) x).set (2 * k + 1) y).getD p 0 = rifAt zs false p := by
  intro p hp
  rw [getD_set _ _ _ _ (by simp; omega), getD_set _ _ _ _ (by omega)]
  by_cases h1 : p = 2 * k + 1
  · subst h1
    have e2 : zs.length / 2 = m := by omega
    have e1 : (2 * k + 1) / 2 = k := by omega
    simp only [if_pos, rifAt, e1, e2, hy]
    rw [if_neg]
    simp only [show (2 * k + 1) % 2 = 1 from by omega]
    simp
  · rw [if_neg h1]
    by_cases h2 : p = 2 * k
    · subst h2
      have e1 : (2 * k) / 2 = k := by omega
      simp only [if_pos, rifAt, e1, hx]
      rw [if_pos]
      simp only [show (2 * k) % 2 = 0 from by omega]
      simp
    · rw [if_neg h2]
      exact H p (by omega)

theorem rif_step_true (zs L : List Int) (m k : Nat) (hz : zs.length = 2 * m) (hL : L.length = 2 * m) (hk : k < m) (x y : Int) (hx : x = zs.getD k 0) (hy : y = zs.getD (m + k) 0) (H : ∀ p, p < 2 * k → L.getD p 0 = rifAt zs true p) :
    ∀ p, p < 2 * (k + 1) → ((L.set (2 * k + 1) x).set (2 * k) y).getD p 0 = rifAt zs true p := by
  intro p hp
  rw [getD_set _ _ _ _ (by simp; omega), getD_set _ _ _ _ (by omega)]
  by_cases h1 : p = 2 * k
  · subst h1
    have e2 : zs.length / 2 = m := by omega
    have e1 : (2 * k) / 2 = k := by omega
    simp only [if_pos, rifAt, e1, e2, hy]
    rw [if_neg]
    simp only [show (2 * k) % 2 = 0 from by omega]
    simp
  · rw [if_neg h1]
    by_cases h2 : p = 2 * k + 1
    · subst h2
      have e1 : (2 * k + 1) / 2 = k := by omega
      simp only [if_pos, rifAt, e1, hx]
      rw [if_pos]
      simp only [show (2 * k + 1) % 2 = 1 from by omega]
      simp
    · rw [if_neg h2]
      exact H p (by omega)

set_option maxHeartbeats 400000 in
theorem riffled_any (a : Option Addr) (n c : Nat) (zs : List Int) (b : Bool) (w : World) (h : Rd w a n c zs) (hev : n % 2 = 0) (hn : n ≤ 104) :
    Calls Try.prog 36 #[.slice a n c, .bool b] w fun e w' => ∃ a' c', e = .returned (.slice a' n c') ∧ Rd w' a' n c' (rif zs b) ∧ Below w.heap.size w w' := by
  obtain ⟨i0, hi, hz0, hz1, hz2⟩ := info_parts Try.info3
  obtain ⟨m, rfl⟩ : ∃ m, n = 2 * m := ⟨n / 2, by omega⟩
  have hmm : 2 * m ≤ maxLen := by unfold maxLen; omega
  have hby : i0.bytes * (2 * m) ≤ 281474976710656 := by rw [hz2]; omega
  cases b with
  | false =>
    go_enter Try.func36, Try.ntmps36
    go_wp2_with (at_make; refine wpList_make_full w rfl _ _ 30 rfl w.heap.size 3 i0 (.int .i64 0) 1 Try.underlying30 hi hz0 hz1 _ _ _ _ (2 * m) rfl rfl (by omega) (by omega) hby hmm (Nat.le_refl _) ?_)
    intro w1 hown hgrow
    have hb1 : Below w.heap.size w w1 := (Below.refl _ _).grown hgrow (Nat.le_refl _) (fun k hk => by simp at hk)
    rw [made_ints] at hown
    clear hgrow
    go_wp2
    go_loopw [18] (fun i wr => ∃ (k : Nat) (L : List Int), k ≤ m ∧ i = .int .i64 k ∧ wr.ownsRow w.heap.size 3 1 (.slice (some ⟨w.heap.size, 0, none⟩) (2 * m) (2 * m)) (2 * m) (L.map (Value.int .i64)) ∧ Below w.heap.size w wr ∧ Hid (∀ p, p < 2 * k → L.getD p 0 = rifAt zs false p)) (fun i _ => m - (intOf i).toNat)
    case atStart => exact ⟨0, _, by omega, rfl, hown, hb1, fun p hp => absurd hp (by omega)⟩
    case round =>
      clear hown hb1
      obtain ⟨k, L, hk, rfl, hown, hbel, HL⟩ := hrel
      have hLl : Hid (L.length = 2 * m) := hide (by simpa using hown.1)
      by_cases hlt : k < m
      · obtain ⟨b, off, rfl, hc⟩ := h.cells (by omega)
        have hbl : b < w.heap.size := World.block_lt_of_cell? w _ (hc 0 (by omega))
        have r1 := hc k (by omega)
        have r2 := hc (m + k) (by omega)
        rw [← hbel.cell (p := ⟨b, off + k, none⟩) hbl] at r1
        rw [← hbel.cell (p := ⟨b, off + (m + k), none⟩) hbl] at r2
        have hne : ¬ b = w.heap.size := by omega
        have c1 := own_cell hown (2 * k) (by omega)
        have c2 := own_cell hown (2 * k + 1) (by omega)
        obtain ⟨c1, f1⟩ := c1
        obtain ⟨c2, f2⟩ := c2
        have o1 := own_set hown (2 * k) (zs.getD k 0)
        have o2 := own_set o1 (2 * k + 1) (zs.getD (m + k) 0)
        have HO := hide o2
        have HB := hide hbel
        have hlt' : (k : Int) < (m : Int) := by omega
        clear hc hown o1 o2 hbel
        go_wp2
        go_roundw
        case rel => exact ⟨k + 1, _, by omega, by go_num, HO.out, (HB.out.setCell (Nat.le_refl _) _).setCell (Nat.le_refl _) _, rif_step_false zs L m k h.len hLl.out hlt _ _ rfl rfl HL.out⟩
        case measure => simp [intOf]; omega
      · obtain rfl : k = m := by omega
        have hlt' : ¬ (k : Int) < (k : Int) := by omega
        go_wp2
        go_ret
        refine ⟨_, _, rfl, ?_, hbel⟩
        rw [← eq_rif zs false L (hLl.out.trans h.len.symm) (by rw [h.len]; exact HL.out)]
        exact Rd.of_own hown
  | true =>
    go_enter Try.func36, Try.ntmps36
    go_wp2_with (at_make; refine wpList_make_full w rfl _ _ 30 rfl w.heap.size 3 i0 (.int .i64 0) 1 Try.underlying30 hi hz0 hz1 _ _ _ _ (2 * m) rfl rfl (by omega) (by omega) hby hmm (Nat.le_refl _) ?_)
    intro w1 hown hgrow
    have hb1 : Below w.heap.size w w1 := (Below.refl _ _).grown hgrow (Nat.le_refl _) (fun k hk => by simp at hk)
    rw [made_ints] at hown
    clear hgrow
    go_wp2
    go_loopw [18] (fun i wr => ∃ (k : Nat) (L : List Int), k ≤ m ∧ i = .int .i64 k ∧ wr.ownsRow w.heap.size 3 1 (.slice (some ⟨w.heap.size, 0, none⟩) (2 * m) (2 * m)) (2 * m) (L.map (Value.int .i64)) ∧ Below w.heap.size w wr ∧ Hid (∀ p, p < 2 * k → L.getD p 0 = rifAt zs true p)) (fun i _ => m - (intOf i).toNat)
    case atStart => exact ⟨0, _, by omega, rfl, hown, hb1, fun p hp => absurd hp (by omega)⟩
    case round =>
      clear hown hb1
      obtain ⟨k, L, hk, rfl, hown, hbel, HL⟩ := hrel
      have hLl : Hid (L.length = 2 * m) := hide (by simpa using hown.1)
      by_cases hlt : k < m
      · obtain ⟨b, off, rfl, hc⟩ := h.cells (by omega)
        have hbl : b < w.heap.size := World.block_lt_of_cell? w _ (hc 0 (by omega))
        have r1 := hc k (by omega)
        have r2 := hc (m + k) (by omega)
        rw [← hbel.cell (p := ⟨b, off + k, none⟩) hbl] at r1
        rw [← hbel.cell (p := ⟨b, off + (m + k), none⟩) hbl] at r2
        have hne : ¬ b = w.heap.size := by omega
        have c1 := own_cell hown (2 * k + 1) (by omega)
        have c2 := own_cell hown (2 * k) (by omega)
        obtain ⟨c1, f1⟩ := c1
        obtain ⟨c2, f2⟩ := c2
        have o1 := own_set hown (2 * k + 1) (zs.getD k 0)
        have o2 := own_set o1 (2 * k) (zs.getD (m + k) 0)
        have HO := hide o2
        have HB := hide hbel
        have hlt' : (k : Int) < (m : Int) := by omega
        clear hc hown o1 o2 hbel
        go_wp2
        go_roundw
        case rel => exact ⟨k + 1, _, by omega, by go_num, HO.out, (HB.out.setCell (Nat.le_refl _) _).setCell (Nat.le_refl _) _, rif_step_true zs L m k h.len hLl.out hlt _ _ rfl rfl HL.out⟩
        case measure => simp [intOf]; omega
      · obtain rfl : k = m := by omega
        have hlt' : ¬ (k : Int) < (k : Int) := by omega
        go_wp2
        go_ret
        refine ⟨_, _, rfl, ?_, hbel⟩
        rw [← eq_rif zs true L (hLl.out.trans h.len.symm) (by rw [h.len]; exact HL.out)]
        exact Rd.of_own hown

set_option maxHeartbeats 400000 in
/-- What Riffle answers: the riffled list, or no list and the error 2 (ErrSize). -/
theorem Riffle_yes (a : Option Addr) (n c : Nat) (zs : List Int) (b : Bool) (w : World) (h : Rd w a n c zs) (hev : n % 2 = 0) (hn : n ≤ 104) :
    Calls Try.prog 13 #[.slice a n c, .bool b] w fun e w' => ∃ a' c', e = .returned (.tuple #[.slice a' n c', .int .i64 0]) ∧ Rd w' a' n c' (rif zs b) ∧ Below w.heap.size w w' := by
  have hd : decide (0 ≤ (n : Int) ∧ (n : Int) ≤ 104 ∧ (n : Int) % 2 = 0) = true := by simp; omega
  go_enter Try.func13, Try.ntmps13
  go_wp2_with fail
  refine (mayBe_any _ _).mono ?_
  rintro e w' ⟨rfl, rfl⟩
  rw [hd]
  go_wp2_with fail
  refine (riffled_any a n c zs b _ h hev hn).mono ?_
  rintro e w1 ⟨a', c', rfl, hR, hB⟩
  go_wp2_with fail
  go_ret2
  exact ⟨_, _, rfl, hR, hB⟩

set_option maxHeartbeats 400000 in
theorem Riffle_no (a : Option Addr) (n c : Nat) (b : Bool) (w : World) (hev : n % 2 = 1 ∨ 104 < n) :
    Calls Try.prog 13 #[.slice a n c, .bool b] w fun e w' => e = .returned (.tuple #[.slice none 0 0, .int .i64 2]) ∧ w' = w := by
  have hd : decide (0 ≤ (n : Int) ∧ (n : Int) ≤ 104 ∧ (n : Int) % 2 = 0) = false := by simp; omega
  go_enter Try.func13, Try.ntmps13
  go_wp2_with fail
  refine (mayBe_any _ _).mono ?_
  rintro e w' ⟨rfl, rfl⟩
  rw [hd]
  go_wp2_with fail
  go_ret2
  exact ⟨rfl, rfl⟩

end Go.Proofs.Ytdipbbcggccgcaa
