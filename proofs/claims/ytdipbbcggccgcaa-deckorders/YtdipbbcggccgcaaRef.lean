/-
  What the document's own riffle answers: for every slice of ints of an even length that can be read. No conditions beyond those that each theorem bears.
-/
import Derived.Test.YtdipbbcggccgcaaCut
namespace Go.Proofs.Ytdipbbcggccgcaa
open Go.RowKit

/-- Where the thing at place j comes to, of 2 m things. -/
def toN (m : Nat) (b : Bool) (j : Nat) : Nat :=
  match b with
  | false => if j < m then 2 * j else 2 * (j - m) + 1
  | true => if j < m then 2 * j + 1 else 2 * (j - m)

theorem toN_lt {m j : Nat} (b : Bool) (h : j < 2 * m) : toN m b j < 2 * m := by
  cases b <;> simp only [toN] <;> split <;> omega

theorem toN_inj {m i j : Nat} (b : Bool) (_hi : i < 2 * m) (_hj : j < 2 * m) (h : toN m b i = toN m b j) : i = j := by
  cases b <;> simp only [toN] at h <;> split at h <;> split at h <;> omega

theorem rif_of_to (zs L : List Int) (m : Nat) (b : Bool) (hz : zs.length = 2 * m) (hL : L.length = 2 * m) (h : ∀ j, j < 2 * m → L.getD (toN m b j) 0 = zs.getD j 0) : L = rif zs b := by
  refine eq_rif zs b L (by omega) fun p hp => ?_
  have e : zs.length / 2 = m := by omega
  rcases Nat.mod_two_eq_zero_or_one p with h2 | h2
  · cases b with
    | false =>
      have := h (p / 2) (by omega)
      simp only [toN] at this
      rw [if_pos (by omega), show 2 * (p / 2) = p by omega] at this
      simpa [rifAt, h2] using this
    | true =>
      have := h (m + p / 2) (by omega)
      simp only [toN] at this
      rw [if_neg (by omega), show 2 * (m + p / 2 - m) = p by omega] at this
      simpa [rifAt, h2, e] using this
  · cases b with
    | true =>
      have := h (p / 2) (by omega)
      simp only [toN] at this
      rw [if_pos (by omega), show 2 * (p / 2) + 1 = p by omega] at this
      simpa [rifAt, h2] using this
    | false =>
      have := h (m + p / 2) (by omega)
      simp only [toN] at this
      rw [if_neg (by omega), show 2 * (m + p / 2 - m) + 1 = p by omega] at this
      simpa [rifAt, h2, e] using this

theorem to_step (zs L : List Int) (m k : Nat) (b : Bool) (p : Nat) (x : Int) (hL : L.length = 2 * m) (hk : k < 2 * m) (hp : p = toN m b k) (hx : x = zs.getD k 0)
    (H : ∀ j, j < k → L.getD (toN m b j) 0 = zs.getD j 0) : ∀ j, j < k + 1 → (L.set p x).getD (toN m b j) 0 = zs.getD j 0 := by
  intro j hj
  subst hp hx
  rw [getD_set _ _ _ _ (by rw [hL]; exact toN_lt b hk)]
  by_cases h : j = k
  · subst h; rw [if_pos rfl]
  · rw [if_neg (fun e => h (toN_inj b (by omega) hk e))]
    exact H j (by omega)

theorem xor_one : ∀ k : Nat, k < 53 → bits .xor .i64 (2 * (k : Int)) 1 = 2 * (k : Int) + 1 ∧ bits .xor .i64 (2 * (k : Int) + 1) 1 = 2 * (k : Int) := by decide +kernel

set_option maxHeartbeats 400000 in
theorem RiffleOf_any (a : Option Addr) (n c : Nat) (zs : List Int) (b : Bool) (w : World) (h : Rd w a n c zs) (hev : n % 2 = 0) (hn : n ≤ 104) :
    Calls Try.prog 17 #[.slice a n c, .bool b] w fun e w' => ∃ a' c', e = .returned (.slice a' n c') ∧ Rd w' a' n c' (rif zs b) ∧ Below w.heap.size w w' := by
  obtain ⟨i0, hi, hz0, hz1, hz2⟩ := info_parts Try.info3
  obtain ⟨m, rfl⟩ : ∃ m, n = 2 * m := ⟨n / 2, by omega⟩
  have hmm : 2 * m ≤ maxLen := by unfold maxLen; omega
  have hby : i0.bytes * (2 * m) ≤ 281474976710656 := by rw [hz2]; omega
  go_enter Try.func17, Try.ntmps17
  go_wp2_with (at_make; refine wpList_make_full w rfl _ _ 30 rfl w.heap.size 3 i0 (.int .i64 0) 1 Try.underlying30 hi hz0 hz1 _ _ _ _ (2 * m) rfl rfl (by omega) (by omega) hby hmm (Nat.le_refl _) ?_)
  intro w1 hown hgrow
  have hb1 : Below w.heap.size w w1 := (Below.refl _ _).grown hgrow (Nat.le_refl _) (fun k hk => by simp at hk)
  rw [made_ints] at hown
  clear hgrow
  go_wp2
  go_loopw [7] (fun i wr => ∃ (k : Nat) (L : List Int), k ≤ 2 * m ∧ i = .int .i64 k ∧ wr.ownsRow w.heap.size 3 1 (.slice (some ⟨w.heap.size, 0, none⟩) (2 * m) (2 * m)) (2 * m) (L.map (Value.int .i64)) ∧ Below w.heap.size w wr ∧ Hid (∀ j, j < k → L.getD (toN m b j) 0 = zs.getD j 0)) (fun i _ => 2 * m - (intOf i).toNat)
  case atStart => exact ⟨0, _, by omega, rfl, hown, hb1, fun p hp => absurd hp (by omega)⟩
  case round =>
    clear hown hb1
    obtain ⟨k, L, hk, rfl, hown, hbel, HL⟩ := hrel
    have hLl : Hid (L.length = 2 * m) := hide (by simpa using hown.1)
    by_cases hlt : k < 2 * m
    · obtain ⟨bb, off, rfl, hc⟩ := h.cells (by omega)
      have hbl : bb < w.heap.size := World.block_lt_of_cell? w _ (hc 0 (by omega))
      have r1 := hc k (by omega)
      rw [← hbel.cell (p := ⟨bb, off + k, none⟩) hbl] at r1
      have hne : ¬ bb = w.heap.size := by omega
      have HLEN := hide h.len
      clear hc h
      have HB := hide hbel
      by_cases hkm : k < m
      · cases b with
        | false =>
          have ep : toN m false k = 2 * k := by simp [toN, hkm]
          obtain ⟨c1, f1⟩ := own_cell hown (2 * k) (by omega)
          have HO := hide (own_set hown (2 * k) (zs.getD k 0))
          have HS := hide (to_step zs L m k false (2 * k) _ hLl.out hlt ep.symm rfl HL.out)
          clear hown ep hbel
          go_wp2
          go_roundw
          case rel => exact ⟨k + 1, _, by omega, by go_num, HO.out, HB.out.setCell (Nat.le_refl _) _, HS.out⟩
          case measure => simp [intOf]; omega
        | true =>
          have ep : toN m true k = 2 * k + 1 := by simp [toN, hkm]
          obtain ⟨c1, f1⟩ := own_cell hown (2 * k + 1) (by omega)
          have HO := hide (own_set hown (2 * k + 1) (zs.getD k 0))
          have HS := hide (to_step zs L m k true (2 * k + 1) _ hLl.out hlt ep.symm rfl HL.out)
          have hx := (xor_one k (by omega)).1
          clear hown ep hbel
          go_wp2
          go_roundw
          case rel => exact ⟨k + 1, _, by omega, by go_num, HO.out, HB.out.setCell (Nat.le_refl _) _, HS.out⟩
          case measure => simp [intOf]; omega
      · obtain ⟨q, hq⟩ : ∃ q, q = k - m := ⟨_, rfl⟩
        have hqk : k = m + q := by omega
        clear hq
        subst hqk
        cases b with
        | false =>
          have ep : toN m false (m + q) = 2 * q + 1 := by simp [toN]; omega
          obtain ⟨c1, f1⟩ := own_cell hown (2 * q + 1) (by omega)
          have HO := hide (own_set hown (2 * q + 1) (zs.getD (m + q) 0))
          have HS := hide (to_step zs L m (m + q) false (2 * q + 1) _ hLl.out hlt ep.symm rfl HL.out)
          clear hown ep hbel
          go_wp2
          go_roundw
          case rel => exact ⟨m + q + 1, _, by omega, by go_num, HO.out, HB.out.setCell (Nat.le_refl _) _, HS.out⟩
          case measure => simp [intOf]; omega
        | true =>
          have ep : toN m true (m + q) = 2 * q := by simp [toN]; omega
          obtain ⟨c1, f1⟩ := own_cell hown (2 * q) (by omega)
          have HO := hide (own_set hown (2 * q) (zs.getD (m + q) 0))
          have HS := hide (to_step zs L m (m + q) true (2 * q) _ hLl.out hlt ep.symm rfl HL.out)
          have hx : bits .xor .i64 (2 * ((m : Int) + (q : Int) - (m : Int)) + 1) 1 = 2 * (q : Int) := by rw [show (m : Int) + (q : Int) - (m : Int) = (q : Int) by omega]; exact (xor_one q (by omega)).2
          clear hown ep hbel
          go_wp2
          go_roundw
          case rel => exact ⟨m + q + 1, _, by omega, by go_num, HO.out, HB.out.setCell (Nat.le_refl _) _, HS.out⟩
          case measure => simp [intOf]; omega
    · obtain rfl : k = 2 * m := by omega
      have hlt' : ¬ (((2 * m : Nat) : Int) < (2 * m : Nat)) := by omega
      go_wp2
      go_ret
      refine ⟨_, _, rfl, ?_, hbel⟩
      rw [← rif_of_to zs L m b h.len hLl.out HL.out]
      exact Rd.of_own hown

end Go.Proofs.Ytdipbbcggccgcaa
