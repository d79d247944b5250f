/-
  slices.Repeat of one number. No conditions beyond those that each theorem bears.
-/
import Derived.Test.YtldgikinmmkhiaaDoorAp
import Derived.Test.YtldgikinmmkhiaaDoorShelf
import Derived.Laws.CopyOwn
import Derived.Deep.RegionLaw
import Derived.BigRegion
namespace Go.Proofs.YtldgikinmmkhiaaDoor
open Go.RowKit

theorem made_ints (n : Nat) : (madeCells #[Value.int .i64 0] n).toList = (toI (List.replicate n 0)).map (Value.int .i64) := by
  rw [toList_madeCells_one, toI, List.map_replicate, List.map_replicate]; rfl

theorem Blk.of_own {w : World} {base g n : Nat} {L : List Int} (h : w.ownsRow base 3 1 (.slice (some ⟨g, 0, none⟩) n n) n (L.map (Value.int .i64))) : Blk w g 3 L := by
  rcases h.2 with ⟨hv, _⟩ | ⟨g', cap, cur, hv, hb, hg, hnc, hcm, hcs, ht⟩
  · simp at hv
  · simp only [Value.slice.injEq, Option.some.injEq, Addr.mk.injEq, and_true, true_and] at hv
    obtain ⟨rfl, rfl⟩ := hv
    have e : cur = (L.map (Value.int .i64)).toArray := by
      rw [← ht, List.take_of_length_le (by simp [hcs])]
    rw [Blk, hg, e]
    rfl

/-- A row whose first k numbers are s. -/
def rowV (n k : Nat) (s : Int) : List Value := List.replicate k (.int .i64 s) ++ List.replicate (n - k) (.int .i64 0)

theorem rowV_length (n k : Nat) (s : Int) (h : k ≤ n) : (rowV n k s).length = n := by simp [rowV]; omega

theorem rowV_splice (n k m : Nat) (s : Int) (h : k + m ≤ n) : splice (rowV n k s) k (List.replicate m (.int .i64 s)) = rowV n (k + m) s := by
  have e1 : (rowV n k s).take k = List.replicate k (.int .i64 s) := by
    rw [rowV, List.take_append_of_le_length (by simp), List.take_of_length_le (by simp)]
  have e2 : (rowV n k s).drop (k + m) = List.replicate (n - (k + m)) (.int .i64 0) := by
    rw [rowV, List.drop_append, List.drop_eq_nil_of_le (by simp), List.nil_append, List.length_replicate, List.drop_replicate]
    congr 1; omega
  rw [splice, e1, List.length_replicate, e2, rowV, ← List.append_assoc, List.replicate_append_replicate]

theorem rowV_cell {w : World} {g n k : Nat} {s : Int} (h : w.heap[g]? = some (.cells (rowV n k s).toArray 3 (0, 0))) (j : Nat) (hj : j < k) : w.cell? ⟨g, j, none⟩ = some (.int .i64 s) := by
  have : (rowV n k s)[j]? = some (.int .i64 s) := by rw [rowV, List.getElem?_append_left (by simpa using hj)]; simp [hj]
  simp [World.cell?, h, this]

theorem rowV_zero (n : Nat) (s : Int) : rowV n 0 s = (toI (List.replicate n 0)).map (Value.int .i64) := by
  rw [rowV, toI, List.map_replicate, List.map_replicate]; rfl

theorem rowV_full (n : Nat) (s : Nat) : rowV n n s = (toI (List.replicate n s)).map (Value.int .i64) := by
  rw [rowV, Nat.sub_self, toI, List.map_replicate, List.map_replicate]; simp

theorem size3 : (Tryd.prog.info? 3).map (·.size) = some 1 := by kernel_rfl

theorem rep_one (m : Nat) (s : Int) : ∀ v ∈ List.replicate m (Value.int .i64 s), v.oneCell' = true := by
  intro v hv
  rw [List.eq_of_mem_replicate hv]
  rfl

theorem rep_get (m : Nat) (s : Int) (j : Nat) (v : Value) (h : (List.replicate m (Value.int .i64 s))[j]? = some v) : j < m ∧ v = .int .i64 s := by
  rw [List.getElem?_replicate] at h
  split at h
  · exact ⟨by assumption, (Option.some.inj h).symm⟩
  · cases h

theorem copy_run (w : World) (g off dLen dCap : Nat) (ad : Addr) (sLen sCap : Nat) (cur : List Value) (cs : List Value) (hg : w.heap[g]? = some (.cells cur.toArray 3 (0, 0))) (hn : cs.length = Nat.min sLen dLen)
    (hsrc : ∀ j v, cs[j]? = some v → w.cell? (ad.add j) = some v) (hfit : off + cs.length ≤ cur.length) (h1 : ∀ v ∈ cs, v.oneCell' = true) :
    ∃ w', (∀ ty, (Builtin.copy_ #[22, 22] ty #[.slice (some ⟨g, off, none⟩) dLen dCap, .slice (some ad) sLen sCap]).run Tryd.prog w = .ok (goInt cs.length) w') ∧ w'.heap[g]? = some (.cells (splice cur off cs).toArray 3 (0, 0)) ∧ Below g w w' := by
  refine ⟨_, fun ty => run_copy_row (P := Tryd.prog) w 22 22 ty 3 g off dLen dCap ad sLen sCap cur.toArray 3 cs Tryd.underlying22 size3 hg hn hsrc (by simpa using hfit) h1, ?_, below_setRow (Below.refl _ _) (Nat.le_refl _) _⟩
  simpa [splice] using setRow_heap w g _ _ 3 _ hg

set_option maxRecDepth 100000 in
set_option maxHeartbeats 4000000 in
theorem Repeat_any (b n : Nat) (s : Nat) (w : World) (h0 : w.cell? ⟨b, 0, none⟩ = some (.int .i64 s)) (hn : n ≤ 1000) (hn1 : 1 ≤ n) :
    Calls Tryd.prog 61 #[.slice (some ⟨b, 0, none⟩) 1 1, .int .i64 n] w fun e w' => e = .returned (.slice (some ⟨w.heap.size, 0, none⟩) n n) ∧ Blk w' w.heap.size 3 (toI (List.replicate n s)) ∧ Below w.heap.size w w' := by
  obtain ⟨i0, hi, hz0, hz1, hz2⟩ := info_parts Tryd.info3
  have hmm : n ≤ maxLen := by unfold maxLen; omega
  have hby : i0.bytes * n ≤ 281474976710656 := by rw [hz2]; omega
  have hbl : b < w.heap.size := World.block_lt_of_cell? w _ h0
  have hM := Tryd.bits_Mul 1 n (by omega) (by omega) w
  rw [show 1 * n / 18446744073709551616 = 0 by omega, show 1 * n % 18446744073709551616 = n by omega] at hM
  have HM := hide hM
  clear hM
  have hneg : ¬ (n : Int) < 0 := by omega
  have hngt : ¬ (9223372036854775807 : Int) < (n : Int) := by omega
  go_enter Tryd.func61, Tryd.ntmps61
  go_wp2_with fail
  refine HM.out.mono ?_
  rintro e w1 ⟨rfl, hw1⟩
  subst w1
  have z0 : ((0 : Nat) : Int) = 0 := rfl
  go_wp2_with (at_make; refine wpList_make_full w rfl _ _ 22 rfl w.heap.size 3 i0 (.int .i64 0) 1 Tryd.underlying22 hi hz0 hz1 _ _ _ _ n rfl rfl (by omega) (by omega) hby hmm (Nat.le_refl _) ?_)
  intro w1 hown hgrow
  have hb1 : Below w.heap.size w w1 := (Below.refl _ _).grown hgrow (Nat.le_refl _) (fun k hk => by simp at hk)
  rw [made_ints] at hown
  have hG : w1.heap[w.heap.size]? = some (.cells (rowV n 0 (s : Int)).toArray 3 (0, 0)) := by rw [rowV_zero]; exact Blk.of_own hown
  have h1 : w1.cell? ⟨b, 0, none⟩ = some (.int .i64 s) := (hb1.cell (p := ⟨b, 0, none⟩) hbl).trans h0
  obtain ⟨w2, hrun, hG2, hB2⟩ := copy_run w1 w.heap.size 0 n n ⟨b, 0, none⟩ 1 1 _ (List.replicate 1 (.int .i64 (s : Int))) hG (by rw [List.length_replicate]; exact (Nat.min_eq_left hn1).symm)
    (fun j v hv => by obtain ⟨hj, rfl⟩ := rep_get _ _ _ _ hv; obtain rfl : j = 0 := (by omega); exact h1) (by rw [rowV_length _ _ _ (by omega)]; simp; omega) (rep_one _ _)
  rw [rowV_splice n 0 1 _ (by omega)] at hG2
  have HR2 := hide hG2
  have HB2 := hide (hb1.trans hB2)
  have hrun1 := hrun 3
  rw [List.length_replicate] at hrun1
  clear hown hgrow hb1 hG h1 z0 hG2 hB2 hrun
  go_wp2_with fail
  clear hrun1
  go_loopw [8] (fun v wr => ∃ k : Nat, 1 ≤ k ∧ k ≤ n ∧ v = .int .i64 k ∧ Hid (wr.heap[w.heap.size]? = some (.cells (rowV n k (s : Int)).toArray 3 (0, 0))) ∧ Hid (Below w.heap.size w wr)) (fun v _ => n - (intOf v).toNat)
  case atStart => exact ⟨1, by omega, hn1, rfl, HR2, HB2⟩
  case round =>
    clear HR2 HB2
    obtain ⟨k, hk1, hk, rfl, HR, HB⟩ := hrel
    by_cases hlt : k < n
    · have hlt' : (k : Int) < (n : Int) := by omega
      have hle : (k : Int) ≤ (n : Int) := by omega
      have hnk : ¬ n = k := by omega
      obtain ⟨m, hm⟩ : ∃ m, Nat.min k (n - k) = m := ⟨_, rfl⟩
      have hm1 : m ≤ k := by rw [← hm]; exact Nat.min_le_left _ _
      have hm2 : k + m ≤ n := by
        have : m ≤ n - k := by rw [← hm]; exact Nat.min_le_right _ _
        omega
      have hm3 : 1 ≤ m := by
        rw [← hm]
        show 1 ≤ min k (n - k)
        omega
      obtain ⟨w3, hrun, hG3, hB3⟩ := copy_run wr.drew w.heap.size k (n - k) (n - k) ⟨w.heap.size, 0, none⟩ k n _ (List.replicate m (.int .i64 (s : Int))) HR.out (by rw [List.length_replicate]; exact hm.symm)
        (fun j v hv => by obtain ⟨hj, rfl⟩ := rep_get _ _ _ _ hv; rw [Addr.add_lit, Nat.zero_add]; exact rowV_cell HR.out j (by omega)) (by rw [rowV_length _ _ _ hk]; simp; omega) (rep_one _ _)
      rw [rowV_splice n k m _ hm2] at hG3
      have HR3 := hide hG3
      have HB3 := hide (HB.out.drew.trans hB3)
      have hrun1 := hrun 3
      rw [List.length_replicate] at hrun1
      clear hm hG3 hB3 hrun
      go_wp2_with fail
      go_region
      go_wp2_with fail
      go_roundw
      case rel => exact ⟨k + m, by omega, hm2, by go_num, HR3, HB3⟩
      case measure => simp [intOf]; omega
    · have hlt' : ¬ (k : Int) < (n : Int) := by omega
      obtain rfl : k = n := by omega
      have HF : Hid (Blk wr w.heap.size 3 (toI (List.replicate k s))) := hide (by have h := HR.out; rw [rowV_full] at h; exact h)
      go_wp2_with fail
      go_ret
      exact ⟨rfl, HF.out, HB.out⟩

end Go.Proofs.YtldgikinmmkhiaaDoor
