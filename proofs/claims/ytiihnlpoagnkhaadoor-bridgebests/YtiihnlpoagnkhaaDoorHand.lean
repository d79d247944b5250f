/-
  What bridge's hand answers: the cards of a player in a set, the lowest first. No conditions beyond those that each theorem bears.
-/
import Derived.Test.YtiihnlpoagnkhaaDoorTz
namespace Go.Proofs.YtiihnlpoagnkhaaDoor
open Go.RowKit

def toI (s : List Nat) : List Int := s.map (fun x : Nat => (x : Int))

theorem toI_length (s : List Nat) : (toI s).length = s.length := by simp [toI]
theorem toI_getD (s : List Nat) (i : Nat) : (toI s).getD i 0 = ((s.getD i 0 : Nat) : Int) := by
  simp only [toI, List.getD, List.getElem?_map]
  cases s[i]? <;> simp

theorem slice_form {w : World} {base : Nat} {v : Value} {n : Nat} {xs : List Value} (h : w.ownsRow base 3 1 v n xs) : ∃ a c, v = .slice a n c := by
  rcases h.2 with ⟨hv, h0⟩ | ⟨g, cap, cur, hv, _⟩
  · exact ⟨none, 0, by rw [hv, h0]⟩
  · exact ⟨_, _, hv⟩

theorem Rd_one (w : World) (x : Int) : Rd (w.alloc (.cells #[.int .i64 x] 3)) (some ⟨w.heap.size, 0, none⟩) 1 1 [x] := by
  refine ⟨rfl, Nat.le_refl _, by unfold maxLen; omega, (fun h => by simp at h), fun _ => ⟨w.heap.size, 0, rfl, fun i hi => ?_⟩⟩
  obtain rfl : i = 0 := by omega
  simp

/-- Who holds the cards, in the deal's own memory. -/
def Hld (w : World) (db : Nat) (hold : Nat → Nat) : Prop := ∀ c, c < 52 → w.cell? ⟨db, c, none⟩ = some (.int .i64 (hold c))

theorem held_len (m : Nat) (hold : Nat → Nat) (p n : Nat) : (heldL m hold p n).length ≤ n := by
  unfold heldL
  exact Nat.le_trans (List.length_filter_le _ _) (by simp)

set_option maxRecDepth 100000 in
set_option maxHeartbeats 4000000 in
theorem hand_any (db p m : Nat) (hold : Nat → Nat) (hm : m < 18446744073709551616) (h52 : ∀ j, m.testBit j = true → j < 52) (hh : ∀ c, c < 52 → hold c < 4) (w : World) (hT : Tab w) (hH : Hld w db hold) :
    Calls Tryd.prog 33 #[.pointer (some ⟨db, 0, none⟩), .int .i64 p, .int .u64 m] w fun e w' => ∃ v, e = .returned v ∧ w'.ownsRow w.heap.size 3 1 v (heldL m hold p 52).length ((toI (heldL m hold p 52)).map (Value.int .i64)) ∧ Below w.heap.size w w' := by
  have hdb : db < w.heap.size := World.block_lt_of_cell? w _ (hH 0 (by omega))
  have h0b : 0 < w.heap.size := World.block_lt_of_cell? w _ (hT 0 (by omega))
  obtain ⟨R, hR⟩ : ∃ R, heldL m hold p 52 = R := ⟨_, rfl⟩
  rw [hR]
  have HR := hide hR
  have HT := hide hT
  have HH := hide hH
  have H52 := hide h52
  have H4 := hide hh
  clear hR hT hH h52 hh
  go_enter Tryd.func33, Tryd.ntmps33
  go_wp2_with fail
  go_loopw [2, 7] (fun v l wr => ∃ (r lo : Nat), v = .int .u64 r ∧ r < 18446744073709551616 ∧ lo ≤ 52 ∧ Hid (From m r lo) ∧ (∃ ad cc, l = .slice ad (heldL m hold p lo).length cc) ∧ Hid (wr.ownsRow w.heap.size 3 1 l (heldL m hold p lo).length ((toI (heldL m hold p lo)).map (Value.int .i64))) ∧ Hid (Below w.heap.size w wr)) (fun v _ _ => (intOf v).toNat)
  case atStart => exact ⟨m, 0, rfl, hm, by omega, from_zero m, ⟨_, _, rfl⟩, World.ownsRow_nil _ _ _ _, Below.refl _ _⟩
  case round =>
    obtain ⟨r, lo, rfl, hr, hlo, hF, ⟨ad, cc, rfl⟩, hO, hB⟩ := hrel
    by_cases hr0 : r = 0
    · subst hr0
      have HE : Hid (heldL m hold p lo = R) := by
        show _ = _
        rw [← HR.out, from_end m lo hold p hF.out 52 hlo]
      rw [HE.out] at hO ⊢
      go_wp2
      go_ret
      exact ⟨_, rfl, hO.out, hB.out⟩
    · obtain ⟨k, q, hkq⟩ := low_split r hr0
      obtain ⟨h1, h2, h3, h4⟩ := from_step m r lo k q hF.out hkq
      have hk52 := H52.out k h2
      have hz : ((r : Int) == 0) = false := by simp; omega
      obtain ⟨L, hL⟩ : ∃ L, heldL m hold p lo = L := ⟨_, rfl⟩
      have hLn : heldL m hold p (k + 1) = L ++ (if hold k = p then [k] else []) := by
        rw [held_next m hold p k h2, ← hL]
        congr 1
        obtain ⟨d, rfl⟩ : ∃ d, k = lo + d := ⟨k - lo, by omega⟩
        exact held_skip m hold p lo d (fun j a b => h3 j a b)
      have hLl : L.length ≤ 52 := by rw [← hL]; exact Nat.le_trans (held_len _ _ _ _) hlo
      rw [hL] at hO ⊢
      have c1 : wr.cell? ⟨db, k, none⟩ = some (.int .i64 (hold k)) := (hB.out.cell (p := ⟨db, k, none⟩) hdb).trans (HH.out k hk52)
      have TW : Hid (Tab wr) := fun i hi => (hB.out.cell (p := ⟨0, i, none⟩) h0b).trans (HT.out i hi)
      obtain ⟨hk', hhk⟩ : ∃ x, hold k = x := ⟨_, rfl⟩
      rw [hhk] at c1
      have hx4 : hk' < 4 := by rw [← hhk]; exact H4.out k hk52
      rw [hhk] at hLn
      have HLN := hide hLn
      have HF2 := hide h4
      have HKQ := hide hkq
      obtain ⟨r2, hr2⟩ : ∃ r2, r &&& (r - 1) = r2 := ⟨_, rfl⟩
      have hr2lt : r2 < r := by rw [← hr2]; exact Nat.lt_of_le_of_lt Nat.and_le_right (by omega)
      have b1 : bits BinOp.and IntKind.u64 (r : Int) ((r : Int) - 1) = (r2 : Int) := by
        rw [show (r : Int) - 1 = ((r - 1 : Nat) : Int) by omega, bits_and_u64_nat r (r - 1) hr (by omega), hr2]
      have b2 : IntKind.u64.wrap ((r : Int) - 1) = (r : Int) - 1 := by rw [IntKind.wrap_u64]; omega
      rw [hr2] at HF2
      clear h1 h2 h3 h4 hkq hL hLn hhk hr2
      go_wp2_with fail
      have hz2 := tz_any k q (by rw [← HKQ.out]; exact hr) wr TW.out
      rw [← HKQ.out] at hz2
      refine hz2.mono ?_
      rintro e w1 ⟨rfl, hw⟩
      subst w1
      clear hz2
      by_cases he : hk' = p
      · have hbb : ((hk' : Int) == (p : Int)) = true := by simp; omega
        have HL2 : Hid (heldL m hold p (k + 1) = L ++ [k]) := by show _ = _; rw [HLN.out, if_pos he]
        clear he
        go_wp2_with (at_builtin; refine wpList_append_rd _ rfl (.tmp 25) (.tmp 27) rfl w.heap.size _ L.length (toI L) rfl (hO.out.alloc _) _ 1 1 [(k : Int)] rfl (Rd_one _ _) (by omega) (by have := hB.out.size; simp; omega) ?_)
        intro v' w' hO' hG'
        obtain ⟨a', c', hv'⟩ := slice_form hO'
        rw [hv'] at hO' ⊢
        have hb0 : Below w.heap.size w (wr.alloc (.cells #[.int .i64 (k : Int)] 3)) := hB.out.alloc hB.out.size _
        have HB' := hide (hb0.grown hG' hb0.size (fun j hj => (hO.out.lt j hj).1))
        have HO' := hide hO'
        clear hO' hG' hb0 hv'
        go_wp2
        refine ⟨⟨r2, k + 1, rfl, by omega, by omega, HF2.out, ⟨a', c', by rw [HL2.out]; simp⟩, ?_, HB'.out⟩, by simp [intOf]; omega⟩
        rw [HL2.out]
        have e : (toI (L ++ [k])).map (Value.int .i64) = (toI L).map (Value.int .i64) ++ [Value.int .i64 (k : Int)] := by simp [toI]
        rw [e, List.length_append]
        exact HO'.out
      · have hbb : ((hk' : Int) == (p : Int)) = false := by simp; omega
        have HL2 : Hid (heldL m hold p (k + 1) = L) := by show _ = _; rw [HLN.out, if_neg he, List.append_nil]
        clear he
        go_wp2
        refine ⟨⟨r2, k + 1, rfl, by omega, by omega, HF2.out, ⟨_, _, by rw [HL2.out]⟩, ?_, hB.out⟩, by simp [intOf]; omega⟩
        rw [HL2.out]
        exact hO.out

end Go.Proofs.YtiihnlpoagnkhaaDoor
