/-
  What poker.others answers: all cards but those that are known. No conditions beyond those that each theorem bears.
-/
import Derived.Test.YtdhacmcdbpojlaaFives
import Derived.Test.YtdhacmcdbpojlaaShelf
namespace Go.Proofs.Ytdhacmcdbpojlaa
open Go.RowKit Go.Shelf

/-- The cards below k that are not known. -/
def othK (zs : List Int) (k : Nat) : List Nat := (List.range k).filter (fun c => !(zs.contains (c : Int)))

theorem othK_succ (zs : List Int) (k : Nat) : othK zs (k + 1) = othK zs k ++ (if zs.contains (k : Int) = true then [] else [k]) := by
  simp only [othK, List.range_succ, List.filter_append, List.filter_cons, List.filter_nil]
  cases zs.contains (k : Int) <;> rfl

theorem othK_len (zs : List Int) (k : Nat) : (othK zs k).length ≤ k := by
  refine Nat.le_trans (List.length_filter_le _ _) ?_
  simp

theorem one_rd (w : World) (x : Int) : Rd (w.alloc (.cells #[.int .i64 x] 3)) (some ⟨w.heap.size, 0, none⟩) 1 1 [x] := by
  refine ⟨rfl, Nat.le_refl _, by unfold maxLen; omega, (fun h => by simp at h), fun _ => ⟨w.heap.size, 0, rfl, fun i hi => ?_⟩⟩
  obtain rfl : i = 0 := by omega
  simp

theorem form_slice {w : World} {base : Nat} {v : Value} {n : Nat} {xs : List Value} (h : w.ownsRow base 3 1 v n xs) : ∃ a c, v = .slice a n c := by
  rcases h.2 with ⟨hv, h0⟩ | ⟨g, cap, cur, hv, _⟩
  · exact ⟨none, 0, by rw [hv, h0]⟩
  · exact ⟨_, _, hv⟩

theorem contains_any (a : Option Addr) (n c : Nat) (zs : List Int) (x : Int) (w : World) (h : Rd w a n c zs) :
    Calls Try.prog 39 #[.slice a n c, .int .i64 x] w fun e w' => e = .returned (.bool (zs.contains x)) ∧ w' = w := by
  by_cases h0 : n = 0
  · subst h0
    have hz : zs = [] := List.eq_nil_of_length_eq_zero h.len
    subst hz
    exact Try.slices_Contains_int_empty a c x w
  · obtain ⟨b, off, rfl, hc⟩ := h.cells (by omega)
    have hm := h.max
    have hcp := h.cap
    unfold maxLen at hm
    have := Try.slices_Contains_int b off n c zs x w (by rw [h.len]; exact Nat.le_refl _) (by omega) (fun j hj => hc j (by rw [← h.len]; exact hj))
    rwa [List.take_of_length_le (by rw [h.len]; exact Nat.le_refl _)] at this

set_option maxHeartbeats 1600000 in
theorem others_any (a : Option Addr) (n c : Nat) (zs : List Int) (w : World) (h : Rd w a n c zs) :
    Calls Try.prog 28 #[.slice a n c] w fun e w' => ∃ a' c', e = .returned (.slice a' (othK zs 52).length c') ∧ Rd w' a' (othK zs 52).length c' (toI (othK zs 52)) ∧ (∀ b off, a' = some ⟨b, off, none⟩ → w.heap.size ≤ b) ∧ Below w.heap.size w w' := by
  have HR := hide h
  clear h
  go_enter Try.func28, Try.ntmps28
  go_wp2
  go_loopw [3, 5] (fun s v wr => ∃ (k : Nat), v = .int .i64 k ∧ k ≤ 52 ∧ (∃ ad cc, s = .slice ad (othK zs k).length cc) ∧ Hid (wr.ownsRow w.heap.size 3 1 s (othK zs k).length ((toI (othK zs k)).map (Value.int .i64))) ∧ Hid (Below w.heap.size w wr)) (fun _ v _ => 52 - (intOf v).toNat)
  case atStart => exact ⟨0, rfl, by omega, ⟨_, _, rfl⟩, World.ownsRow_nil _ _ _ _, Below.refl _ _⟩
  case round =>
    obtain ⟨k, rfl, hk, ⟨ad, cc, rfl⟩, hO, hB⟩ := hrel
    by_cases hlt : k < 52
    · have hlt' : (k : Int) < 52 := by omega
      have hs := othK_succ zs k
      have hl := othK_len zs k
      have CT := hide (contains_any a n c zs (k : Int) wr (HR.out.mono hB.out))
      obtain ⟨L, hL⟩ : ∃ L, othK zs k = L := ⟨_, rfl⟩
      rw [hL] at hs hl hO ⊢
      cases hc : zs.contains (k : Int) with
      | true =>
        rw [hc, if_pos rfl, List.append_nil] at hs
        rw [hc] at CT
        have HS := hide hs
        clear hs hc hL
        go_wp2_with fail
        refine CT.out.mono ?_
        rintro e w1 ⟨rfl, hw⟩
        subst w1
        go_wp2
        go_roundw
        case rel => exact ⟨k + 1, by go_num, by omega, ⟨ad, cc, by rw [HS.out]⟩, by rw [HS.out]; exact hO.out, hB.out⟩
        case measure => simp [intOf]; omega
      | false =>
        rw [hc, if_neg (by simp)] at hs
        rw [hc] at CT
        have HS := hide hs
        clear hs hc hL
        go_wp2_with fail
        refine CT.out.mono ?_
        rintro e w1 ⟨rfl, hw⟩
        subst w1
        go_wp2_with (at_builtin; refine wpList_append_rd _ rfl (.tmp 12) (.tmp 14) rfl w.heap.size _ L.length (toI L) rfl (hO.out.alloc _) _ 1 1 [(k : Int)] rfl (one_rd _ _) (by omega) (by have := hB.out.size; simp; omega) ?_)
        intro v' w' hO' hG'
        obtain ⟨a', c', hv'⟩ := form_slice hO'
        rw [hv'] at hO' ⊢
        have hb0 : Below w.heap.size w (wr.alloc (.cells #[.int .i64 (k : Int)] 3)) := hB.out.alloc hB.out.size _
        have HB' := hide (hb0.grown hG' hb0.size (fun j hj => (hO.out.lt j hj).1))
        have HO' := hide hO'
        clear hO' hG' hb0 hv'
        go_wp2_with fail
        go_roundw
        case rel =>
          refine ⟨k + 1, by go_num, by omega, ⟨a', c', by rw [HS.out]; simp⟩, ?_, HB'.out⟩
          rw [HS.out]
          have := HO'.out
          simp only [toI, List.map_append, List.map_cons, List.map_nil, List.length_append, List.length_cons, List.length_nil, Nat.zero_add] at this ⊢
          exact this
        case measure => simp [intOf]; omega
    · obtain rfl : k = 52 := by omega
      go_wp2
      go_ret
      exact ⟨_, _, rfl, Rd.of_own hO.out, fun b off e => by subst e; exact (hO.out.lt b rfl).1, hB.out⟩

end Go.Proofs.Ytdhacmcdbpojlaa
