/-
  The law's own copy of a row. No conditions beyond those that each theorem bears.
-/
import Derived.Test.YtafiaimlmdflnaaBase
namespace Go.Proofs.Ytafiaimlmdflnaa
open Go.RowKit

set_option maxHeartbeats 400000 in
theorem lints_own (a : Option Addr) (n c : Nat) (zs : List Int) (w : World) (h : Rd w a n c zs) (hr : n * 8 ≤ 140737488351232) :
    Calls Try.prog 19 #[.slice a n c] w fun e w' => ∃ a' c', e = .returned (.slice a' n c') ∧ w'.ownsRow w.heap.size 3 1 (.slice a' n c') n (zs.map (Value.int .i64)) ∧ Below w.heap.size w w' := by
  obtain ⟨i0, hi, hz0, hz1, hz2⟩ := info_parts Try.info3
  cases a with
  | none =>
    obtain rfl := h.nil rfl
    obtain rfl : n = 0 := by have := h.cap; omega
    go_enter Try.func19, Try.ntmps19
    go_wp2_with (at_builtin; refine wpList_append_own_none rfl _ _ 22 rfl w.heap.size 3 i0 1 Try.underlying22 hi _ 0 [] rfl (World.ownsRow_nil _ _ _ _) rfl ?_)
    go_ret
    have hz : zs = [] := List.eq_nil_of_length_eq_zero h.len
    subst hz
    exact ⟨_, _, rfl, World.ownsRow_nil _ _ _ _, Below.refl _ _⟩
  | some ad =>
    have hcell : ∀ j u, (zs.map (Value.int .i64))[j]? = some u → w.cell? (ad.add j) = some u := by
      intro j u hu
      have hj : j < n := by have := (List.getElem?_eq_some_iff.1 hu).1; simpa [h.len] using this
      obtain ⟨b, off, he, hc⟩ := h.cells (by omega)
      obtain rfl := Option.some.inj he
      rw [Addr.add_lit, hc j hj]
      have hz : j < zs.length := by rw [h.len]; exact hj
      simpa [List.getD, hz] using hu
    have hl : (zs.map (Value.int .i64)).length = n * 1 := by simp [h.len]
    have hone := ints_oneCell .i64 zs
    have hmax : 0 + n ≤ maxLen := by have := h.cap; have := h.max; omega
    have hle : Hid (zs.length = n) := h.len
    go_enter Try.func19, Try.ntmps19
    go_wp2_with (at_builtin; refine wpList_append_own _ rfl _ _ 22 rfl w.heap.size 3 i0 (.int .i64 0) 1 8 Try.underlying22 hi hz0 hz1 hz2 rfl (by decide) _ 0 [] rfl (World.ownsRow_nil _ _ _ _) ad n c (zs.map (Value.int .i64)) rfl hl hcell hone hmax (by omega) (Nat.le_refl _) ?_)
    intro v' w1 hown hgrow _
    have hex : ∃ a' c', v' = .slice a' n c' := by
      rcases hown.2 with ⟨hv, h0⟩ | ⟨g, cap, cur, hv, _⟩
      · exact ⟨none, 0, by rw [hv]; simp; omega⟩
      · exact ⟨_, _, hv⟩
    obtain ⟨a', c', rfl⟩ := hex
    have B : Below w.heap.size w w1 := (Below.refl _ _).grown hgrow (Nat.le_refl _) (fun k hk => by simp [Value.ownBlock] at hk)
    clear hgrow
    have HO := hide hown
    clear hown
    go_wp2
    go_ret
    exact ⟨_, _, rfl, HO.out, B⟩

theorem lints_any (a : Option Addr) (n c : Nat) (zs : List Int) (w : World) (h : Rd w a n c zs) (hr : n * 8 ≤ 140737488351232) :
    Calls Try.prog 19 #[.slice a n c] w fun e w' => ∃ a' c', e = .returned (.slice a' n c') ∧ Rd w' a' n c' zs ∧ Below w.heap.size w w' :=
  (lints_own a n c zs w h hr).mono fun _ _ ⟨a', c', he, ho, hb⟩ => ⟨a', c', he, Rd.of_own ho, hb⟩

end Go.Proofs.Ytafiaimlmdflnaa
