/-
  What the document's BestTricks answers, over the whole. No conditions beyond those that each theorem bears.
-/
import Derived.Test.YtiihnlpoagnkhaaDoorRf
namespace Go.Proofs.YtiihnlpoagnkhaaDoor
open Go.RowKit

set_option maxHeartbeats 400000 in
theorem refInts_own (a : Option Addr) (n c : Nat) (zs : List Int) (w : World) (h : Rd w a n c zs) (hr : n * 8 ≤ 140737488351232) :
    Calls Tryd.prog 21 #[.slice a n c] w fun e w' => ∃ a' c', e = .returned (.slice a' n c') ∧ w'.ownsRow w.heap.size 3 1 (.slice a' n c') n (zs.map (Value.int .i64)) ∧ Below w.heap.size w w' := by
  obtain ⟨i0, hi, hz0, hz1, hz2⟩ := info_parts Tryd.info3
  cases a with
  | none =>
    obtain rfl := h.nil rfl
    obtain rfl : n = 0 := by have := h.cap; omega
    go_enter Tryd.func21, Tryd.ntmps21
    go_wp2_with (at_builtin; refine wpList_append_own_none rfl _ _ 27 rfl w.heap.size 3 i0 1 Tryd.underlying27 hi _ 0 [] rfl (World.ownsRow_nil _ _ _ _) rfl ?_)
    go_ret
    have hz : zs = [] := List.eq_nil_of_length_eq_zero h.len
    subst hz
    exact ⟨_, _, rfl, World.ownsRow_nil _ _ _ _, Below.refl _ _⟩
  | some ad =>
    have hcell : ∀ j u, (zs.map (Value.int .i64))[j]? = some u → w.cell? (ad.add j) = some u := by
      intro j u hu
      have hj : j < n := by have := (List.getElem?_eq_some_iff.1 hu).1; simpa [h.len] using this
      obtain ⟨b, off, he, hc⟩ := h.cells (by omega)
      obtain rfl := Option.some.inj he
      rw [Addr.add_lit, hc j hj]
      have hz : j < zs.length := by rw [h.len]; exact hj
      simpa [List.getD, hz] using hu
    have hl : (zs.map (Value.int .i64)).length = n * 1 := by simp [h.len]
    have hone := ints_oneCell .i64 zs
    have hmax : 0 + n ≤ maxLen := by have := h.cap; have := h.max; omega
    have hle : Hid (zs.length = n) := h.len
    go_enter Tryd.func21, Tryd.ntmps21
    go_wp2_with (at_builtin; refine wpList_append_own _ rfl _ _ 27 rfl w.heap.size 3 i0 (.int .i64 0) 1 8 Tryd.underlying27 hi hz0 hz1 hz2 rfl (by decide) _ 0 [] rfl (World.ownsRow_nil _ _ _ _) ad n c (zs.map (Value.int .i64)) rfl hl hcell hone hmax (by omega) (Nat.le_refl _) ?_)
    intro v' w1 hown hgrow _
    have hex : ∃ a' c', v' = .slice a' n c' := by
      rcases hown.2 with ⟨hv, h0⟩ | ⟨g, cap, cur, hv, _⟩
      · exact ⟨none, 0, by rw [hv]; simp; omega⟩
      · exact ⟨_, _, hv⟩
    obtain ⟨a', c', rfl⟩ := hex
    have B : Below w.heap.size w w1 := (Below.refl _ _).grown hgrow (Nat.le_refl _) (fun k hk => by simp [Value.ownBlock] at hk)
    clear hgrow
    have HO := hide hown
    clear hown
    go_wp2
    go_ret
    exact ⟨_, _, rfl, HO.out, B⟩


/-- What BestTricks answers, f steps deep. -/
def BT (s : Int) (f : Nat) : Prop :=
  ∀ (H : Nat → List Nat) (ld n b o c : Nat) (a : Option Addr) (ca : Nat) (tr : List Nat) (w : World), ld < 4 → 1 ≤ n → n ≤ 13 → tr.length ≤ 4 → Even4 H ld tr.length n → 5 * (n - 1) + (5 - tr.length) ≤ f → HL w b o H → Rd w a tr.length ca (toI tr) →
    Calls Tryd.prog 8 #[.slice (some ⟨b, o, none⟩) 4 c, .int .i64 s, .int .i64 ld, .slice a tr.length ca] w fun e w' => e = .returned (.int .i64 (bt (winF s) f H ld tr : Nat)) ∧ Below w.heap.size w w'

set_option maxRecDepth 100000 in
set_option maxHeartbeats 4000000 in
theorem BT_end (s : Int) (f : Nat) (ih : BT s f) (H : Nat → List Nat) (ld n b o c : Nat) (a : Option Addr) (ca : Nat) (tr : List Nat) (w : World) (hld : ld < 4) (hn : 1 ≤ n) (hn13 : n ≤ 13) (hk4 : tr.length = 4) (hE : Even4 H ld 4 n) (hf : 5 * (n - 1) + 1 ≤ f + 1) (hH : HL w b o H) (hR : Rd w a 4 ca (toI tr)) :
    Calls Tryd.prog 8 #[.slice (some ⟨b, o, none⟩) 4 c, .int .i64 s, .int .i64 ld, .slice a 4 ca] w fun e w' => e = .returned (.int .i64 (bt (winF s) (f + 1) H ld tr : Nat)) ∧ Below w.heap.size w w' := by
  have hw4 := winF_lt s tr
  obtain ⟨x, hx⟩ : ∃ x, winF s tr = x := ⟨_, rfl⟩
  obtain ⟨nx, hnx⟩ : ∃ nx, (ld + x) % 4 = nx := ⟨_, rfl⟩
  have hnx4 : nx < 4 := by omega
  have hx4 : x < 4 := by omega
  have hlen := hE nx hnx4
  rw [if_pos (by omega)] at hlen
  have HV : Hid (bt (winF s) (f + 1) H ld tr = fst1 nx + (if H nx = [] then 0 else bt (winF s) f H nx [])) := hide (by rw [bt, if_pos hk4, hx, hnx])
  have htm : Int.tmod ((ld : Int) + (x : Int)) 4 = (nx : Int) := by rw [Int.tmod_eq_emod_of_nonneg (by omega)]; omega
  have hpt : Int.tmod (nx : Int) 2 = ((nx % 2 : Nat) : Int) := by rw [Int.tmod_eq_emod_of_nonneg (by omega)]; omega
  have TW := hide (TrickWinner_any a ca tr s w hR)
  rw [show wn tr s 4 = x from hx] at TW
  have HH := hide hH
  obtain ⟨an, cn, hcn, -⟩ := hH.cell nx hnx4
  have hbs : b < w.heap.size := World.block_lt_of_cell? w _ hcn
  rw [hlen] at hcn
  have HC := hide hcn
  have HF1 : Hid (fst1 nx = if nx % 2 = 0 then 1 else 0) := hide rfl
  have hE2 : Even4 H nx 0 (n - 1) := by
    intro p hp
    have := hE p hp
    rw [if_pos (by omega)] at this
    rw [this, if_neg (by omega)]
  have IH := hide (fun (h1 : 1 ≤ n - 1) (W : World) (hW : HL W b o H) => ih H nx (n - 1) b o c none 0 [] W hnx4 h1 (by omega) (by simp) (by simpa using hE2) (by simp; omega) hW (Rd.of_nil W))
  have hbt : Hid (1 ≤ n - 1 → bt (winF s) f H nx [] ≤ 13) := hide (fun h1 => by
    have := (bt_turn (winF s) (winF_lt s) f H nx (n - 1) [] hnx4 h1 (by simp) (by simpa using hE2) (by simp; omega)).1
    omega)
  have hem : Hid (H nx = [] ↔ n - 1 = 0) := hide ⟨fun e => by rw [← hlen, e]; rfl, fun e => List.eq_nil_of_length_eq_zero (by rw [hlen, e])⟩
  clear hE hE2 ih hx hnx hH hR hcn hk4 hlen
  obtain ⟨r, hr⟩ : ∃ r, nx % 2 = r := ⟨_, rfl⟩
  have hr2 : r < 2 := by omega
  rw [hr] at hpt HF1
  clear hr
  obtain ⟨k4, hk5⟩ : ∃ k4 : Nat, k4 = 4 := ⟨4, rfl⟩
  have hke : ((k4 : Int) == 4) = true := by subst hk5; rfl
  rw [show (Value.slice a 4 ca) = Value.slice a k4 ca by rw [hk5]] at TW ⊢
  have HK5 := hide hk5
  clear hk5
  go_enter Tryd.func8, Tryd.ntmps8
  go_wp2_with fail
  refine TW.out.mono ?_
  rintro e w1 ⟨rfl, q, rfl⟩
  have B1 : Below w.heap.size w (w.drewN q) := drewN_below _ _ _
  have c1 : (w.drewN q).cell? ⟨b, o + nx, none⟩ = some (.slice an (n - 1) cn) := (B1.cell (p := ⟨b, o + nx, none⟩) hbs).trans HC.out
  have H1 := hide (HH.out.below B1)
  have HB1 := hide B1
  clear B1 TW HC HH
  generalize w.drewN q = w1 at *
  by_cases h0 : n - 1 = 0
  · have HV2 : Hid (bt (winF s) (f + 1) H ld tr = fst1 nx) := hide (by rw [HV.out, if_pos (hem.out.2 h0)]; omega)
    rw [h0] at c1
    clear HV IH hbt hem h0
    rcases (show r = 0 ∨ r = 1 by omega) with rfl | rfl
    · go_wp2
      go_ret
      exact ⟨by rw [HV2.out, HF1.out]; rfl, HB1.out⟩
    · go_wp2
      go_ret
      exact ⟨by rw [HV2.out, HF1.out]; rfl, HB1.out⟩
  · have hb := hbt.out (by omega)
    have HV2 : Hid (bt (winF s) (f + 1) H ld tr = fst1 nx + bt (winF s) f H nx []) := hide (by rw [HV.out, if_neg (fun e => h0 (hem.out.1 e))])
    have hm0 : (((n - 1 : Nat) : Int) == 0) = false := by simp; omega
    have CALL := hide (IH.out (by omega) w1 H1.out)
    generalize n - 1 = m at *
    clear HV IH hbt hem h0
    rcases (show r = 0 ∨ r = 1 by omega) with rfl | rfl
    · go_wp2_with fail
      refine CALL.out.mono ?_
      rintro e w2 ⟨rfl, hb2⟩
      have HB2 := hide (HB1.out.trans (hb2.mono HB1.out.size))
      clear hb2
      generalize hv : bt (winF s) f H nx [] = v at *
      go_wp2
      go_ret
      refine ⟨?_, HB2.out⟩
      rw [HV2.out, HF1.out]
      show Ending.returned (.int .i64 ((1 : Int) + (v : Int))) = _
      rw [if_pos (by trivial), show ((1 + v : Nat) : Int) = 1 + (v : Int) by omega]
    · go_wp2_with fail
      refine CALL.out.mono ?_
      rintro e w2 ⟨rfl, hb2⟩
      have HB2 := hide (HB1.out.trans (hb2.mono HB1.out.size))
      clear hb2
      generalize hv : bt (winF s) f H nx [] = v at *
      go_wp2
      go_ret
      refine ⟨?_, HB2.out⟩
      rw [HV2.out, HF1.out, if_neg (by simp), Nat.zero_add]
      first | rfl | (show Ending.returned (.int .i64 ((0 : Int) + (v : Int))) = _; rw [Int.zero_add])

end Go.Proofs.YtiihnlpoagnkhaaDoor
