/-
  What the document's GammonOf, SameGammon and the law's noGammon answer. No conditions beyond those that each theorem bears.
-/
import Derived.Test.YtmboikpcbkiepaaTold
namespace Go.Proofs.Ytmboikpcbkiepaa
open Go.RowKit

theorem Keeps.grown {b : Nat} {w w' : World} (h : Keeps (fun k => k = b) w w') : w.grownBy w' (some b) :=
  ⟨h.os, h.tape, h.output, h.size, fun i hi hne => h.block i hi (fun e => hne (by rw [e]))⟩

theorem own_keeps {w w' : World} {base b : Nat} {v : Value} {n : Nat} {xs : List Value} (h : w.ownsRow base 3 1 v n xs) (hk : Keeps (fun k => k = b) w w') (hb : b < base) : w'.ownsRow base 3 1 v n xs := by
  refine h.kept hk.grown (Or.inr ?_)
  intro e
  have := (h.lt b e).1
  omega

theorem own_base {w : World} {base base' : Nat} {v : Value} {n : Nat} {xs : List Value} (h : w.ownsRow base 3 1 v n xs) (hb : base' ≤ base) : w.ownsRow base' 3 1 v n xs := by
  refine ⟨h.1, ?_⟩
  rcases h.2 with h2 | ⟨g, cap, cur, h1, h2, h3⟩
  · exact Or.inl h2
  · exact Or.inr ⟨g, cap, cur, h1, by omega, h3⟩

set_option maxRecDepth 100000 in
set_option maxHeartbeats 4000000 in
theorem GammonOf_own (a : Option Addr) (n c : Nat) (P : List Int) (W B T : Int) (w : World) (h : Rd w a n c P) (hr : n * 8 ≤ 140737488351232) :
    Calls Try.prog 9 #[.agg (gmA a n c W B T)] w fun e w' => ∃ a' c', e = .returned (.agg (gmA a' n c' W B T)) ∧ w'.ownsRow w.heap.size 3 1 (.slice a' n c') n (P.map (Value.int .i64)) ∧ Below w.heap.size w w' := by
  go_enter Try.func9, Try.ntmps9
  go_upto_region 1 with fail
  obtain ⟨w1, hw1⟩ : ∃ w1, (w.alloc (Obj.cells (gmA a n c W B T) 24)).alloc (Obj.cells #[.slice none 0 0, .int .i64 0, .int .i64 0, .int .i64 0] 24) = w1 := ⟨_, rfl⟩
  rw [hw1]
  have K1 : Gm w1 w.heap.size a n c W B T := by rw [← hw1]; exact (Gm.new w a n c W B T).old _
  have K2 : Gm w1 (w.heap.size + 1) none 0 0 0 0 0 := by
    rw [← hw1]
    have := Gm.new (w.alloc (Obj.cells (gmA a n c W B T) 24)) none 0 0 0 0 0
    rw [World.size_alloc] at this
    exact this
  have hs1 : w1.heap.size = w.heap.size + 1 + 1 := by rw [← hw1]; simp
  have B1 : Below w.heap.size w w1 := by rw [← hw1]; exact ((Below.refl _ w).alloc (Nat.le_refl _) _).alloc (by simp) _
  clear hw1
  have HS := hide hs1
  have CALL := hide (ints_own a n c P w1 (h.mono B1) hr)
  rw [hs1] at CALL
  clear hs1
  obtain ⟨g0, -, -, -⟩ := K1.cells
  go_wp2_with fail
  refine CALL.out.mono ?_
  rintro e w2 ⟨a', c', rfl, hO, hb⟩
  have K12 := K1.below (C := w.heap.size + 1 + 1) hb (by omega)
  have K22 := K2.below (C := w.heap.size + 1 + 1) hb (by omega)
  have B2 := B1.trans (hb.mono (by omega))
  clear K1 K2 B1 g0 CALL hb
  obtain ⟨g0, -, -, -⟩ := K12.cells
  have f0 := K12.frozen 0
  have HO := hide hO
  clear hO
  go_upto_region 2 with fail
  have K13 := K12.setP a' n c'
  have K23 := K22.other (show w.heap.size + 1 ≠ w.heap.size by omega) 0 (.slice a' n c')
  have B3 := B2.setCell (p := ⟨w.heap.size, 0, none⟩) (Nat.le_refl _) (.slice a' n c')
  have O3 := hide (own_keeps HO.out (Keeps.set1 w2 w.heap.size 0 (.slice a' n c')) (by omega))
  generalize w2.setCell ⟨w.heap.size, 0, none⟩ (.slice a' n c') = w3 at *
  clear K12 K22 B2 g0 f0 HO
  go_wp2_with (first
    | refine wpList_load_gm rfl (.tmp 1) rfl w.heap.size rfl K13 ?_
    | (refine wpList_store_gm rfl (.tmp 2) (.tmp 7) rfl (w.heap.size + 1) rfl rfl K23 ?_; intro w6 k6 kk6))
  refine bodyPost_ret (results_gm rfl _ _ (w.heap.size + 1) rfl k6) rfl ⟨a', c', rfl, ?_, ?_⟩
  · exact own_base (own_keeps O3.out kk6 (by omega)) (by omega)
  · exact B3.trans ((kk6.mono (Y := fun k => w.heap.size ≤ k) (fun k _ e => by omega)).below (by have := B3.size; omega) (fun k hk e => by omega))

theorem GammonOf_any (a : Option Addr) (n c : Nat) (P : List Int) (W B T : Int) (w : World) (h : Rd w a n c P) (hr : n * 8 ≤ 140737488351232) :
    Calls Try.prog 9 #[.agg (gmA a n c W B T)] w fun e w' => ∃ a' c', e = .returned (.agg (gmA a' n c' W B T)) ∧ Rd w' a' n c' P ∧ Below w.heap.size w w' :=
  (GammonOf_own a n c P W B T w h hr).mono fun _ _ ⟨a', c', h1, h2, h3⟩ => ⟨a', c', h1, Rd.of_own h2, h3⟩

/-- No board at all. -/
def noG (n : Nat) (W B T : Int) : Bool := decide (n = 0 ∧ W = 0 ∧ B = 0 ∧ T = 0)

set_option maxHeartbeats 1000000 in
theorem noGammon_yes (a : Option Addr) (c : Nat) (w : World) :
    Calls Try.prog 12 #[.agg (gmA a 0 c 0 0 0)] w fun e w' => e = .returned (.bool true) ∧ Below w.heap.size w w' := by
  go_enter Try.func12, Try.ntmps12
  go_wp2
  go_ret
  exact ⟨rfl, (Below.refl _ _).alloc (Nat.le_refl _) _⟩

set_option maxRecDepth 100000 in
set_option maxHeartbeats 4000000 in
theorem SameGammon_yes (a a2 : Option Addr) (c c2 : Nat) (P : List Int) (W B T : Int) (w : World) (h : Rd w a 26 c P) (h2 : Rd w a2 26 c2 P) :
    Calls Try.prog 14 #[.agg (gmA a 26 c W B T), .agg (gmA a2 26 c2 W B T)] w fun e w' => e = .returned (.bool true) ∧ Below w.heap.size w w' := by
  obtain ⟨b, off, rfl, hc⟩ := h.cells (by omega)
  obtain ⟨b2, off2, rfl, hc2⟩ := h2.cells (by omega)
  have hbs : b < w.heap.size := World.block_lt_of_cell? w _ (hc 0 (by omega))
  have hbs2 : b2 < w.heap.size := World.block_lt_of_cell? w _ (hc2 0 (by omega))
  have HC := hide hc
  have HC2 := hide hc2
  clear hc hc2 h h2
  go_enter Try.func14, Try.ntmps14
  go_upto_region 1 with fail
  obtain ⟨w1, hw1⟩ : ∃ w1, (w.alloc (Obj.cells (gmA (some ⟨b, off, none⟩) 26 c W B T) 24)).alloc (Obj.cells (gmA (some ⟨b2, off2, none⟩) 26 c2 W B T) 24) = w1 := ⟨_, rfl⟩
  rw [hw1]
  have K1 : Gm w1 w.heap.size (some ⟨b, off, none⟩) 26 c W B T := by rw [← hw1]; exact (Gm.new w _ _ _ _ _ _).old _
  have K2 : Gm w1 (w.heap.size + 1) (some ⟨b2, off2, none⟩) 26 c2 W B T := by
    rw [← hw1]
    have := Gm.new (w.alloc (Obj.cells (gmA (some ⟨b, off, none⟩) 26 c W B T) 24)) (some ⟨b2, off2, none⟩) 26 c2 W B T
    rw [World.size_alloc] at this
    exact this
  have B1 : Below w.heap.size w w1 := by rw [← hw1]; exact ((Below.refl _ w).alloc (Nat.le_refl _) _).alloc (by simp) _
  clear hw1
  obtain ⟨g0, g1, g2, g3⟩ := K1.cells
  obtain ⟨k0, k1, k2, k3⟩ := K2.cells
  go_wp2_with fail
  go_loopw [5] (fun v wr => ∃ (k q : Nat), v = .int .i64 k ∧ k ≤ 26 ∧ wr = w1.drewN q) (fun v _ => 26 - (intOf v).toNat)
  case atStart => exact ⟨0, 0, rfl, by omega, rfl⟩
  case round =>
    obtain ⟨k, q, rfl, hk, hwr⟩ := hrel
    have j1 := hide (K1.drewN q)
    have j2 := hide (K2.drewN q)
    have jb : Hid (Below w.heap.size w (w1.drewN q)) := hide (B1.trans (drewN_below _ _ _))
    rw [← hwr] at j1 j2 jb
    clear g0 g1 g2 g3 k0 k1 k2 k3
    obtain ⟨g0, -, -, -⟩ := j1.out.cells
    obtain ⟨k0, -, -, -⟩ := j2.out.cells
    by_cases hk26 : k < 26
    · have hlt : (k : Int) < 26 := by omega
      have c1 : wr.cell? ⟨b, off + k, none⟩ = some (.int .i64 (P.getD k 0)) := (jb.out.cell (p := ⟨b, off + k, none⟩) hbs).trans (HC.out k hk26)
      have c2 : wr.cell? ⟨b2, off2 + k, none⟩ = some (.int .i64 (P.getD k 0)) := (jb.out.cell (p := ⟨b2, off2 + k, none⟩) hbs2).trans (HC2.out k hk26)
      generalize P.getD k 0 = z at *
      have HWR := hide hwr
      clear hwr
      go_wp2_with fail
      go_quiet (fail)
      go_wp2
      exact ⟨⟨k + 1, q + nq, by go_num, by omega, by rw [HWR.out, World.drewN_drewN]⟩, by simp [intOf]; omega⟩
    · obtain rfl : k = 26 := by omega
      have HWR := hide hwr
      clear hwr
      go_wp2
      go_ret
      exact ⟨rfl, jb.out⟩

end Go.Proofs.Ytmboikpcbkiepaa
