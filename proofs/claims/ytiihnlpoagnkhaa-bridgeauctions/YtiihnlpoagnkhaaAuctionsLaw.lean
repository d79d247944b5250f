/-
  The law 'BridgeAuctions': every way through it ends with true. No conditions beyond those that each theorem bears.
-/
import Derived.Test.YtiihnlpoagnkhaaAuO
namespace Go.Proofs.Ytiihnlpoagnkhaa
open Go.RowKit

/-- A contract that was laid is still there behind a call. -/
theorem ct_kept {w w1 : World} (l s d k : Int) (hB : Below (w.alloc (Obj.cells #[.int .i64 l, .int .i64 s, .int .i64 d, .int .i64 k] 34)).heap.size (w.alloc (Obj.cells #[.int .i64 l, .int .i64 s, .int .i64 d, .int .i64 k] 34)) w1) :
    w1.cell? ⟨w.heap.size, 0, none⟩ = some (.int .i64 l) ∧ w1.cell? ⟨w.heap.size, 1, none⟩ = some (.int .i64 s) ∧ w1.cell? ⟨w.heap.size, 2, none⟩ = some (.int .i64 d) ∧ w1.cell? ⟨w.heap.size, 3, none⟩ = some (.int .i64 k) := by
  refine ⟨?_, ?_, ?_, ?_⟩ <;> · rw [hB.cell (by simp [World.size_alloc])]; go_simp

theorem ct_laid {w w1 : World} (l s d k : Int) (hB : Below (w.alloc (Obj.cells #[.int .i64 l, .int .i64 s, .int .i64 d, .int .i64 k] 34)).heap.size (w.alloc (Obj.cells #[.int .i64 l, .int .i64 s, .int .i64 d, .int .i64 k] 34)) w1) : Below w.heap.size w w1 :=
  ((Below.refl w.heap.size w).alloc (Nat.le_refl _) _).trans (hB.mono (by rw [World.size_alloc]; omega))

set_option maxRecDepth 100000 in
set_option maxHeartbeats 4000000 in
theorem auctions_any (a : Option Addr) (n c : Nat) (zs : List Int) (w : World) (h : Rd w a n c zs) (hr : n * 8 ≤ 140737488351232) :
    Calls Try.prog 4 #[.slice a n c] w fun e w' => e = .returned (.bool true) ∧ Below w.heap.size w w' := by
  have HH := hide h
  clear h
  go_enter Try.func4, Try.ntmps4
  go_wp2_with fail
  refine (ints_any a n c zs w HH.out hr).mono ?_
  rintro e w1 ⟨a1, c1, rfl, hR1, hB1⟩
  have HR1 := hide hR1
  have HB1 := hide hB1
  clear hR1 hB1
  go_wp2_with fail
  refine (Auction_any a1 n c1 zs w1 HR1.out).mono ?_
  rintro e w2 ⟨l, s, d, k, E, hO, rfl, hB2⟩
  have HB2 := hide (HB1.out.trans (hB2.mono HB1.out.size))
  have HO := hide hO
  clear hO hB2 HB1 HR1
  go_wp2_with fail
  refine (AuctionOf_any a n c zs _ ((HH.out.mono HB2.out).mono ((Below.refl _ _).alloc (Nat.le_refl _) _))).mono ?_
  rintro e w3 ⟨l', s', d', k', E', hO', rfl, hB3⟩
  obtain ⟨rfl, rfl, rfl, rfl, rfl⟩ := HO.out.unique hO'
  obtain ⟨q0, q1, q2, q3⟩ := ct_kept l s d k hB3
  have hlt : w2.heap.size < w3.heap.size := by have := hB3.size; rw [World.size_alloc] at this; omega
  have z0 := (World.cell?_alloc_lt w3 (Obj.cells #[.int .i64 l, .int .i64 s, .int .i64 d, .int .i64 k] 34) ⟨w2.heap.size, 0, none⟩ hlt).trans q0
  have z1 := (World.cell?_alloc_lt w3 (Obj.cells #[.int .i64 l, .int .i64 s, .int .i64 d, .int .i64 k] 34) ⟨w2.heap.size, 1, none⟩ hlt).trans q1
  have z2 := (World.cell?_alloc_lt w3 (Obj.cells #[.int .i64 l, .int .i64 s, .int .i64 d, .int .i64 k] 34) ⟨w2.heap.size, 2, none⟩ hlt).trans q2
  have z3 := (World.cell?_alloc_lt w3 (Obj.cells #[.int .i64 l, .int .i64 s, .int .i64 d, .int .i64 k] 34) ⟨w2.heap.size, 3, none⟩ hlt).trans q3
  have HB3 := hide (HB2.out.trans ((ct_laid l s d k hB3).mono HB2.out.size))
  have eE : (E == E) = true := by simp
  clear hO' hB3 HO
  go_wp2
  go_ret
  exact ⟨rfl, HB3.out.alloc HB3.out.size _⟩

end Go.Proofs.Ytiihnlpoagnkhaa
