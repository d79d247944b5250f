/-
  dice.Duel: in how many ways the first shows more, as much, less. No conditions beyond those that each theorem bears.
-/
import Derived.Test.YtonmgbepkdlklaaTally
import Derived.Test.YtonmgbepkdlklaaSmall
import Derived.Test.YtonmgbepkdlklaaShelf
namespace Go.Proofs.Ytonmgbepkdlklaa
open Go.RowKit

/-- What two sides that are shown are by one another. -/
def duF (A B : List Int) (L : List Nat) : Int := Lib.compareInt (A.getD (L.getD 0 0 - 1) 0) (B.getD (L.getD 1 0 - 1) 0)

theorem cmp_range (x y : Int) : Lib.compareInt x y = -1 ∧ x < y ∨ Lib.compareInt x y = 0 ∧ x = y ∨ Lib.compareInt x y = 1 ∧ y < x := by
  unfold Lib.compareInt
  by_cases h1 : x < y
  · simp [h1]
  · by_cases h2 : y < x
    · simp [h1, h2]
    · simp [h1, h2]; omega

set_option maxHeartbeats 1000000 in
theorem duel1_any (pa pb : Nat) (aa ba : Option Addr) (na ca nb cb SB : Nat) (A B : List Int) (L : List Nat) (W : World) (ha : W.cell? ⟨pa, 0, none⟩ = some (.slice aa na ca)) (hb : W.cell? ⟨pb, 0, none⟩ = some (.slice ba nb cb))
    (hA : Rd W aa na ca A) (hB : Rd W ba nb cb B) (hL : Blk W SB L) (hl : L.length = 2) (hO : Ok [na, nb] 2 L) :
    Calls Try.prog 25 #[.slice (some ⟨SB, 0, none⟩) 2 2, .pointer (some ⟨pa, 0, none⟩), .pointer (some ⟨pb, 0, none⟩)] W fun e W' => e = .returned (.int .i64 (duF A B L)) ∧ Below W.heap.size W W' := by
  have hcm := hA.max
  have hcn := hA.cap
  have hcm2 := hB.max
  have hcn2 := hB.cap
  unfold maxLen at hcm hcm2
  obtain ⟨x1, x2⟩ := hO 0 (by omega)
  obtain ⟨y1, y2⟩ := hO 1 (by omega)
  have c0 := hL.cell (i := 0) (by omega)
  have c1 := hL.cell (i := 1) (by omega)
  obtain ⟨x, hx⟩ : ∃ x, L.getD 0 0 = x := ⟨_, rfl⟩
  obtain ⟨y, hy⟩ : ∃ y, L.getD 1 0 = y := ⟨_, rfl⟩
  rw [hx] at c0 x1 x2
  rw [hy] at c1 y1 y2
  have x3 : x ≤ na := x2
  have y3 : y ≤ nb := y2
  obtain ⟨p, hp⟩ : ∃ p, x - 1 = p := ⟨_, rfl⟩
  obtain ⟨q, hq⟩ : ∃ q, y - 1 = q := ⟨_, rfl⟩
  have hpe : (x : Int) - 1 = (p : Int) := by omega
  have hqe : (y : Int) - 1 = (q : Int) := by omega
  obtain ⟨b1, o1, e1, h1⟩ := hA.cells (by omega)
  obtain ⟨b2, o2, e2, h2⟩ := hB.cells (by omega)
  subst e1 e2
  have r1 := h1 p (by omega)
  have r2 := h2 q (by omega)
  have hpl : (p : Int) < (na : Int) := by omega
  have hql : (q : Int) < (nb : Int) := by omega
  have HV : Hid (duF A B L = Lib.compareInt (A.getD p 0) (B.getD q 0)) := hide (by unfold duF; rw [hx, hy, hp, hq])
  obtain ⟨u, hu⟩ : ∃ u, A.getD p 0 = u := ⟨_, rfl⟩
  obtain ⟨v, hv⟩ : ∃ v, B.getD q 0 = v := ⟨_, rfl⟩
  rw [hu] at r1 HV
  rw [hv] at r2 HV
  clear hu hv hx hy hp hq h1 h2 hA hB hL hO x2 y2
  go_enter Try.func25, Try.ntmps25
  go_wp2
  go_quiet ((go_at_call 26; exact Calls.quiet_of_same (Try.cmp_Compare_int _ _ _)))
  go_wp2
  go_ret
  exact ⟨ret_int HV.out.symm, drewN_below _ _ _⟩

theorem results_tmp4 {fn : Func} {t u v x : Tmp} (h : fn.results = #[.tmp t, .tmp u, .tmp v, .tmp x]) (tmps : Array Value) (P : Program) (w : World) :
    (results fn tmps).run P w = .ok (.tuple #[tmps.getD t undef, tmps.getD u undef, tmps.getD v undef, tmps.getD x undef]) w := by
  simp [results, h]

/-- In how many ways of both the answer is p - 1. -/
def dN (A B : List Int) (p : Nat) : Nat := cntT [A.length, B.length] (fun t => hit (duF A B) (-1) p t)

theorem dN_le (A B : List Int) (p : Nat) : dN A B p ≤ A.length * B.length := by
  have := cntT_le [A.length, B.length] (fun t => hit (duF A B) (-1) p t) (fun t => hit_le _ _ _ _)
  simp only [prod, Nat.mul_one] at this
  exact this

set_option maxHeartbeats 1000000 in
theorem Duel_no (a : Option Addr) (n c : Nat) (b : Option Addr) (m d : Nat) (w : World) (h : wsB (n : Int) = true ∨ wsB (m : Int) = true) :
    Calls Try.prog 10 #[.slice a n c, .slice b m d] w fun e w' => e = .returned (.tuple #[.int .i64 0, .int .i64 0, .int .i64 0, .int .i64 3]) ∧ Below w.heap.size w w' := by
  cases h1 : wsB (n : Int) with
  | true =>
    go_enter Try.func10, Try.ntmps10
    go_wp2_with (go_at_call 23; refine (wrongSides_any _ _).mono ?_; rintro e w' ⟨rfl, rfl⟩)
    (try simp only [Exit.inBlock, Exit.then])
    refine bodyPost_ret (results_tmp4 rfl _ _ _) rfl ?_
    exact ⟨rfl, ((Below.refl _ _).alloc (Nat.le_refl _) _).alloc (by simp) _⟩
  | false =>
    have h2 : wsB (m : Int) = true := by rcases h with h | h; rw [h1] at h; cases h; exact h
    clear h
    go_enter Try.func10, Try.ntmps10
    go_wp2_with (go_at_call 23; refine (wrongSides_any _ _).mono ?_; rintro e w' ⟨rfl, rfl⟩)
    (try simp only [Exit.inBlock, Exit.then])
    refine bodyPost_ret (results_tmp4 rfl _ _ _) rfl ?_
    exact ⟨rfl, ((Below.refl _ _).alloc (Nat.le_refl _) _).alloc (by simp) _⟩

theorem ws_iff (n : Nat) : wsB (n : Int) = false ↔ 1 ≤ n ∧ n ≤ 20 := by unfold wsB; rw [decide_eq_false_iff_not]; omega

set_option maxRecDepth 100000 in
set_option maxHeartbeats 4000000 in
theorem Duel_yes (a : Option Addr) (n c : Nat) (b : Option Addr) (m d : Nat) (A B : List Int) (w : World) (hA : Rd w a n c A) (hB : Rd w b m d B) (h1 : wsB (n : Int) = false) (h2 : wsB (m : Int) = false) :
    Calls Try.prog 10 #[.slice a n c, .slice b m d] w fun e w' => e = .returned (.tuple #[.int .i64 (dN A B 2), .int .i64 (dN A B 1), .int .i64 (dN A B 0), .int .i64 0]) ∧ Below w.heap.size w w' := by
  obtain ⟨n1, n2⟩ := (ws_iff n).1 h1
  obtain ⟨m1, m2⟩ := (ws_iff m).1 h2
  have hcm := hA.max
  have hcn := hA.cap
  have hcm2 := hB.max
  have hcn2 := hB.cap
  unfold maxLen at hcm hcm2
  have HA := hide hA
  have HB := hide hB
  clear hA hB
  obtain ⟨y0, hy0⟩ : ∃ y, dN A B 0 = y := ⟨_, rfl⟩
  obtain ⟨y1, hy1⟩ : ∃ y, dN A B 1 = y := ⟨_, rfl⟩
  obtain ⟨y2, hy2⟩ : ∃ y, dN A B 2 = y := ⟨_, rfl⟩
  rw [hy0, hy1, hy2]
  have HY0 := hide hy0
  have HY1 := hide hy1
  have HY2 := hide hy2
  clear hy0 hy1 hy2
  go_enter Try.func10, Try.ntmps10
  go_wp2_with (go_at_call 23; refine (wrongSides_any _ _).mono ?_; rintro e w' ⟨rfl, rfl⟩)
  generalize hw3 : ((w.alloc (.cells #[.slice a n c] 22)).alloc (.cells #[.slice b m d] 22)).alloc (.cells #[.int .i64 n, .int .i64 m] 3) = w3
  have B3 : Below w.heap.size w w3 := by rw [← hw3]; exact (((Below.refl _ _).alloc (Nat.le_refl _) _).alloc (by simp) _).alloc (by simp; omega) _
  obtain ⟨P, hP⟩ : ∃ P, w.heap.size = P := ⟨_, rfl⟩
  have g0 : w3.cell? ⟨P, 0, none⟩ = some (.slice a n c) := by rw [← hw3]; refine old_cell _ (old_cell _ ?_); rw [← hP]; exact new_cell _ _ _
  have g1 : w3.cell? ⟨P + 1, 0, none⟩ = some (.slice b m d) := by
    have h1 := new_cell (w.alloc (.cells #[.slice a n c] 22)) (.slice b m d) 22
    rw [show (w.alloc (.cells #[.slice a n c] 22)).heap.size = P + 1 by simp [hP]] at h1
    rw [← hw3]
    exact old_cell _ h1
  have g2 : Blk w3 (P + 1 + 1) [n, m] := by
    have h1 := Blk.new ((w.alloc (.cells #[.slice a n c] 22)).alloc (.cells #[.slice b m d] 22)) [n, m] #[.int .i64 n, .int .i64 m] rfl
    rw [hw3, show ((w.alloc (.cells #[.slice a n c] 22)).alloc (.cells #[.slice b m d] 22)).heap.size = P + 1 + 1 by simp [hP]] at h1
    exact h1
  have hs3 : P + 2 < w3.heap.size := g2.lt
  simp only [hP]
  clear hw3
  have R2 := g2.rd (by simp [maxLen])
  have HLA := hide HA.out.len
  have HLB := hide HB.out.len
  have hR3 := tally_any (some ⟨P + 1 + 1, 0, none⟩) 2 3 25 #[.pointer (some ⟨P, 0, none⟩), .pointer (some ⟨P + 1, 0, none⟩)] (-1) 1 [n, m] 2 rfl (by omega) (by omega) (duF A B) w3 (enters_of Try.func25 (by kernel_rfl) rfl) R2 (by omega) (by omega) (by omega) (by omega)
    (fun W L SB hW _ hL hl hO => duel1_any P (P + 1) a b n c m d SB A B L W ((hW.cell (p := ⟨P, 0, none⟩) (by show P < w3.heap.size; omega)).trans g0) ((hW.cell (p := ⟨P + 1, 0, none⟩) (by show P + 1 < w3.heap.size; omega)).trans g1) ((HA.out.mono B3).mono hW) ((HB.out.mono B3).mono hW) hL hl hO)
    (fun L _ _ => by rcases cmp_range (A.getD (L.getD 0 0 - 1) 0) (B.getD (L.getD 1 0 - 1) 0) with ⟨h, _⟩ | ⟨h, _⟩ | ⟨h, _⟩ <;> (show _ ≤ Lib.compareInt _ _ ∧ Lib.compareInt _ _ < _; rw [h]; omega))
    (fun i => by rcases i with _ | _ | i <;> simp [List.getD] <;> omega) (by simp only [prod, Nat.mul_one]; exact Nat.le_trans (Nat.mul_le_mul n2 m2) (by omega))
  refine hR3.mono ?_
  rintro e w4 ⟨b4, rfl, hT, hb4, hB4⟩
  have c0 := hT.cell (i := 0) (by rw [tl_length]; omega)
  have c1 := hT.cell (i := 1) (by rw [tl_length]; omega)
  have c2 := hT.cell (i := 2) (by rw [tl_length]; omega)
  rw [tl_get _ _ _ _ _ (by omega)] at c0 c1 c2
  rw [← HLA.out, ← HLB.out] at c0 c1 c2
  have d0 : w4.cell? ⟨b4, 0, none⟩ = some (.int .i64 (dN A B 0)) := c0
  have d1 : w4.cell? ⟨b4, 1, none⟩ = some (.int .i64 (dN A B 1)) := c1
  have d2 : w4.cell? ⟨b4, 2, none⟩ = some (.int .i64 (dN A B 2)) := c2
  have HBB := hide (B3.trans (hB4.mono B3.size))
  clear c0 c1 c2 hT hR3 g0 g1 g2 R2 hB4 B3
  rw [HY0.out] at d0
  rw [HY1.out] at d1
  rw [HY2.out] at d2
  go_wp2_with fail
  go_quiet (fail)
  go_wp2_with fail
  (try simp only [Exit.inBlock, Exit.then])
  refine bodyPost_ret (results_tmp4 rfl _ _ _) rfl ?_
  exact ⟨rfl, HBB.out.trans (drewN_below _ _ _)⟩

end Go.Proofs.Ytonmgbepkdlklaa
