/-
  The document's order of boards, and whether two are the same. No conditions beyond those that each theorem bears.
-/
import Derived.Test.YtmboikpcbkiepaaRef1
import Derived.Test.YtmboikpcbkiepaaTold
namespace Go.Proofs.Ytmboikpcbkiepaa
open Go.RowKit

/-- Number by number. -/
def lexL : List Int → List Int → Bool
  | x :: xs, y :: ys => if x = y then lexL xs ys else decide (x < y)
  | [], _ :: _ => true
  | _, [] => false

theorem lexL_at : ∀ (k : Nat) (xs ys : List Int), k < xs.length → k < ys.length → (∀ i, i < k → xs.getD i 0 = ys.getD i 0) → xs.getD k 0 ≠ ys.getD k 0 → lexL xs ys = decide (xs.getD k 0 < ys.getD k 0)
  | 0, x :: xs, y :: ys, _, _, _, hn => by
    simp only [List.getD_cons_zero] at hn ⊢
    rw [lexL, if_neg hn]
  | k + 1, x :: xs, y :: ys, h1, h2, he, hn => by
    have h0 := he 0 (by omega)
    simp only [List.getD_cons_zero] at h0
    simp only [List.getD_cons_succ] at hn ⊢
    rw [lexL, if_pos h0]
    exact lexL_at k xs ys (by simpa using h1) (by simpa using h2) (fun i hi => by have := he (i + 1) (by omega); simpa using this) hn
  | _, [], _, h, _, _, _ => by simp at h
  | _, _ :: _, [], _, h, _, _ => by simp at h

theorem lexL_self : ∀ xs : List Int, lexL xs xs = false
  | [] => rfl
  | x :: xs => by rw [lexL, if_pos rfl]; exact lexL_self xs

/-- What a board is ordered by. -/
def kyB (P : List Int) (W B : Int) : List Int := P ++ [W, B]

theorem kyB_len {P : List Int} {W B : Int} (h : P.length = 26) : (kyB P W B).length = 28 := by simp [kyB, h]
theorem kyB_lt {P : List Int} {W B : Int} {i : Nat} (h : P.length = 26) (hi : i < 26) : (kyB P W B).getD i 0 = P.getD i 0 := by
  unfold kyB
  simp only [List.getD]
  rw [List.getElem?_append_left (by omega)]
theorem kyB_26 {P : List Int} {W B : Int} (h : P.length = 26) : (kyB P W B).getD 26 0 = W := by simp [kyB, List.getD, h]
theorem kyB_27 {P : List Int} {W B : Int} (h : P.length = 26) : (kyB P W B).getD 27 0 = B := by simp [kyB, List.getD, h]

theorem kyB_inj {P Q : List Int} {W B W2 B2 : Int} (h1 : P.length = 26) (h2 : Q.length = 26) (h : kyB P W B = kyB Q W2 B2) : P = Q ∧ W = W2 ∧ B = B2 := by
  unfold kyB at h
  obtain ⟨e1, e2⟩ := List.append_inj h (by omega)
  simp at e2
  exact ⟨e1, e2.1, e2.2⟩

theorem less_pts {P Q : List Int} {W B W2 B2 : Int} (h1 : P.length = 26) (h2 : Q.length = 26) {k : Nat} (hk : k < 26) (he : ∀ i, i < k → P.getD i 0 = Q.getD i 0) (hn : P.getD k 0 ≠ Q.getD k 0) : lexL (kyB P W B) (kyB Q W2 B2) = decide (P.getD k 0 < Q.getD k 0) := by
  rw [lexL_at k _ _ (by rw [kyB_len h1]; omega) (by rw [kyB_len h2]; omega) (fun i hi => by rw [kyB_lt h1 (by omega), kyB_lt h2 (by omega)]; exact he i hi) (by rw [kyB_lt h1 hk, kyB_lt h2 hk]; exact hn), kyB_lt h1 hk, kyB_lt h2 hk]

theorem less_W {P Q : List Int} {W B W2 B2 : Int} (h1 : P.length = 26) (h2 : Q.length = 26) (he : ∀ i, i < 26 → P.getD i 0 = Q.getD i 0) (hn : W ≠ W2) : lexL (kyB P W B) (kyB Q W2 B2) = decide (W < W2) := by
  rw [lexL_at 26 _ _ (by rw [kyB_len h1]; omega) (by rw [kyB_len h2]; omega) (fun i hi => by rw [kyB_lt h1 hi, kyB_lt h2 hi]; exact he i hi) (by rw [kyB_26 h1, kyB_26 h2]; exact hn), kyB_26 h1, kyB_26 h2]

theorem pts_eq {P Q : List Int} (h1 : P.length = 26) (h2 : Q.length = 26) (he : ∀ i, i < 26 → P.getD i 0 = Q.getD i 0) : P = Q := by
  refine List.ext_getElem (by omega) (fun i hi hj => ?_)
  have := he i (by omega)
  simpa [List.getD, hi, hj] using this

theorem less_B {P Q : List Int} {W B W2 B2 : Int} (h1 : P.length = 26) (h2 : Q.length = 26) (he : ∀ i, i < 26 → P.getD i 0 = Q.getD i 0) (hW : W = W2) : lexL (kyB P W B) (kyB Q W2 B2) = decide (B < B2) := by
  by_cases hB : B = B2
  · obtain rfl := pts_eq h1 h2 he
    subst hW hB
    rw [lexL_self]
    simp
  · rw [lexL_at 27 _ _ (by rw [kyB_len h1]; omega) (by rw [kyB_len h2]; omega) (fun i hi => ?_) (by rw [kyB_27 h1, kyB_27 h2]; exact hB), kyB_27 h1, kyB_27 h2]
    by_cases h : i < 26
    · rw [kyB_lt h1 h, kyB_lt h2 h]; exact he i h
    · obtain rfl : i = 26 := by omega
      rw [kyB_26 h1, kyB_26 h2]; exact hW

attribute [local irreducible] lexL kyB

set_option maxRecDepth 100000 in
set_option maxHeartbeats 4000000 in
theorem less_any (a a2 : Option Addr) (c c2 : Nat) (P Q : List Int) (W B T W2 B2 T2 : Int) (w : World) (h : Rd w a 26 c P) (h2 : Rd w a2 26 c2 Q) :
    Calls Try.prog 58 #[.agg (gmA a 26 c W B T), .agg (gmA a2 26 c2 W2 B2 T2)] w fun e w' => e = .returned (.bool (lexL (kyB P W B) (kyB Q W2 B2))) ∧ Below w.heap.size w w' := by
  have HPT : Hid (∀ k, k < 26 → (∀ i, i < k → P.getD i 0 = Q.getD i 0) → P.getD k 0 ≠ Q.getD k 0 → lexL (kyB P W B) (kyB Q W2 B2) = decide (P.getD k 0 < Q.getD k 0)) := hide (fun k hk he hn => less_pts h.len h2.len hk he hn)
  have HPW : Hid ((∀ i, i < 26 → P.getD i 0 = Q.getD i 0) → W ≠ W2 → lexL (kyB P W B) (kyB Q W2 B2) = decide (W < W2)) := hide (fun he hn => less_W h.len h2.len he hn)
  have HPB : Hid ((∀ i, i < 26 → P.getD i 0 = Q.getD i 0) → W = W2 → lexL (kyB P W B) (kyB Q W2 B2) = decide (B < B2)) := hide (fun he hn => less_B h.len h2.len he hn)
  obtain ⟨R, hR⟩ : ∃ R, lexL (kyB P W B) (kyB Q W2 B2) = R := ⟨_, rfl⟩
  rw [hR] at HPT HPW HPB ⊢
  clear hR
  obtain ⟨b, off, rfl, hc⟩ := h.cells (by omega)
  obtain ⟨b2, off2, rfl, hc2⟩ := h2.cells (by omega)
  have hbs : b < w.heap.size := World.block_lt_of_cell? w _ (hc 0 (by omega))
  have hbs2 : b2 < w.heap.size := World.block_lt_of_cell? w _ (hc2 0 (by omega))
  have HC := hide hc
  have HC2 := hide hc2
  have HL1 := hide h.len
  have HL2 := hide h2.len
  clear hc hc2 h h2
  go_enter Try.func58, Try.ntmps58
  go_upto_region 1 with fail
  obtain ⟨w1, hw1⟩ : ∃ w1, (w.alloc (Obj.cells (gmA (some ⟨b, off, none⟩) 26 c W B T) 24)).alloc (Obj.cells (gmA (some ⟨b2, off2, none⟩) 26 c2 W2 B2 T2) 24) = w1 := ⟨_, rfl⟩
  rw [hw1]
  have K1 : Gm w1 w.heap.size (some ⟨b, off, none⟩) 26 c W B T := by rw [← hw1]; exact (Gm.new w _ _ _ _ _ _).old _
  have K2 : Gm w1 (w.heap.size + 1) (some ⟨b2, off2, none⟩) 26 c2 W2 B2 T2 := by
    rw [← hw1]
    have := Gm.new (w.alloc (Obj.cells (gmA (some ⟨b, off, none⟩) 26 c W B T) 24)) (some ⟨b2, off2, none⟩) 26 c2 W2 B2 T2
    rw [World.size_alloc] at this
    exact this
  have B1 : Below w.heap.size w w1 := by rw [← hw1]; exact ((Below.refl _ w).alloc (Nat.le_refl _) _).alloc (by simp) _
  clear hw1
  go_wp2_with fail
  go_loopw [5] (fun v wr => ∃ (k q : Nat), v = .int .i64 k ∧ k ≤ 26 ∧ wr = w1.drewN q ∧ Hid (∀ i, i < k → P.getD i 0 = Q.getD i 0)) (fun v _ => 26 - (intOf v).toNat)
  case atStart => exact ⟨0, 0, rfl, by omega, rfl, hide (fun i hi => by omega)⟩
  case round =>
    obtain ⟨k, q, rfl, hk, hwr, hEQ⟩ := hrel
    have j1 := hide (K1.drewN q)
    have j2 := hide (K2.drewN q)
    have jb : Hid (Below w.heap.size w (w1.drewN q)) := hide (B1.trans (drewN_below _ _ _))
    rw [← hwr] at j1 j2 jb
    have HWR := hide hwr
    clear hwr
    obtain ⟨g0, g1, g2, -⟩ := j1.out.cells
    obtain ⟨k0, k1, k2, -⟩ := j2.out.cells
    by_cases hk26 : k < 26
    · have hlt : (k : Int) < 26 := by omega
      have c1 : wr.cell? ⟨b, off + k, none⟩ = some (.int .i64 (P.getD k 0)) := (jb.out.cell (p := ⟨b, off + k, none⟩) hbs).trans (HC.out k hk26)
      have c2 : wr.cell? ⟨b2, off2 + k, none⟩ = some (.int .i64 (Q.getD k 0)) := (jb.out.cell (p := ⟨b2, off2 + k, none⟩) hbs2).trans (HC2.out k hk26)
      clear g1 g2 k1 k2
      by_cases he : P.getD k 0 = Q.getD k 0
      · have HN : Hid (∀ i, i < k + 1 → P.getD i 0 = Q.getD i 0) := hide (fun i hi => by
          by_cases e : i = k
          · subst e; exact he
          · exact hEQ.out i (by omega))
        rw [he] at c1
        generalize Q.getD k 0 = z at *
        clear he
        have hzz : (z != z) = false := by simp
        go_wp2_with fail
        go_quiet (fail)
        go_wp2
        exact ⟨⟨k + 1, q + nq, by go_num, by omega, by rw [HWR.out, World.drewN_drewN], HN⟩, by simp [intOf]; omega⟩
      · have HR := hide (HPT.out k hk26 hEQ.out he)
        generalize P.getD k 0 = z at *
        generalize Q.getD k 0 = y at *
        have hzz : (z != y) = true := by simpa using he
        clear he
        go_wp2_with fail
        go_quiet (fail)
        go_wp2_with fail
        go_quiet (fail)
        go_wp2
        go_ret
        exact ⟨ret_bool (by rw [HR.out]), jb.out.trans (by rw [World.drewN_drewN]; exact drewN_below _ _ _)⟩
    · obtain rfl : k = 26 := by omega
      by_cases hW : W = W2
      · have HR := hide (HPB.out hEQ.out hW)
        have hzz : (W != W2) = false := by simpa using hW
        have HW := hide hW
        clear hW
        go_wp2_with fail
        go_ret
        exact ⟨ret_bool (by rw [HR.out]), jb.out⟩
      · have HR := hide (HPW.out hEQ.out hW)
        have hzz : (W != W2) = true := by simpa using hW
        go_wp2_with fail
        go_ret
        exact ⟨ret_bool (by rw [HR.out]), jb.out⟩

set_option maxRecDepth 100000 in
set_option maxHeartbeats 4000000 in
theorem same_any (a a2 : Option Addr) (c c2 : Nat) (P Q : List Int) (W B T W2 B2 : Int) (w : World) (h : Rd w a 26 c P) (h2 : Rd w a2 26 c2 Q) :
    Calls Try.prog 14 #[.agg (gmA a 26 c W B T), .agg (gmA a2 26 c2 W2 B2 T)] w fun e w' => e = .returned (.bool (decide (P = Q ∧ W = W2 ∧ B = B2))) ∧ Below w.heap.size w w' := by
  by_cases hWB : W = W2 ∧ B = B2
  · obtain ⟨rfl, rfl⟩ := hWB
    have HEX : Hid ((∀ i, i < 26 → P.getD i 0 = Q.getD i 0) → P = Q) := hide (fun he => pts_eq h.len h2.len he)
    have HNE : Hid (∀ k, P.getD k 0 ≠ Q.getD k 0 → P ≠ Q) := hide (fun k hn e => hn (by rw [e]))
    obtain ⟨b, off, rfl, hc⟩ := h.cells (by omega)
    obtain ⟨b2, off2, rfl, hc2⟩ := h2.cells (by omega)
    have hbs : b < w.heap.size := World.block_lt_of_cell? w _ (hc 0 (by omega))
    have hbs2 : b2 < w.heap.size := World.block_lt_of_cell? w _ (hc2 0 (by omega))
    have HC := hide hc
    have HC2 := hide hc2
    have HL1 := hide h.len
    have HL2 := hide h2.len
    clear hc hc2 h h2
    go_enter Try.func14, Try.ntmps14
    go_upto_region 1 with fail
    obtain ⟨w1, hw1⟩ : ∃ w1, (w.alloc (Obj.cells (gmA (some ⟨b, off, none⟩) 26 c W B T) 24)).alloc (Obj.cells (gmA (some ⟨b2, off2, none⟩) 26 c2 W B T) 24) = w1 := ⟨_, rfl⟩
    rw [hw1]
    have K1 : Gm w1 w.heap.size (some ⟨b, off, none⟩) 26 c W B T := by rw [← hw1]; exact (Gm.new w _ _ _ _ _ _).old _
    have K2 : Gm w1 (w.heap.size + 1) (some ⟨b2, off2, none⟩) 26 c2 W B T := by
      rw [← hw1]
      have := Gm.new (w.alloc (Obj.cells (gmA (some ⟨b, off, none⟩) 26 c W B T) 24)) (some ⟨b2, off2, none⟩) 26 c2 W B T
      rw [World.size_alloc] at this
      exact this
    have B1 : Below w.heap.size w w1 := by rw [← hw1]; exact ((Below.refl _ w).alloc (Nat.le_refl _) _).alloc (by simp) _
    clear hw1
    obtain ⟨g0, g1, g2, g3⟩ := K1.cells
    obtain ⟨k0, k1, k2, k3⟩ := K2.cells
    go_wp2_with fail
    go_loopw [5] (fun v wr => ∃ (k q : Nat), v = .int .i64 k ∧ k ≤ 26 ∧ wr = w1.drewN q ∧ Hid (∀ i, i < k → P.getD i 0 = Q.getD i 0)) (fun v _ => 26 - (intOf v).toNat)
    case atStart => exact ⟨0, 0, rfl, by omega, rfl, hide (fun i hi => by omega)⟩
    case round =>
      clear g0 g1 g2 g3 k0 k1 k2 k3
      obtain ⟨k, q, rfl, hk, hwr, hEQ⟩ := hrel
      have j1 := hide (K1.drewN q)
      have j2 := hide (K2.drewN q)
      have jb : Hid (Below w.heap.size w (w1.drewN q)) := hide (B1.trans (drewN_below _ _ _))
      rw [← hwr] at j1 j2 jb
      have HWR := hide hwr
      clear hwr
      obtain ⟨g0, -, -, -⟩ := j1.out.cells
      obtain ⟨k0, -, -, -⟩ := j2.out.cells
      by_cases hk26 : k < 26
      · have hlt : (k : Int) < 26 := by omega
        have c1 : wr.cell? ⟨b, off + k, none⟩ = some (.int .i64 (P.getD k 0)) := (jb.out.cell (p := ⟨b, off + k, none⟩) hbs).trans (HC.out k hk26)
        have c2 : wr.cell? ⟨b2, off2 + k, none⟩ = some (.int .i64 (Q.getD k 0)) := (jb.out.cell (p := ⟨b2, off2 + k, none⟩) hbs2).trans (HC2.out k hk26)
        by_cases he : P.getD k 0 = Q.getD k 0
        · have HN : Hid (∀ i, i < k + 1 → P.getD i 0 = Q.getD i 0) := hide (fun i hi => by
            by_cases e : i = k
            · subst e; exact he
            · exact hEQ.out i (by omega))
          rw [he] at c1
          generalize Q.getD k 0 = z at *
          clear he
          have hzz : (z != z) = false := by simp
          go_wp2_with fail
          go_quiet (fail)
          go_wp2
          exact ⟨⟨k + 1, q + nq, by go_num, by omega, by rw [HWR.out, World.drewN_drewN], HN⟩, by simp [intOf]; omega⟩
        · have HR := hide (HNE.out k he)
          generalize P.getD k 0 = z at *
          generalize Q.getD k 0 = y at *
          have hzz : (z != y) = true := by simpa using he
          clear he
          go_wp2_with fail
          go_quiet (fail)
          go_wp2
          go_ret
          exact ⟨ret_bool (by symm; rw [decide_eq_false_iff_not]; exact fun e => HR.out e.1), jb.out.trans (drewN_below _ _ _)⟩
      · obtain rfl : k = 26 := by omega
        go_wp2
        go_ret
        exact ⟨ret_bool (by symm; rw [decide_eq_true_iff]; exact ⟨HEX.out hEQ.out, by simp⟩), jb.out⟩
  · have HD : Hid (decide (P = Q ∧ W = W2 ∧ B = B2) = false) := hide (by rw [decide_eq_false_iff_not]; exact fun e => hWB e.2)
    rw [HD.out]
    clear HD
    by_cases hW : W = W2
    · subst hW
      have hB : ¬ B = B2 := fun e => hWB ⟨rfl, e⟩
      have hb : (B != B2) = true := by simpa using hB
      clear hWB
      obtain ⟨b, off, rfl, hc⟩ := h.cells (by omega)
      obtain ⟨b2, off2, rfl, hc2⟩ := h2.cells (by omega)
      have hbs : b < w.heap.size := World.block_lt_of_cell? w _ (hc 0 (by omega))
      have hbs2 : b2 < w.heap.size := World.block_lt_of_cell? w _ (hc2 0 (by omega))
      have HC := hide hc
      have HC2 := hide hc2
      have HL1 := hide h.len
      have HL2 := hide h2.len
      clear hc hc2 h h2
      go_enter Try.func14, Try.ntmps14
      go_upto_region 1 with fail
      obtain ⟨w1, hw1⟩ : ∃ w1, (w.alloc (Obj.cells (gmA (some ⟨b, off, none⟩) 26 c W B T) 24)).alloc (Obj.cells (gmA (some ⟨b2, off2, none⟩) 26 c2 W B2 T) 24) = w1 := ⟨_, rfl⟩
      rw [hw1]
      have K1 : Gm w1 w.heap.size (some ⟨b, off, none⟩) 26 c W B T := by rw [← hw1]; exact (Gm.new w _ _ _ _ _ _).old _
      have K2 : Gm w1 (w.heap.size + 1) (some ⟨b2, off2, none⟩) 26 c2 W B2 T := by
        rw [← hw1]
        have := Gm.new (w.alloc (Obj.cells (gmA (some ⟨b, off, none⟩) 26 c W B T) 24)) (some ⟨b2, off2, none⟩) 26 c2 W B2 T
        rw [World.size_alloc] at this
        exact this
      have B1 : Below w.heap.size w w1 := by rw [← hw1]; exact ((Below.refl _ w).alloc (Nat.le_refl _) _).alloc (by simp) _
      clear hw1
      obtain ⟨g0, g1, g2, g3⟩ := K1.cells
      obtain ⟨k0, k1, k2, k3⟩ := K2.cells
      go_wp2_with fail
      go_ret
      exact ⟨rfl, B1⟩
    · have hb : (W != W2) = true := by simpa using hW
      clear hWB
      obtain ⟨b, off, rfl, hc⟩ := h.cells (by omega)
      obtain ⟨b2, off2, rfl, hc2⟩ := h2.cells (by omega)
      have hbs : b < w.heap.size := World.block_lt_of_cell? w _ (hc 0 (by omega))
      have hbs2 : b2 < w.heap.size := World.block_lt_of_cell? w _ (hc2 0 (by omega))
      have HC := hide hc
      have HC2 := hide hc2
      have HL1 := hide h.len
      have HL2 := hide h2.len
      clear hc hc2 h h2
      go_enter Try.func14, Try.ntmps14
      go_upto_region 1 with fail
      obtain ⟨w1, hw1⟩ : ∃ w1, (w.alloc (Obj.cells (gmA (some ⟨b, off, none⟩) 26 c W B T) 24)).alloc (Obj.cells (gmA (some ⟨b2, off2, none⟩) 26 c2 W2 B2 T) 24) = w1 := ⟨_, rfl⟩
      rw [hw1]
      have K1 : Gm w1 w.heap.size (some ⟨b, off, none⟩) 26 c W B T := by rw [← hw1]; exact (Gm.new w _ _ _ _ _ _).old _
      have K2 : Gm w1 (w.heap.size + 1) (some ⟨b2, off2, none⟩) 26 c2 W2 B2 T := by
        rw [← hw1]
        have := Gm.new (w.alloc (Obj.cells (gmA (some ⟨b, off, none⟩) 26 c W B T) 24)) (some ⟨b2, off2, none⟩) 26 c2 W2 B2 T
        rw [World.size_alloc] at this
        exact this
      have B1 : Below w.heap.size w w1 := by rw [← hw1]; exact ((Below.refl _ w).alloc (Nat.le_refl _) _).alloc (by simp) _
      clear hw1
      obtain ⟨g0, g1, g2, g3⟩ := K1.cells
      obtain ⟨k0, k1, k2, k3⟩ := K2.cells
      go_wp2_with fail
      go_ret
      exact ⟨rfl, B1⟩

end Go.Proofs.Ytmboikpcbkiepaa
