/-
  How a board looks to the one to move: gammon.seen. No conditions beyond those that each theorem bears.
-/
import Derived.Test.YtmboikpcbkiepaaStep
namespace Go.Proofs.Ytmboikpcbkiepaa
open Go.RowKit

def ownB (W B : Int) (t : Nat) : Int := if t = 0 then W else B
def othB (W B : Int) (t : Nat) : Int := if t = 0 then B else W

/-- As the one to move sees it, of the points below k alone. -/
def seenF (P : List Int) (W B : Int) (t k i : Nat) : Int :=
  if i = 25 then ownB W B t else if i = 26 then othB W B t
  else if 1 ≤ i ∧ i ≤ 24 ∧ aw t i < k then up (ma P t (aw t i))
  else if 27 ≤ i ∧ i ≤ 50 ∧ aw t (i - 26) < k then up (-(ma P t (aw t (i - 26)))) else 0

def seenL (P : List Int) (W B : Int) (t : Nat) : List Int := (List.range 52).map (seenF P W B t 25)

theorem range_getD (n : Nat) (f : Nat → Int) (i : Nat) (h : i < n) : ((List.range n).map f).getD i 0 = f i := by
  simp [List.getD, h]

theorem seenL_length (P : List Int) (W B : Int) (t : Nat) : (seenL P W B t).length = 52 := by simp [seenL]

theorem aw_aw (t i : Nat) (h : i ≤ 25) : aw t (aw t i) = i := by unfold aw; split <;> omega

theorem aw_lt (t i : Nat) (h : 1 ≤ i ∧ i ≤ 24) : 1 ≤ aw t i ∧ aw t i ≤ 24 := by unfold aw; split <;> omega

theorem aw_inj (t i j : Nat) (hi : i ≤ 25) (hj : j ≤ 25) (h : aw t i = aw t j) : i = j := by rw [← aw_aw t i hi, ← aw_aw t j hj, h]

theorem seen_step (P : List Int) (W B : Int) (t k : Nat) (hk : 1 ≤ k ∧ k ≤ 24) (T : List Int) (hT : T.length = 52) (h : ∀ i, i < 52 → T.getD i 0 = seenF P W B t k i) (x y : Int) (hx : up (ma P t k) = x) (hy : up (-(ma P t k)) = y) :
    ∀ i, i < 52 → ((T.set (aw t k) x).set (26 + aw t k) y).getD i 0 = seenF P W B t (k + 1) i := by
  intro i hi
  have ha := aw_lt t k hk
  rw [getD_set _ _ _ _ (by simp; omega)]
  by_cases e1 : i = 26 + aw t k
  · rw [if_pos e1]
    subst e1
    rw [seenF, if_neg (by omega), if_neg (by omega), if_neg (by omega), if_pos]
    · rw [show 26 + aw t k - 26 = aw t k by omega, aw_aw t k (by omega), hy]
    · rw [show 26 + aw t k - 26 = aw t k by omega, aw_aw t k (by omega)]; omega
  · rw [if_neg e1, getD_set _ _ _ _ (by omega)]
    by_cases e2 : i = aw t k
    · rw [if_pos e2]
      subst e2
      rw [seenF, if_neg (by omega), if_neg (by omega), if_pos, aw_aw t k (by omega), hx]
      rw [aw_aw t k (by omega)]; omega
    · rw [if_neg e2, h i hi, seenF, seenF]
      by_cases c1 : i = 25
      · rw [if_pos c1, if_pos c1]
      rw [if_neg c1, if_neg c1]
      by_cases c2 : i = 26
      · rw [if_pos c2, if_pos c2]
      rw [if_neg c2, if_neg c2]
      by_cases c3 : 1 ≤ i ∧ i ≤ 24
      · have hne : aw t i ≠ k := fun e => e2 (by rw [← e, aw_aw t i (by omega)])
        by_cases c4 : aw t i < k
        · rw [if_pos ⟨c3.1, c3.2, c4⟩, if_pos ⟨c3.1, c3.2, by omega⟩]
        · rw [if_neg (by omega), if_neg (by omega), if_neg (by omega), if_neg (by omega)]
      by_cases c5 : 27 ≤ i ∧ i ≤ 50
      · have hne : aw t (i - 26) ≠ k := fun e => e1 (by rw [← e, aw_aw t (i - 26) (by omega)]; omega)
        by_cases c4 : aw t (i - 26) < k
        · rw [if_neg (by omega), if_pos ⟨c5.1, c5.2, c4⟩, if_neg (by omega), if_pos ⟨c5.1, c5.2, by omega⟩]
        · rw [if_neg (by omega), if_neg (by omega), if_neg (by omega), if_neg (by omega)]
      · rw [if_neg (by omega), if_neg (by omega), if_neg (by omega), if_neg (by omega)]

theorem seen_start (P : List Int) (W B : Int) (t : Nat) : ∀ i, i < 52 → ((noS.set 25 (ownB W B t)).set 26 (othB W B t)).getD i 0 = seenF P W B t 1 i := by
  intro i hi
  rw [getD_set _ _ _ _ (by simp [noS]), getD_set _ _ _ _ (by simp [noS]), noS, rep0, seenF]
  by_cases c2 : i = 26
  · rw [if_pos c2, if_neg (by omega), if_pos c2]
  rw [if_neg c2]
  by_cases c1 : i = 25
  · rw [if_pos c1, if_pos c1]
  rw [if_neg c1, if_neg c1, if_neg c2]
  by_cases c3 : 1 ≤ i ∧ i ≤ 24
  · have := aw_lt t i c3
    rw [if_neg (by omega), if_neg (by omega)]
  rw [if_neg (by omega)]
  by_cases c5 : 27 ≤ i ∧ i ≤ 50
  · have := aw_lt t (i - 26) (by omega)
    rw [if_neg (by omega)]
  rw [if_neg (by omega)]

set_option maxRecDepth 100000 in
set_option maxHeartbeats 4000000 in
theorem seen_0 (a : Option Addr) (c : Nat) (P : List Int) (W B : Int) (w : World) (h : Rd w a 26 c P) (hP : ∀ z ∈ P, -15 ≤ z ∧ z ≤ 15) :
    Calls Try.prog 30 #[.agg (gmA a 26 c W B 0)] w fun e w' => e = .returned (.agg (ivs (seenL P W B 0)).toArray) ∧ Below w.heap.size w w' := by
  obtain ⟨b, off, rfl, hc⟩ := h.cells (by omega)
  have hbs : b < w.heap.size := World.block_lt_of_cell? w _ (hc 0 (by omega))
  have hlen := h.len
  have HC := hide hc
  have HP := hide hP
  clear hc hP h
  go_enter Try.func30, Try.ntmps30
  go_upto_region 2 with fail
  obtain ⟨w1, hw1⟩ : ∃ w1, ((w.alloc (Obj.cells (gmA (some ⟨b, off, none⟩) 26 c W B 0) 24)).alloc (Obj.cells #[.int .i64 0, .int .i64 0, .int .i64 0, .int .i64 0, .int .i64 0, .int .i64 0, .int .i64 0, .int .i64 0, .int .i64 0, .int .i64 0, .int .i64 0, .int .i64 0, .int .i64 0, .int .i64 0, .int .i64 0, .int .i64 0, .int .i64 0, .int .i64 0, .int .i64 0, .int .i64 0, .int .i64 0, .int .i64 0, .int .i64 0, .int .i64 0, .int .i64 0, .int .i64 0, .int .i64 0, .int .i64 0, .int .i64 0, .int .i64 0, .int .i64 0, .int .i64 0, .int .i64 0, .int .i64 0, .int .i64 0, .int .i64 0, .int .i64 0, .int .i64 0, .int .i64 0, .int .i64 0, .int .i64 0, .int .i64 0, .int .i64 0, .int .i64 0, .int .i64 0, .int .i64 0, .int .i64 0, .int .i64 0, .int .i64 0, .int .i64 0, .int .i64 0, .int .i64 0] 54)).alloc (Obj.cells #[.int .i64 0, .int .i64 0, .int .i64 0, .int .i64 0, .int .i64 0, .int .i64 0, .int .i64 0, .int .i64 0, .int .i64 0, .int .i64 0, .int .i64 0, .int .i64 0, .int .i64 0, .int .i64 0, .int .i64 0, .int .i64 0, .int .i64 0, .int .i64 0, .int .i64 0, .int .i64 0, .int .i64 0, .int .i64 0, .int .i64 0, .int .i64 0, .int .i64 0, .int .i64 0, .int .i64 0, .int .i64 0, .int .i64 0, .int .i64 0, .int .i64 0, .int .i64 0, .int .i64 0, .int .i64 0, .int .i64 0, .int .i64 0, .int .i64 0, .int .i64 0, .int .i64 0, .int .i64 0, .int .i64 0, .int .i64 0, .int .i64 0, .int .i64 0, .int .i64 0, .int .i64 0, .int .i64 0, .int .i64 0, .int .i64 0, .int .i64 0, .int .i64 0, .int .i64 0] 54) = w1 := ⟨_, rfl⟩
  rw [hw1]
  have K2 : Blk w1 (w.heap.size + 1) 54 noS := by
    rw [← hw1]
    have := (Blk.new (w.alloc (Obj.cells (gmA (some ⟨b, off, none⟩) 26 c W B 0) 24)) 54 noS #[.int .i64 0, .int .i64 0, .int .i64 0, .int .i64 0, .int .i64 0, .int .i64 0, .int .i64 0, .int .i64 0, .int .i64 0, .int .i64 0, .int .i64 0, .int .i64 0, .int .i64 0, .int .i64 0, .int .i64 0, .int .i64 0, .int .i64 0, .int .i64 0, .int .i64 0, .int .i64 0, .int .i64 0, .int .i64 0, .int .i64 0, .int .i64 0, .int .i64 0, .int .i64 0, .int .i64 0, .int .i64 0, .int .i64 0, .int .i64 0, .int .i64 0, .int .i64 0, .int .i64 0, .int .i64 0, .int .i64 0, .int .i64 0, .int .i64 0, .int .i64 0, .int .i64 0, .int .i64 0, .int .i64 0, .int .i64 0, .int .i64 0, .int .i64 0, .int .i64 0, .int .i64 0, .int .i64 0, .int .i64 0, .int .i64 0, .int .i64 0, .int .i64 0, .int .i64 0] rfl).old (Obj.cells #[.int .i64 0, .int .i64 0, .int .i64 0, .int .i64 0, .int .i64 0, .int .i64 0, .int .i64 0, .int .i64 0, .int .i64 0, .int .i64 0, .int .i64 0, .int .i64 0, .int .i64 0, .int .i64 0, .int .i64 0, .int .i64 0, .int .i64 0, .int .i64 0, .int .i64 0, .int .i64 0, .int .i64 0, .int .i64 0, .int .i64 0, .int .i64 0, .int .i64 0, .int .i64 0, .int .i64 0, .int .i64 0, .int .i64 0, .int .i64 0, .int .i64 0, .int .i64 0, .int .i64 0, .int .i64 0, .int .i64 0, .int .i64 0, .int .i64 0, .int .i64 0, .int .i64 0, .int .i64 0, .int .i64 0, .int .i64 0, .int .i64 0, .int .i64 0, .int .i64 0, .int .i64 0, .int .i64 0, .int .i64 0, .int .i64 0, .int .i64 0, .int .i64 0, .int .i64 0] 54)
    rw [World.size_alloc] at this
    exact this
  have K3 : Blk w1 (w.heap.size + 1 + 1) 54 noS := by
    rw [← hw1]
    have := Blk.new ((w.alloc (Obj.cells (gmA (some ⟨b, off, none⟩) 26 c W B 0) 24)).alloc (Obj.cells #[.int .i64 0, .int .i64 0, .int .i64 0, .int .i64 0, .int .i64 0, .int .i64 0, .int .i64 0, .int .i64 0, .int .i64 0, .int .i64 0, .int .i64 0, .int .i64 0, .int .i64 0, .int .i64 0, .int .i64 0, .int .i64 0, .int .i64 0, .int .i64 0, .int .i64 0, .int .i64 0, .int .i64 0, .int .i64 0, .int .i64 0, .int .i64 0, .int .i64 0, .int .i64 0, .int .i64 0, .int .i64 0, .int .i64 0, .int .i64 0, .int .i64 0, .int .i64 0, .int .i64 0, .int .i64 0, .int .i64 0, .int .i64 0, .int .i64 0, .int .i64 0, .int .i64 0, .int .i64 0, .int .i64 0, .int .i64 0, .int .i64 0, .int .i64 0, .int .i64 0, .int .i64 0, .int .i64 0, .int .i64 0, .int .i64 0, .int .i64 0, .int .i64 0, .int .i64 0] 54)) 54 noS #[.int .i64 0, .int .i64 0, .int .i64 0, .int .i64 0, .int .i64 0, .int .i64 0, .int .i64 0, .int .i64 0, .int .i64 0, .int .i64 0, .int .i64 0, .int .i64 0, .int .i64 0, .int .i64 0, .int .i64 0, .int .i64 0, .int .i64 0, .int .i64 0, .int .i64 0, .int .i64 0, .int .i64 0, .int .i64 0, .int .i64 0, .int .i64 0, .int .i64 0, .int .i64 0, .int .i64 0, .int .i64 0, .int .i64 0, .int .i64 0, .int .i64 0, .int .i64 0, .int .i64 0, .int .i64 0, .int .i64 0, .int .i64 0, .int .i64 0, .int .i64 0, .int .i64 0, .int .i64 0, .int .i64 0, .int .i64 0, .int .i64 0, .int .i64 0, .int .i64 0, .int .i64 0, .int .i64 0, .int .i64 0, .int .i64 0, .int .i64 0, .int .i64 0, .int .i64 0] rfl
    rw [World.size_alloc, World.size_alloc] at this
    exact this
  have G0 : w1.heap[w.heap.size]? = some (.cells (gmA (some ⟨b, off, none⟩) 26 c W B 0) 24 (0, 0)) := by
    rw [← hw1, Below.heap_alloc _ _ _ (by simp; omega), Below.heap_alloc _ _ _ (by simp)]
    exact heap_alloc_new w _
  have B1 : Below w.heap.size w w1 := by rw [← hw1]; exact (((Below.refl _ w).alloc (Nat.le_refl _) _).alloc (by simp) _).alloc (by simp; omega) _
  clear hw1
  have g0 : w1.cell? ⟨w.heap.size, 0, none⟩ = some (.slice (some ⟨b, off, none⟩) 26 c) := by simp [World.cell?, G0]
  have g1 : w1.cell? ⟨w.heap.size, 1, none⟩ = some (.int .i64 W) := by simp [World.cell?, G0]
  have g2 : w1.cell? ⟨w.heap.size, 2, none⟩ = some (.int .i64 B) := by simp [World.cell?, G0]
  have g3 : w1.cell? ⟨w.heap.size, 3, none⟩ = some (.int .i64 0) := by simp [World.cell?, G0]
  have f1 := K3.frozen 25
  have f2 := K3.frozen 26
  have e1 := K3.cell (i := 25) (by simp [noS])
  have e2 := K3.cell (i := 26) (by simp [noS])
  have N1 : Hid (w.heap.size + 1 + 1 ≠ w.heap.size ∧ w.heap.size + 1 ≠ w.heap.size + 1 + 1) := hide (by omega)
  go_region
  have K3' := (K3.set 25 W).set 26 B
  have K2' := (K2.other N1.out.2 25 (.int .i64 W)).other N1.out.2 26 (.int .i64 B)
  have G0' := ((Keeps.set1 w1 (w.heap.size + 1 + 1) 25 (.int .i64 W)).trans (Keeps.set1 _ (w.heap.size + 1 + 1) 26 (.int .i64 B))).block w.heap.size (Array.getElem?_eq_some_iff.1 G0).1 (Ne.symm N1.out.1)
  rw [G0] at G0'
  have B2 := ((B1.setCell (p := ⟨w.heap.size + 1 + 1, 25, none⟩) (by show w.heap.size ≤ w.heap.size + 1 + 1; omega) (.int .i64 W)).setCell (p := ⟨w.heap.size + 1 + 1, 26, none⟩) (by show w.heap.size ≤ w.heap.size + 1 + 1; omega) (.int .i64 B)).drew
  change Blk (World.drew ((w1.setCell ⟨w.heap.size + 1 + 1, 25, none⟩ (.int .i64 W)).setCell ⟨w.heap.size + 1 + 1, 26, none⟩ (.int .i64 B))) _ _ _ at K3'
  change Blk (World.drew ((w1.setCell ⟨w.heap.size + 1 + 1, 25, none⟩ (.int .i64 W)).setCell ⟨w.heap.size + 1 + 1, 26, none⟩ (.int .i64 B))) _ _ _ at K2'
  change (World.drew ((w1.setCell ⟨w.heap.size + 1 + 1, 25, none⟩ (.int .i64 W)).setCell ⟨w.heap.size + 1 + 1, 26, none⟩ (.int .i64 B))).heap[w.heap.size]? = _ at G0'
  clear K2 K3 G0 B1 g0 g1 g2 g3 f1 f2 e1 e2
  generalize World.drew ((w1.setCell ⟨w.heap.size + 1 + 1, 25, none⟩ (.int .i64 W)).setCell ⟨w.heap.size + 1 + 1, 26, none⟩ (.int .i64 B)) = w2 at *
  have g0 : w2.cell? ⟨w.heap.size, 0, none⟩ = some (.slice (some ⟨b, off, none⟩) 26 c) := by simp [World.cell?, G0']
  have g3 : w2.cell? ⟨w.heap.size, 3, none⟩ = some (.int .i64 0) := by simp [World.cell?, G0']
  have hT0 : ((noS.set 25 W).set 26 B).length = 52 := by simp [noS]
  have hT1 : Hid (∀ i, i < 52 → ((noS.set 25 W).set 26 B).getD i 0 = seenF P W B 0 1 i) := hide (seen_start P W B 0)
  have HT0 := hide hT0
  have G1 := hide G0'
  have K31 := hide K3'
  have K21 := hide K2'
  have B21 := hide B2
  clear hT0 G0' K3' K2' B2
  generalize (noS.set 25 W).set 26 B = T0 at *
  go_wp2_with fail
  clear g0 g3
  go_loopw [4] (fun v wr => ∃ (k : Nat) (T : List Int), v = .int .i64 k ∧ 1 ≤ k ∧ k ≤ 25 ∧ Hid (T.length = 52) ∧ Hid (∀ i, i < 52 → T.getD i 0 = seenF P W B 0 k i) ∧ Hid (Blk wr (w.heap.size + 1 + 1) 54 T) ∧ Hid (Blk wr (w.heap.size + 1) 54 noS) ∧ Hid (wr.heap[w.heap.size]? = some (.cells (gmA (some ⟨b, off, none⟩) 26 c W B 0) 24 (0, 0))) ∧ Hid (Below w.heap.size w wr)) (fun v _ => 25 - (intOf v).toNat)
  case atStart => exact ⟨1, T0, rfl, by omega, by omega, HT0, hT1, K31, K21, G1, B21⟩
  case round =>
    clear HT0 hT1 K31 K21 G1 B21
    obtain ⟨k, T, rfl, hk1, hk, hTl, hTc, hT, hZ, hG, hB⟩ := hrel
    have g0 : wr.cell? ⟨w.heap.size, 0, none⟩ = some (.slice (some ⟨b, off, none⟩) 26 c) := by simp [World.cell?, hG.out]
    have g3 : wr.cell? ⟨w.heap.size, 3, none⟩ = some (.int .i64 0) := by simp [World.cell?, hG.out]
    by_cases hk25 : k < 25
    · have hlt : (k : Int) < 25 := by omega
      have hcw : wr.cell? ⟨b, off + k, none⟩ = some (.int .i64 (P.getD k 0)) := (hB.out.cell (p := ⟨b, off + k, none⟩) hbs).trans (HC.out k (by omega))
      have hzr := HP.out _ (getD_mem (zs := P) (k := k) (by omega))
      have AW := hide (away_any k 0 (by omega) (by omega))
      have hal := aw_lt 0 k (by omega)
      have ST := hide (seen_step P W B 0 k (by omega) T hTl.out hTc.out)
      rw [show ma P 0 k =  P.getD k 0 from by simp [ma]] at ST
      generalize aw 0 k = q at *
      generalize P.getD k 0 = z at *
      have f1 := hT.out.frozen q
      have f2 := hT.out.frozen (26 + q)
      have e1 := hT.out.cell (i := q) (by rw [hTl.out]; omega)
      have e2 := hT.out.cell (i := 26 + q) (by rw [hTl.out]; omega)
      have stepW : Hid (∀ x y : Int, Blk ((wr.setCell ⟨w.heap.size + 1 + 1, q, none⟩ (.int .i64 x)).setCell ⟨w.heap.size + 1 + 1, 26 + q, none⟩ (.int .i64 y)) (w.heap.size + 1 + 1) 54 ((T.set q x).set (26 + q) y)
          ∧ Blk ((wr.setCell ⟨w.heap.size + 1 + 1, q, none⟩ (.int .i64 x)).setCell ⟨w.heap.size + 1 + 1, 26 + q, none⟩ (.int .i64 y)) (w.heap.size + 1) 54 noS
          ∧ ((wr.setCell ⟨w.heap.size + 1 + 1, q, none⟩ (.int .i64 x)).setCell ⟨w.heap.size + 1 + 1, 26 + q, none⟩ (.int .i64 y)).heap[w.heap.size]? = some (.cells (gmA (some ⟨b, off, none⟩) 26 c W B 0) 24 (0, 0))
          ∧ Below w.heap.size w ((wr.setCell ⟨w.heap.size + 1 + 1, q, none⟩ (.int .i64 x)).setCell ⟨w.heap.size + 1 + 1, 26 + q, none⟩ (.int .i64 y))) := hide (fun x y =>
        ⟨(hT.out.set q x).set (26 + q) y, (hZ.out.other N1.out.2 q _).other N1.out.2 (26 + q) _,
          (((Keeps.set1 wr (w.heap.size + 1 + 1) q (.int .i64 x)).trans (Keeps.set1 _ (w.heap.size + 1 + 1) (26 + q) (.int .i64 y))).block w.heap.size (Array.getElem?_eq_some_iff.1 hG.out).1 (Ne.symm N1.out.1)).trans hG.out,
          (hB.out.setCell (p := ⟨w.heap.size + 1 + 1, q, none⟩) (by show w.heap.size ≤ w.heap.size + 1 + 1; omega) _).setCell (p := ⟨w.heap.size + 1 + 1, 26 + q, none⟩) (by show w.heap.size ≤ w.heap.size + 1 + 1; omega) _⟩)
      rcases (show z < 0 ∨ 0 < z ∨ z = 0 by omega) with hs | hs | hs
      · have t1 : decide (z < 0) = true := by simp; omega
        have t2 : decide (0 < z) = false := by simp; omega
        have t3 : decide (-z < 0) = false := by simp; omega
        have t4 : decide (0 < -z) = true := by simp; omega
        have SW := hide (stepW.out (0) (-z))
        have ST' := hide (ST.out (0) (-z) (by unfold up; split <;> omega) (by unfold up; split <;> omega))
        clear stepW ST
        go_wp2_with fail
        refine (AW.out _).mono ?_
        rintro e w9 ⟨rfl, hw⟩
        subst w9
        go_wp2
        refine ⟨⟨k + 1, _, by go_num, by omega, by omega, ?_, ST'.out, SW.out.1, SW.out.2.1, SW.out.2.2.1, SW.out.2.2.2⟩, by simp [intOf]; omega⟩
        show _ = _
        simp [hTl.out]
      · have t1 : decide (z < 0) = false := by simp; omega
        have t2 : decide (0 < z) = true := by simp; omega
        have t3 : decide (-z < 0) = true := by simp; omega
        have t4 : decide (0 < -z) = false := by simp; omega
        have SW := hide (stepW.out (z) (0))
        have ST' := hide (ST.out (z) (0) (by unfold up; split <;> omega) (by unfold up; split <;> omega))
        clear stepW ST
        go_wp2_with fail
        refine (AW.out _).mono ?_
        rintro e w9 ⟨rfl, hw⟩
        subst w9
        go_wp2
        refine ⟨⟨k + 1, _, by go_num, by omega, by omega, ?_, ST'.out, SW.out.1, SW.out.2.1, SW.out.2.2.1, SW.out.2.2.2⟩, by simp [intOf]; omega⟩
        show _ = _
        simp [hTl.out]
      · subst hs
        have SW := hide (stepW.out (0) (0))
        have ST' := hide (ST.out (0) (0) (by simp [up]) (by simp [up]))
        clear stepW ST
        go_wp2_with fail
        refine (AW.out _).mono ?_
        rintro e w9 ⟨rfl, hw⟩
        subst w9
        go_wp2
        refine ⟨⟨k + 1, _, by go_num, by omega, by omega, ?_, ST'.out, SW.out.1, SW.out.2.1, SW.out.2.2.1, SW.out.2.2.2⟩, by simp [intOf]; omega⟩
        show _ = _
        simp [hTl.out]
    · obtain rfl : k = 25 := by omega
      have hTT : T = seenL P W B 0 := getD_ext T _ 52 hTl.out (seenL_length P W B 0) (fun i hi => by rw [hTc.out i hi, seenL, range_getD 52 _ i hi])
      subst hTT
      clear hTc
      go_wp2_with (first
        | refine wpList_load_sd rfl (.tmp 3) rfl (w.heap.size + 1 + 1) rfl _ hTl.out hT.out ?_
        | (refine wpList_store_sd rfl (.tmp 2) (.tmp 55) rfl (w.heap.size + 1) _ noS hTl.out rfl rfl rfl hZ.out ?_; intro w6 k6 kk6))
      refine bodyPost_ret (results_sd rfl _ _ (w.heap.size + 1) rfl _ hTl.out k6) rfl ⟨rfl, ?_⟩
      exact hB.out.trans ((kk6.mono (Y := fun k => w.heap.size ≤ k) (fun k _ e => by omega)).below (by have := hB.out.size; omega) (fun k hk e => by omega))

set_option maxRecDepth 100000 in
set_option maxHeartbeats 4000000 in
theorem seen_1 (a : Option Addr) (c : Nat) (P : List Int) (W B : Int) (w : World) (h : Rd w a 26 c P) (hP : ∀ z ∈ P, -15 ≤ z ∧ z ≤ 15) :
    Calls Try.prog 30 #[.agg (gmA a 26 c W B 1)] w fun e w' => e = .returned (.agg (ivs (seenL P W B 1)).toArray) ∧ Below w.heap.size w w' := by
  obtain ⟨b, off, rfl, hc⟩ := h.cells (by omega)
  have hbs : b < w.heap.size := World.block_lt_of_cell? w _ (hc 0 (by omega))
  have hlen := h.len
  have HC := hide hc
  have HP := hide hP
  clear hc hP h
  go_enter Try.func30, Try.ntmps30
  go_upto_region 2 with fail
  obtain ⟨w1, hw1⟩ : ∃ w1, ((w.alloc (Obj.cells (gmA (some ⟨b, off, none⟩) 26 c W B 1) 24)).alloc (Obj.cells #[.int .i64 0, .int .i64 0, .int .i64 0, .int .i64 0, .int .i64 0, .int .i64 0, .int .i64 0, .int .i64 0, .int .i64 0, .int .i64 0, .int .i64 0, .int .i64 0, .int .i64 0, .int .i64 0, .int .i64 0, .int .i64 0, .int .i64 0, .int .i64 0, .int .i64 0, .int .i64 0, .int .i64 0, .int .i64 0, .int .i64 0, .int .i64 0, .int .i64 0, .int .i64 0, .int .i64 0, .int .i64 0, .int .i64 0, .int .i64 0, .int .i64 0, .int .i64 0, .int .i64 0, .int .i64 0, .int .i64 0, .int .i64 0, .int .i64 0, .int .i64 0, .int .i64 0, .int .i64 0, .int .i64 0, .int .i64 0, .int .i64 0, .int .i64 0, .int .i64 0, .int .i64 0, .int .i64 0, .int .i64 0, .int .i64 0, .int .i64 0, .int .i64 0, .int .i64 0] 54)).alloc (Obj.cells #[.int .i64 0, .int .i64 0, .int .i64 0, .int .i64 0, .int .i64 0, .int .i64 0, .int .i64 0, .int .i64 0, .int .i64 0, .int .i64 0, .int .i64 0, .int .i64 0, .int .i64 0, .int .i64 0, .int .i64 0, .int .i64 0, .int .i64 0, .int .i64 0, .int .i64 0, .int .i64 0, .int .i64 0, .int .i64 0, .int .i64 0, .int .i64 0, .int .i64 0, .int .i64 0, .int .i64 0, .int .i64 0, .int .i64 0, .int .i64 0, .int .i64 0, .int .i64 0, .int .i64 0, .int .i64 0, .int .i64 0, .int .i64 0, .int .i64 0, .int .i64 0, .int .i64 0, .int .i64 0, .int .i64 0, .int .i64 0, .int .i64 0, .int .i64 0, .int .i64 0, .int .i64 0, .int .i64 0, .int .i64 0, .int .i64 0, .int .i64 0, .int .i64 0, .int .i64 0] 54) = w1 := ⟨_, rfl⟩
  rw [hw1]
  have K2 : Blk w1 (w.heap.size + 1) 54 noS := by
    rw [← hw1]
    have := (Blk.new (w.alloc (Obj.cells (gmA (some ⟨b, off, none⟩) 26 c W B 1) 24)) 54 noS #[.int .i64 0, .int .i64 0, .int .i64 0, .int .i64 0, .int .i64 0, .int .i64 0, .int .i64 0, .int .i64 0, .int .i64 0, .int .i64 0, .int .i64 0, .int .i64 0, .int .i64 0, .int .i64 0, .int .i64 0, .int .i64 0, .int .i64 0, .int .i64 0, .int .i64 0, .int .i64 0, .int .i64 0, .int .i64 0, .int .i64 0, .int .i64 0, .int .i64 0, .int .i64 0, .int .i64 0, .int .i64 0, .int .i64 0, .int .i64 0, .int .i64 0, .int .i64 0, .int .i64 0, .int .i64 0, .int .i64 0, .int .i64 0, .int .i64 0, .int .i64 0, .int .i64 0, .int .i64 0, .int .i64 0, .int .i64 0, .int .i64 0, .int .i64 0, .int .i64 0, .int .i64 0, .int .i64 0, .int .i64 0, .int .i64 0, .int .i64 0, .int .i64 0, .int .i64 0] rfl).old (Obj.cells #[.int .i64 0, .int .i64 0, .int .i64 0, .int .i64 0, .int .i64 0, .int .i64 0, .int .i64 0, .int .i64 0, .int .i64 0, .int .i64 0, .int .i64 0, .int .i64 0, .int .i64 0, .int .i64 0, .int .i64 0, .int .i64 0, .int .i64 0, .int .i64 0, .int .i64 0, .int .i64 0, .int .i64 0, .int .i64 0, .int .i64 0, .int .i64 0, .int .i64 0, .int .i64 0, .int .i64 0, .int .i64 0, .int .i64 0, .int .i64 0, .int .i64 0, .int .i64 0, .int .i64 0, .int .i64 0, .int .i64 0, .int .i64 0, .int .i64 0, .int .i64 0, .int .i64 0, .int .i64 0, .int .i64 0, .int .i64 0, .int .i64 0, .int .i64 0, .int .i64 0, .int .i64 0, .int .i64 0, .int .i64 0, .int .i64 0, .int .i64 0, .int .i64 0, .int .i64 0] 54)
    rw [World.size_alloc] at this
    exact this
  have K3 : Blk w1 (w.heap.size + 1 + 1) 54 noS := by
    rw [← hw1]
    have := Blk.new ((w.alloc (Obj.cells (gmA (some ⟨b, off, none⟩) 26 c W B 1) 24)).alloc (Obj.cells #[.int .i64 0, .int .i64 0, .int .i64 0, .int .i64 0, .int .i64 0, .int .i64 0, .int .i64 0, .int .i64 0, .int .i64 0, .int .i64 0, .int .i64 0, .int .i64 0, .int .i64 0, .int .i64 0, .int .i64 0, .int .i64 0, .int .i64 0, .int .i64 0, .int .i64 0, .int .i64 0, .int .i64 0, .int .i64 0, .int .i64 0, .int .i64 0, .int .i64 0, .int .i64 0, .int .i64 0, .int .i64 0, .int .i64 0, .int .i64 0, .int .i64 0, .int .i64 0, .int .i64 0, .int .i64 0, .int .i64 0, .int .i64 0, .int .i64 0, .int .i64 0, .int .i64 0, .int .i64 0, .int .i64 0, .int .i64 0, .int .i64 0, .int .i64 0, .int .i64 0, .int .i64 0, .int .i64 0, .int .i64 0, .int .i64 0, .int .i64 0, .int .i64 0, .int .i64 0] 54)) 54 noS #[.int .i64 0, .int .i64 0, .int .i64 0, .int .i64 0, .int .i64 0, .int .i64 0, .int .i64 0, .int .i64 0, .int .i64 0, .int .i64 0, .int .i64 0, .int .i64 0, .int .i64 0, .int .i64 0, .int .i64 0, .int .i64 0, .int .i64 0, .int .i64 0, .int .i64 0, .int .i64 0, .int .i64 0, .int .i64 0, .int .i64 0, .int .i64 0, .int .i64 0, .int .i64 0, .int .i64 0, .int .i64 0, .int .i64 0, .int .i64 0, .int .i64 0, .int .i64 0, .int .i64 0, .int .i64 0, .int .i64 0, .int .i64 0, .int .i64 0, .int .i64 0, .int .i64 0, .int .i64 0, .int .i64 0, .int .i64 0, .int .i64 0, .int .i64 0, .int .i64 0, .int .i64 0, .int .i64 0, .int .i64 0, .int .i64 0, .int .i64 0, .int .i64 0, .int .i64 0] rfl
    rw [World.size_alloc, World.size_alloc] at this
    exact this
  have G0 : w1.heap[w.heap.size]? = some (.cells (gmA (some ⟨b, off, none⟩) 26 c W B 1) 24 (0, 0)) := by
    rw [← hw1, Below.heap_alloc _ _ _ (by simp; omega), Below.heap_alloc _ _ _ (by simp)]
    exact heap_alloc_new w _
  have B1 : Below w.heap.size w w1 := by rw [← hw1]; exact (((Below.refl _ w).alloc (Nat.le_refl _) _).alloc (by simp) _).alloc (by simp; omega) _
  clear hw1
  have g0 : w1.cell? ⟨w.heap.size, 0, none⟩ = some (.slice (some ⟨b, off, none⟩) 26 c) := by simp [World.cell?, G0]
  have g1 : w1.cell? ⟨w.heap.size, 1, none⟩ = some (.int .i64 W) := by simp [World.cell?, G0]
  have g2 : w1.cell? ⟨w.heap.size, 2, none⟩ = some (.int .i64 B) := by simp [World.cell?, G0]
  have g3 : w1.cell? ⟨w.heap.size, 3, none⟩ = some (.int .i64 1) := by simp [World.cell?, G0]
  have f1 := K3.frozen 25
  have f2 := K3.frozen 26
  have e1 := K3.cell (i := 25) (by simp [noS])
  have e2 := K3.cell (i := 26) (by simp [noS])
  have N1 : Hid (w.heap.size + 1 + 1 ≠ w.heap.size ∧ w.heap.size + 1 ≠ w.heap.size + 1 + 1) := hide (by omega)
  go_region
  have K3' := (K3.set 25 W).set 26 B
  have K2' := (K2.other N1.out.2 25 (.int .i64 W)).other N1.out.2 26 (.int .i64 B)
  have G0' := ((Keeps.set1 w1 (w.heap.size + 1 + 1) 25 (.int .i64 W)).trans (Keeps.set1 _ (w.heap.size + 1 + 1) 26 (.int .i64 B))).block w.heap.size (Array.getElem?_eq_some_iff.1 G0).1 (Ne.symm N1.out.1)
  rw [G0] at G0'
  have B2 := ((B1.setCell (p := ⟨w.heap.size + 1 + 1, 25, none⟩) (by show w.heap.size ≤ w.heap.size + 1 + 1; omega) (.int .i64 W)).setCell (p := ⟨w.heap.size + 1 + 1, 26, none⟩) (by show w.heap.size ≤ w.heap.size + 1 + 1; omega) (.int .i64 B)).drew
  change Blk (World.drew ((w1.setCell ⟨w.heap.size + 1 + 1, 25, none⟩ (.int .i64 W)).setCell ⟨w.heap.size + 1 + 1, 26, none⟩ (.int .i64 B))) _ _ _ at K3'
  change Blk (World.drew ((w1.setCell ⟨w.heap.size + 1 + 1, 25, none⟩ (.int .i64 W)).setCell ⟨w.heap.size + 1 + 1, 26, none⟩ (.int .i64 B))) _ _ _ at K2'
  change (World.drew ((w1.setCell ⟨w.heap.size + 1 + 1, 25, none⟩ (.int .i64 W)).setCell ⟨w.heap.size + 1 + 1, 26, none⟩ (.int .i64 B))).heap[w.heap.size]? = _ at G0'
  clear K2 K3 G0 B1 g0 g1 g2 g3 f1 f2 e1 e2
  generalize World.drew ((w1.setCell ⟨w.heap.size + 1 + 1, 25, none⟩ (.int .i64 W)).setCell ⟨w.heap.size + 1 + 1, 26, none⟩ (.int .i64 B)) = w2 at *
  have g0 : w2.cell? ⟨w.heap.size, 0, none⟩ = some (.slice (some ⟨b, off, none⟩) 26 c) := by simp [World.cell?, G0']
  have g3 : w2.cell? ⟨w.heap.size, 3, none⟩ = some (.int .i64 1) := by simp [World.cell?, G0']
  have hT0 : ((noS.set 25 W).set 26 B).length = 52 := by simp [noS]
  have g1 : w2.cell? ⟨w.heap.size, 1, none⟩ = some (.int .i64 W) := by simp [World.cell?, G0']
  have g2 : w2.cell? ⟨w.heap.size, 2, none⟩ = some (.int .i64 B) := by simp [World.cell?, G0']
  have f1 := K3'.frozen 25
  have f2 := K3'.frozen 26
  have e1 := K3'.cell (i := 25) (by rw [hT0]; omega)
  have e2 := K3'.cell (i := 26) (by rw [hT0]; omega)
  have hT1 : Hid (∀ i, i < 52 → ((((noS.set 25 W).set 26 B).set 25 B).set 26 W).getD i 0 = seenF P W B 1 1 i) := hide (by
    intro i hi
    rw [← seen_start P W B 1 i hi]
    rw [getD_set _ _ _ _ (by simp [noS]), getD_set _ _ _ _ (by simp [noS]), getD_set _ _ _ _ (by simp [noS]), getD_set _ _ _ _ (by simp [noS])]
    rw [getD_set _ _ _ _ (by simp [noS]), getD_set _ _ _ _ (by simp [noS])]
    by_cases c1 : i = 26
    · subst c1; simp [othB]
    · by_cases c2 : i = 25
      · subst c2; simp [ownB]
      · simp [c1, c2])
  generalize (noS.set 25 W).set 26 B = T00 at *
  go_upto_region 4 with fail
  go_region
  have K3 := (K3'.set 25 B).set 26 W
  have K2 := (K2'.other N1.out.2 25 (.int .i64 B)).other N1.out.2 26 (.int .i64 W)
  have G0 := ((Keeps.set1 w2 (w.heap.size + 1 + 1) 25 (.int .i64 B)).trans (Keeps.set1 _ (w.heap.size + 1 + 1) 26 (.int .i64 W))).block w.heap.size (Array.getElem?_eq_some_iff.1 G0').1 (Ne.symm N1.out.1)
  rw [G0'] at G0
  have B3 := ((B2.setCell (p := ⟨w.heap.size + 1 + 1, 25, none⟩) (by show w.heap.size ≤ w.heap.size + 1 + 1; omega) (.int .i64 B)).setCell (p := ⟨w.heap.size + 1 + 1, 26, none⟩) (by show w.heap.size ≤ w.heap.size + 1 + 1; omega) (.int .i64 W)).drew
  change Blk (World.drew ((w2.setCell ⟨w.heap.size + 1 + 1, 25, none⟩ (.int .i64 B)).setCell ⟨w.heap.size + 1 + 1, 26, none⟩ (.int .i64 W))) _ _ _ at K3
  change Blk (World.drew ((w2.setCell ⟨w.heap.size + 1 + 1, 25, none⟩ (.int .i64 B)).setCell ⟨w.heap.size + 1 + 1, 26, none⟩ (.int .i64 W))) _ _ _ at K2
  change (World.drew ((w2.setCell ⟨w.heap.size + 1 + 1, 25, none⟩ (.int .i64 B)).setCell ⟨w.heap.size + 1 + 1, 26, none⟩ (.int .i64 W))).heap[w.heap.size]? = _ at G0
  clear K2' K3' G0' B2 g0 g1 g2 g3 f1 f2 e1 e2
  generalize World.drew ((w2.setCell ⟨w.heap.size + 1 + 1, 25, none⟩ (.int .i64 B)).setCell ⟨w.heap.size + 1 + 1, 26, none⟩ (.int .i64 W)) = w3 at *
  have g0 : w3.cell? ⟨w.heap.size, 0, none⟩ = some (.slice (some ⟨b, off, none⟩) 26 c) := by simp [World.cell?, G0]
  have g3 : w3.cell? ⟨w.heap.size, 3, none⟩ = some (.int .i64 1) := by simp [World.cell?, G0]
  have HT0 : Hid (((T00.set 25 B).set 26 W).length = 52) := hide (by simp [hT0])
  have G1 := hide G0
  have K31 := hide K3
  have K21 := hide K2
  have B21 := hide B3
  clear hT0 G0 K3 K2 B3
  generalize (T00.set 25 B).set 26 W = T0 at *
  go_wp2_with fail
  clear g0 g3
  go_loopw [4] (fun v wr => ∃ (k : Nat) (T : List Int), v = .int .i64 k ∧ 1 ≤ k ∧ k ≤ 25 ∧ Hid (T.length = 52) ∧ Hid (∀ i, i < 52 → T.getD i 0 = seenF P W B 1 k i) ∧ Hid (Blk wr (w.heap.size + 1 + 1) 54 T) ∧ Hid (Blk wr (w.heap.size + 1) 54 noS) ∧ Hid (wr.heap[w.heap.size]? = some (.cells (gmA (some ⟨b, off, none⟩) 26 c W B 1) 24 (0, 0))) ∧ Hid (Below w.heap.size w wr)) (fun v _ => 25 - (intOf v).toNat)
  case atStart => exact ⟨1, T0, rfl, by omega, by omega, HT0, hT1, K31, K21, G1, B21⟩
  case round =>
    clear HT0 hT1 K31 K21 G1 B21
    obtain ⟨k, T, rfl, hk1, hk, hTl, hTc, hT, hZ, hG, hB⟩ := hrel
    have g0 : wr.cell? ⟨w.heap.size, 0, none⟩ = some (.slice (some ⟨b, off, none⟩) 26 c) := by simp [World.cell?, hG.out]
    have g3 : wr.cell? ⟨w.heap.size, 3, none⟩ = some (.int .i64 1) := by simp [World.cell?, hG.out]
    by_cases hk25 : k < 25
    · have hlt : (k : Int) < 25 := by omega
      have hcw : wr.cell? ⟨b, off + k, none⟩ = some (.int .i64 (P.getD k 0)) := (hB.out.cell (p := ⟨b, off + k, none⟩) hbs).trans (HC.out k (by omega))
      have hzr := HP.out _ (getD_mem (zs := P) (k := k) (by omega))
      have AW := hide (away_any k 1 (by omega) (by omega))
      have hal := aw_lt 1 k (by omega)
      have ST := hide (seen_step P W B 1 k (by omega) T hTl.out hTc.out)
      rw [show ma P 1 k = - P.getD k 0 from by simp [ma]] at ST
      generalize aw 1 k = q at *
      generalize P.getD k 0 = z at *
      have f1 := hT.out.frozen q
      have f2 := hT.out.frozen (26 + q)
      have e1 := hT.out.cell (i := q) (by rw [hTl.out]; omega)
      have e2 := hT.out.cell (i := 26 + q) (by rw [hTl.out]; omega)
      have stepW : Hid (∀ x y : Int, Blk ((wr.setCell ⟨w.heap.size + 1 + 1, q, none⟩ (.int .i64 x)).setCell ⟨w.heap.size + 1 + 1, 26 + q, none⟩ (.int .i64 y)) (w.heap.size + 1 + 1) 54 ((T.set q x).set (26 + q) y)
          ∧ Blk ((wr.setCell ⟨w.heap.size + 1 + 1, q, none⟩ (.int .i64 x)).setCell ⟨w.heap.size + 1 + 1, 26 + q, none⟩ (.int .i64 y)) (w.heap.size + 1) 54 noS
          ∧ ((wr.setCell ⟨w.heap.size + 1 + 1, q, none⟩ (.int .i64 x)).setCell ⟨w.heap.size + 1 + 1, 26 + q, none⟩ (.int .i64 y)).heap[w.heap.size]? = some (.cells (gmA (some ⟨b, off, none⟩) 26 c W B 1) 24 (0, 0))
          ∧ Below w.heap.size w ((wr.setCell ⟨w.heap.size + 1 + 1, q, none⟩ (.int .i64 x)).setCell ⟨w.heap.size + 1 + 1, 26 + q, none⟩ (.int .i64 y))) := hide (fun x y =>
        ⟨(hT.out.set q x).set (26 + q) y, (hZ.out.other N1.out.2 q _).other N1.out.2 (26 + q) _,
          (((Keeps.set1 wr (w.heap.size + 1 + 1) q (.int .i64 x)).trans (Keeps.set1 _ (w.heap.size + 1 + 1) (26 + q) (.int .i64 y))).block w.heap.size (Array.getElem?_eq_some_iff.1 hG.out).1 (Ne.symm N1.out.1)).trans hG.out,
          (hB.out.setCell (p := ⟨w.heap.size + 1 + 1, q, none⟩) (by show w.heap.size ≤ w.heap.size + 1 + 1; omega) _).setCell (p := ⟨w.heap.size + 1 + 1, 26 + q, none⟩) (by show w.heap.size ≤ w.heap.size + 1 + 1; omega) _⟩)
      rcases (show z < 0 ∨ 0 < z ∨ z = 0 by omega) with hs | hs | hs
      · have t1 : decide (z < 0) = true := by simp; omega
        have t2 : decide (0 < z) = false := by simp; omega
        have t3 : decide (-z < 0) = false := by simp; omega
        have t4 : decide (0 < -z) = true := by simp; omega
        have SW := hide (stepW.out (-z) (0))
        have ST' := hide (ST.out (-z) (0) (by unfold up; split <;> omega) (by unfold up; split <;> omega))
        clear stepW ST
        go_wp2_with fail
        refine (AW.out _).mono ?_
        rintro e w9 ⟨rfl, hw⟩
        subst w9
        go_wp2
        refine ⟨⟨k + 1, _, by go_num, by omega, by omega, ?_, ST'.out, SW.out.1, SW.out.2.1, SW.out.2.2.1, SW.out.2.2.2⟩, by simp [intOf]; omega⟩
        show _ = _
        simp [hTl.out]
      · have t1 : decide (z < 0) = false := by simp; omega
        have t2 : decide (0 < z) = true := by simp; omega
        have t3 : decide (-z < 0) = true := by simp; omega
        have t4 : decide (0 < -z) = false := by simp; omega
        have SW := hide (stepW.out (0) (z))
        have ST' := hide (ST.out (0) (z) (by unfold up; split <;> omega) (by unfold up; split <;> omega))
        clear stepW ST
        go_wp2_with fail
        refine (AW.out _).mono ?_
        rintro e w9 ⟨rfl, hw⟩
        subst w9
        go_wp2
        refine ⟨⟨k + 1, _, by go_num, by omega, by omega, ?_, ST'.out, SW.out.1, SW.out.2.1, SW.out.2.2.1, SW.out.2.2.2⟩, by simp [intOf]; omega⟩
        show _ = _
        simp [hTl.out]
      · subst hs
        have SW := hide (stepW.out (0) (0))
        have ST' := hide (ST.out (0) (0) (by simp [up]) (by simp [up]))
        clear stepW ST
        go_wp2_with fail
        refine (AW.out _).mono ?_
        rintro e w9 ⟨rfl, hw⟩
        subst w9
        go_wp2
        refine ⟨⟨k + 1, _, by go_num, by omega, by omega, ?_, ST'.out, SW.out.1, SW.out.2.1, SW.out.2.2.1, SW.out.2.2.2⟩, by simp [intOf]; omega⟩
        show _ = _
        simp [hTl.out]
    · obtain rfl : k = 25 := by omega
      have hTT : T = seenL P W B 1 := getD_ext T _ 52 hTl.out (seenL_length P W B 1) (fun i hi => by rw [hTc.out i hi, seenL, range_getD 52 _ i hi])
      subst hTT
      clear hTc
      go_wp2_with (first
        | refine wpList_load_sd rfl (.tmp 3) rfl (w.heap.size + 1 + 1) rfl _ hTl.out hT.out ?_
        | (refine wpList_store_sd rfl (.tmp 2) (.tmp 55) rfl (w.heap.size + 1) _ noS hTl.out rfl rfl rfl hZ.out ?_; intro w6 k6 kk6))
      refine bodyPost_ret (results_sd rfl _ _ (w.heap.size + 1) rfl _ hTl.out k6) rfl ⟨rfl, ?_⟩
      exact hB.out.trans ((kk6.mono (Y := fun k => w.heap.size ≤ k) (fun k _ e => by omega)).below (by have := hB.out.size; omega) (fun k hk e => by omega))

theorem seen_any (a : Option Addr) (c : Nat) (P : List Int) (W B : Int) (t : Nat) (ht : t ≤ 1) (w : World) (h : Rd w a 26 c P) (hP : ∀ z ∈ P, -15 ≤ z ∧ z ≤ 15) :
    Calls Try.prog 30 #[.agg (gmA a 26 c W B t)] w fun e w' => e = .returned (.agg (ivs (seenL P W B t)).toArray) ∧ Below w.heap.size w w' := by
  rcases (show t = 0 ∨ t = 1 by omega) with rfl | rfl
  · exact seen_0 a c P W B w h hP
  · exact seen_1 a c P W B w h hP

end Go.Proofs.Ytmboikpcbkiepaa
