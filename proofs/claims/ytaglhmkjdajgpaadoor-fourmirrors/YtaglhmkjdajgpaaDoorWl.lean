/-
  A well: a board of its own into which signs fall; its lowest empty place of a column; whether a sign would make a row. No conditions beyond those that each theorem bears.
-/
import Derived.Test.YtaglhmkjdajgpaaDoorMov
namespace Go.Proofs.YtaglhmkjdajgpaaDoor
open Go.RowKit

/-- What does not change in a well. -/
structure Wp where
  (W H k n cc wb cb : Nat)

structure Wp.Ok (g : Wp) : Prop where
  w : 1 ≤ g.W ∧ g.W ≤ 10
  h : 1 ≤ g.H ∧ g.H ≤ 10
  n : g.W * g.H = g.n
  k : 1 ≤ g.k ∧ g.k ≤ 10
  wc : g.wb ≠ g.cb
  c0 : g.cb ≠ 0

theorem Wp.Ok.n100 {g : Wp} (h : g.Ok) : g.n ≤ 100 ∧ 0 < g.n := by
  have h1 : g.W * g.H ≤ 10 * 10 := Nat.mul_le_mul h.w.2 h.h.2
  have h2 : 1 * 1 ≤ g.W * g.H := Nat.mul_le_mul h.w.1 h.h.1
  have := h.n
  omega

abbrev Wp.cells (g : Wp) : Array Value := #[.int .i64 (g.W : Nat), .int .i64 (g.H : Nat), .slice (some ⟨g.cb, 0, none⟩) g.n g.cc, .int .i64 (g.k : Nat)]

/-- The well in memory, its board being Z. -/
structure WS (g : Wp) (w : World) (Z : List Int) : Prop where
  blk : w.heap[g.wb]? = some (.cells g.cells 54 (0, 0))
  c : w.ownsRow 0 3 1 (.slice (some ⟨g.cb, 0, none⟩) g.n g.cc) g.n (Z.map (Value.int .i64))
  t : Tab w

theorem WS.raw {g : Wp} {w : World} {Z : List Int} (h : WS g w Z) : ∃ cur, w.heap[g.cb]? = some (.cells cur 3 (0, 0)) ∧ g.n ≤ g.cc ∧ g.cc ≤ maxLen ∧ cur.size = g.cc ∧ cur.toList.take g.n = Z.map (Value.int .i64) := by
  rcases h.c.2 with ⟨e, _⟩ | ⟨b, cap, cur, e, _, h2, h3, h4, h5, h6⟩
  · cases e
  · simp only [Value.slice.injEq, Option.some.injEq, Addr.mk.injEq] at e
    obtain ⟨⟨e1, -, -⟩, -, e2⟩ := e
    rw [← e1] at h2
    rw [← e2] at h3 h4 h5
    exact ⟨cur, h2, h3, h4, by simpa using h5, by simpa using h6⟩

theorem WS.lt {g : Wp} {w : World} {Z : List Int} (h : WS g w Z) : g.wb < w.heap.size ∧ g.cb < w.heap.size := by
  refine ⟨(Array.getElem?_eq_some_iff.1 h.blk).1, ?_⟩
  obtain ⟨cur, h1, _⟩ := h.raw
  exact (Array.getElem?_eq_some_iff.1 h1).1

theorem WS.cap {g : Wp} {w : World} {Z : List Int} (h : WS g w Z) : g.n ≤ g.cc ∧ g.cc ≤ maxLen ∧ Z.length = g.n := by
  obtain ⟨cur, _, h1, h2, _⟩ := h.raw
  exact ⟨h1, h2, by simpa using h.c.1⟩

theorem WS.keeps {g : Wp} {w w' : World} {Z : List Int} {X : Nat → Prop} (h : WS g w Z) (hk : Keeps X w w') (h1 : ¬ X g.wb) (h2 : ¬ X g.cb) (h4 : ¬ X 0) : WS g w' Z :=
  ⟨(hk.block _ h.lt.1 h1).trans h.blk, own_blk h.c (fun b hb => by simp only [Value.ownBlock, Option.some.injEq] at hb; rw [← hb]; exact hk.block _ h.lt.2 h2), h.t.keeps hk h4⟩

theorem WS.grow {g : Wp} {w w' : World} {Z : List Int} (h : WS g w Z) (hb : Below w.heap.size w w') : WS g w' Z :=
  ⟨(hb.block _ h.lt.1).trans h.blk, own_blk h.c (fun b e => by simp only [Value.ownBlock, Option.some.injEq] at e; rw [← e]; exact hb.block _ h.lt.2), h.t.mono hb⟩

theorem WS.set {g : Wp} {w : World} {Z : List Int} (hg : g.Ok) (h : WS g w Z) (p : Nat) (x : Int) : WS g (w.setCell ⟨g.cb, p, none⟩ (.int .i64 x)) (Z.set p x) := by
  have hk := Keeps.set1 w g.cb p (.int .i64 x)
  refine ⟨(hk.block _ h.lt.1 hg.wc).trans h.blk, ?_, h.t.keeps hk (fun e => hg.c0 e.symm)⟩
  have := (World.ownsRow.stored h.c p (.int .i64 x)).1
  rwa [← List.map_set] at this

theorem WS.fields {g : Wp} {w : World} {Z : List Int} (h : WS g w Z) : w.cell? ⟨g.wb, 0, none⟩ = some (.int .i64 (g.W : Nat)) ∧ w.cell? ⟨g.wb, 1, none⟩ = some (.int .i64 (g.H : Nat)) ∧ w.cell? ⟨g.wb, 2, none⟩ = some (.slice (some ⟨g.cb, 0, none⟩) g.n g.cc) ∧ w.cell? ⟨g.wb, 3, none⟩ = some (.int .i64 (g.k : Nat)) := by
  have h' := h.blk
  simp [World.cell?, h']

theorem WS.cell {g : Wp} {w : World} {Z : List Int} (h : WS g w Z) {p : Nat} (hp : p < g.n) : w.cell? ⟨g.cb, p, none⟩ = some (.int .i64 (Z.getD p 0)) ∧ w.frozen? ⟨g.cb, p, none⟩ = false := by
  refine ⟨?_, World.ownsRow.frozenAt h.c p⟩
  have hl := h.cap.2.2
  rw [World.ownsRow.cellAt h.c p (by omega)]
  simp [List.getD, hl, hp]

theorem WS.range {g : Wp} {w : World} {Z : List Int} (h : WS g w Z) : w.rangeAt g.wb 0 [.int .i64 (g.W : Nat), .int .i64 (g.H : Nat), .slice (some ⟨g.cb, 0, none⟩) g.n g.cc] := by
  intro j v hv
  obtain ⟨h0, h1, h2, _⟩ := h.fields
  rw [Nat.zero_add]
  match j, hv with
  | 0, hv => rw [h0]; exact hv
  | 1, hv => rw [h1]; exact hv
  | 2, hv => rw [h2]; exact hv
  | j + 3, hv => simp at hv

theorem WS.rd {g : Wp} {w : World} {Z : List Int} (h : WS g w Z) : Rd w (some ⟨g.cb, 0, none⟩) g.n g.cc Z := Rd.of_own h.c

/-- A sign that is put and taken back leaves the block as it was. -/
theorem WS.back {g : Wp} {w w2 : World} {Z : List Int} (h : WS g w Z) {p : Nat} (hp : p < g.n) (h0 : Z.getD p 0 = 0) (x : Int)
    (hb : w2.heap[g.cb]? = (w.setCell ⟨g.cb, p, none⟩ (.int .i64 x)).heap[g.cb]?) : (w2.setCell ⟨g.cb, p, none⟩ (.int .i64 0)).heap[g.cb]? = w.heap[g.cb]? := by
  obtain ⟨cur, h1, h2, h3, h4, h5⟩ := h.raw
  have hl := h.cap.2.2
  rw [heap_setCell_same w g.cb p cur 3 _ h1] at hb
  rw [heap_setCell_same w2 g.cb p _ 3 _ hb, h1]
  have hps : p < cur.size := by omega
  have hc : cur[p]? = some (.int .i64 0) := by
    have := congrArg (fun l : List Value => l[p]?) h5
    simp only [List.getElem?_take, List.getElem?_map] at this
    rw [if_pos hp] at this
    rw [← Array.getElem?_toList, this]
    have hz : Z[p]? = some 0 := by
      have hpl : p < Z.length := by omega
      have : Z[p] = 0 := by simpa [List.getD, hpl] using h0
      rw [List.getElem?_eq_getElem hpl, this]
    rw [hz]; rfl
  have he : (cur.setIfInBounds p (.int .i64 x)).setIfInBounds p (.int .i64 0) = cur := by
    apply Array.ext_getElem?
    intro i
    simp only [Array.getElem?_setIfInBounds, Array.size_setIfInBounds]
    by_cases e : p = i
    · subst e
      have := (Array.getElem?_eq_some_iff.1 hc).2
      simp [hps, this]
    · simp [e]
  rw [he]

/-- What changes the board's block alone, and leaves it as it was, changes nothing. -/
theorem below_of_keeps {w w' : World} {b : Nat} (hk : Keeps (fun k => k = b) w w') (hb : w'.heap[b]? = w.heap[b]?) : Below w.heap.size w w' :=
  ⟨hk.os, hk.tape, hk.output, hk.size, fun i hi => by
    by_cases e : i = b
    · subst e; exact hb
    · exact hk.block i hi e⟩

/-- The lowest empty place of a column, of the first y rows. -/
def fallN (W : Nat) (Z : List Int) (c : Nat) : Nat → Option Nat
  | 0 => none
  | y + 1 => if Z.getD (y * W + c) 0 = 0 then some (y * W + c) else fallN W Z c y

def fallI : Option Nat → Int
  | none => -1
  | some p => p

theorem fallN_lt {W c : Nat} {Z : List Int} (hc : c < W) : ∀ (y p : Nat), fallN W Z c y = some p → p < W * y ∧ Z.getD p 0 = 0 ∧ p % W = c
  | 0, p, h => by cases h
  | y + 1, p, h => by
    rw [fallN] at h
    split at h
    · rename_i h0
      obtain rfl := Option.some.inj h
      refine ⟨?_, h0, (place_of hc).1⟩
      rw [Nat.mul_comm y W, Nat.mul_succ]; omega
    · have := fallN_lt hc y p h
      refine ⟨?_, this.2⟩
      rw [Nat.mul_succ]; omega

attribute [local irreducible] fallN

theorem fallN_hit {W c y : Nat} {Z : List Int} (h : Z.getD (y * W + c) 0 = 0) : fallN W Z c (y + 1) = some (y * W + c) := by
  unfold fallN; rw [if_pos h]
theorem fallN_miss {W c y : Nat} {Z : List Int} (h : ¬ Z.getD (y * W + c) 0 = 0) : fallN W Z c (y + 1) = fallN W Z c y := by
  conv => lhs; unfold fallN
  rw [if_neg h]
theorem fallN_zero (W c : Nat) (Z : List Int) : fallN W Z c 0 = none := by unfold fallN; rfl

theorem WS.drewN {g : Wp} {w : World} {Z : List Int} (h : WS g w Z) (q : Nat) : WS g (w.drewN q) Z := h.grow (drewN_below _ _ _)

set_option maxRecDepth 100000 in
set_option maxHeartbeats 2000000 in
theorem lowest_any (g : Wp) (hg : g.Ok) (Z : List Int) (c : Nat) (hc : c < g.W) (w : World) (h : WS g w Z) :
    Calls Tryd.prog 28 #[.pointer (some ⟨g.wb, 0, none⟩), .int .i64 c] w fun e w' => e = .returned (.int .i64 (fallI (fallN g.W Z c g.H))) ∧ Below w.heap.size w w' := by
  have hn := hg.n100
  have hW := hg.w
  have hH := hg.h
  have hcap := h.cap
  have hcm := hcap.2.1
  unfold maxLen at hcm
  have hcn := hcap.1
  obtain ⟨h1, h1e⟩ : ∃ h1, g.H = h1 + 1 := ⟨g.H - 1, by omega⟩
  have hAn : g.H * g.W = g.n := by rw [Nat.mul_comm]; exact hg.n
  have HR : Hid (fallN g.W Z c g.H = fallN g.W Z c g.H) := hide rfl
  obtain ⟨R, hRe⟩ : ∃ R, fallN g.W Z c g.H = R := ⟨_, rfl⟩
  rw [hRe] at ⊢
  have HRe := hide hRe
  have HG := hide (fun q => h.drewN q)
  have HAN := hide hAn
  have hst : ((g.n : Int) - (g.W : Int)) + (c : Int) = ((g.n : Int) - (g.W : Int)) + (c : Int) := rfl
  obtain ⟨f0, f1, f2, f3⟩ := h.fields
  have hWn : g.W ≤ g.n := by rw [← hg.n]; exact Nat.le_mul_of_pos_right _ (by omega)
  clear hg h hcap hRe hAn HR hst h1e
  go_enter Tryd.func28, Tryd.ntmps28
  go_wp2
  go_quiet (fail)
  go_wp2_with fail
  clear f0 f1 f2 f3
  go_loopw [5] (fun v wr => ∃ y A : Nat, y * g.W = A ∧ v = .int .i64 ((A : Int) - (g.W : Int) + (c : Int)) ∧ A ≤ g.n ∧ Hid (fallN g.W Z c y = R) ∧ Hid (WS g wr Z) ∧ Hid (Below w.heap.size w wr)) (fun v _ => (intOf v + 11).toNat)
  case atStart => exact ⟨g.H, g.n, HAN.out, rfl, by omega, HRe, hide (HG.out _), hide (drewN_below _ _ _)⟩
  case round =>
    obtain ⟨y, A, hA, rfl, hAn, hF, hS, hB⟩ := hrel
    obtain ⟨f0, f1, f2, f3⟩ := hS.out.fields
    rcases y with _ | y
    · have hA0 : A = 0 := by omega
      subst hA0
      have HF : Hid (R = none) := hide (by rw [← hF.out, fallN_zero])
      have hneg : ¬ (0 : Int) ≤ ((0 : Nat) : Int) - (g.W : Int) + (c : Int) := by omega
      clear hF hA
      go_wp2_with fail
      go_ret
      exact ⟨ret_int (by rw [HF.out]; rfl), hB.out⟩
    · obtain ⟨D, hD⟩ : ∃ D, y * g.W = D := ⟨_, rfl⟩
      have hAD : A = D + g.W := by rw [← hA, ← hD, Nat.succ_mul]
      obtain ⟨p, hp⟩ : ∃ p, y * g.W + c = p := ⟨_, rfl⟩
      have hpl : (A : Int) - (g.W : Int) + (c : Int) = (p : Int) := by omega
      have hDc : p < g.n := by omega
      rw [hpl]
      obtain ⟨cp, -⟩ := hS.out.cell hDc
      have HHit : Hid (Z.getD p 0 = 0 → R = some p) := hide (fun e => by rw [← hF.out, ← hp]; exact fallN_hit (by rw [hp]; exact e))
      have HMiss : Hid (¬ Z.getD p 0 = 0 → fallN g.W Z c y = R) := hide (fun e => by rw [← hF.out]; exact (fallN_miss (by rw [hp]; exact e)).symm)
      obtain ⟨z, hz⟩ : ∃ z, Z.getD p 0 = z := ⟨_, rfl⟩
      rw [hz] at cp HHit HMiss
      have hPD : (p : Int) - (g.W : Int) = (D : Int) - (g.W : Int) + (c : Int) := by omega
      clear hz hF hA hpl hp
      by_cases h0 : z = 0
      · have HRV := hide (HHit.out h0)
        have hz0 : (z == (0 : Int)) = true := by simpa using h0
        clear h0
        go_wp2_with fail
        go_ret
        exact ⟨ret_int (by rw [HRV.out]; rfl), hB.out⟩
      · have HRV := hide (HMiss.out h0)
        have hz0 : (z == (0 : Int)) = false := by simpa using h0
        clear h0
        go_wp2_with fail
        refine ⟨⟨y, D, hD, ?_, by omega, HRV, hS, hB⟩, ?_⟩
        · first | rfl | (rw [hPD]) | skip
        · simp [intOf]; omega

end Go.Proofs.YtaglhmkjdajgpaaDoor
