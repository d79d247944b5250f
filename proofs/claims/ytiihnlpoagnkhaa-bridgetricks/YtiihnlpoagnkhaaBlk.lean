/-
  Blocks of numbers. No conditions beyond those that each theorem bears.
-/
import Derived.Test.YtiihnlpoagnkhaaAuM
import Derived.BigRegion
import Derived.Laws.Rows
namespace Go.Proofs.Ytiihnlpoagnkhaa
open Go.RowKit

def toI (s : List Nat) : List Int := s.map (fun x : Nat => (x : Int))
theorem toI_length (s : List Nat) : (toI s).length = s.length := by simp [toI]

/-- A block of numbers. -/
def Blk (w : World) (b t : Nat) (L : List Nat) : Prop := w.heap[b]? = some (.cells ((toI L).map (Value.int .i64)).toArray t (0, 0))

theorem Blk.cell {w : World} {b t : Nat} {L : List Nat} (h : Blk w b t L) {i : Nat} (hi : i < L.length) : w.cell? ⟨b, i, none⟩ = some (.int .i64 (L.getD i 0)) := by
  have h' : w.heap[b]? = _ := h
  simp [World.cell?, h', toI, List.getD, hi]

theorem Blk.frozen {w : World} {b t : Nat} {L : List Nat} (h : Blk w b t L) (i : Nat) : w.frozen? ⟨b, i, none⟩ = false := by
  have h' : w.heap[b]? = _ := h
  simp [World.frozen?, h']

theorem Blk.set {w : World} {b t : Nat} {L : List Nat} (h : Blk w b t L) (i x : Nat) : Blk (w.setCell ⟨b, i, none⟩ (.int .i64 x)) b t (L.set i x) := by
  have h' : w.heap[b]? = _ := h
  simp [Blk, World.setCell, Array.getElem?_modify, h', toI, List.map_set]

theorem Blk.lt {w : World} {b t : Nat} {L : List Nat} (h : Blk w b t L) : b < w.heap.size := (Array.getElem?_eq_some_iff.1 h).1

theorem Blk.new (w : World) (t : Nat) (L : List Nat) (c : Array Value) (hc : c = ((toI L).map (Value.int .i64)).toArray) : Blk (w.alloc (.cells c t)) w.heap.size t L := by
  subst hc
  exact heap_alloc_new w _

theorem Blk.old {w : World} {b t : Nat} {L : List Nat} (h : Blk w b t L) (o : Obj) : Blk (w.alloc o) b t L :=
  (Below.heap_alloc w o b h.lt).trans h

theorem Blk.drew {w : World} {b t : Nat} {L : List Nat} (h : Blk w b t L) : Blk w.drew b t L := h

/-- The block of an auction that goes on. -/
def Au (w : World) (b : Nat) (s : AS) : Prop := Blk w b 49 [s.bid, s.bidder, s.dbl, s.pas]

theorem Au.cells {w : World} {b : Nat} {s : AS} (h : Au w b s) : w.cell? ⟨b, 0, none⟩ = some (.int .i64 s.bid) ∧ w.cell? ⟨b, 1, none⟩ = some (.int .i64 s.bidder) ∧ w.cell? ⟨b, 2, none⟩ = some (.int .i64 s.dbl) ∧ w.cell? ⟨b, 3, none⟩ = some (.int .i64 s.pas) :=
  ⟨Blk.cell (i := 0) h (by simp), Blk.cell (i := 1) h (by simp), Blk.cell (i := 2) h (by simp), Blk.cell (i := 3) h (by simp)⟩

set_option maxHeartbeats 400000 in
theorem isOver_any (b : Nat) (s : AS) (w : World) (h : Au w b s) : Calls Try.prog 30 #[.pointer (some ⟨b, 0, none⟩)] w fun e w' => e = .returned (.bool s.over) ∧ w' = w := by
  obtain ⟨q0, q1, q2, q3⟩ := h.cells
  obtain ⟨bid, bidder, dbl, pas⟩ := s
  generalize hB : AS.over ⟨bid, bidder, dbl, pas⟩ = B
  unfold AS.over at hB
  simp only at hB q0 q1 q2 q3
  clear h
  by_cases h0 : bid = 0
  · rw [if_pos h0] at hB
    subst h0
    by_cases h4 : pas = 4
    · obtain rfl : B = true := by rw [← hB]; simp [h4]
      subst h4
      clear hB
      go_enter Try.func30, Try.ntmps30
      go_wp2
      go_ret
      exact ⟨rfl, rfl⟩
    · obtain rfl : B = false := by rw [← hB]; simp [h4]
      have b4 : ((pas : Int) == 4) = false := by simp; omega
      clear hB
      go_enter Try.func30, Try.ntmps30
      go_wp2
      go_ret
      exact ⟨rfl, rfl⟩
  · rw [if_neg h0] at hB
    have b0 : ((bid : Int) == 0) = false := by simp; omega
    by_cases h4 : pas = 3
    · obtain rfl : B = true := by rw [← hB]; simp [h4]
      subst h4
      clear hB
      go_enter Try.func30, Try.ntmps30
      go_wp2
      go_ret
      exact ⟨rfl, rfl⟩
    · obtain rfl : B = false := by rw [← hB]; simp [h4]
      have b4 : ((pas : Int) == 3) = false := by simp; omega
      clear hB
      go_enter Try.func30, Try.ntmps30
      go_wp2
      go_ret
      exact ⟨rfl, rfl⟩

theorem tmod2 (a : Nat) : Int.tmod (a : Int) 2 = ((a % 2 : Nat) : Int) := by
  rw [Int.tmod_eq_emod_of_nonneg (by omega)]; omega

set_option maxHeartbeats 1000000 in
theorem isAllowed_any (b : Nat) (s : AS) (c : Int) (pl : Nat) (w : World) (h : Au w b s) : Calls Try.prog 46 #[.pointer (some ⟨b, 0, none⟩), .int .i64 c, .int .i64 pl] w fun e w' => e = .returned (.bool (s.allow c pl)) ∧ w' = w := by
  obtain ⟨q0, q1, q2, q3⟩ := h.cells
  obtain ⟨bid, bidder, dbl, pas⟩ := s
  generalize hB : AS.allow ⟨bid, bidder, dbl, pas⟩ c pl = B
  unfold AS.allow at hB
  simp only at hB q0 q1 q2 q3
  clear h
  by_cases c0 : c = 0
  · subst c0
    rw [if_pos rfl] at hB
    subst hB
    go_enter Try.func46, Try.ntmps46
    go_wp2
    go_ret
    exact ⟨rfl, rfl⟩
  rw [if_neg c0] at hB
  have b0 : (c == 0) = false := by simp; omega
  obtain ⟨x, hx⟩ : ∃ x, pl % 2 = x := ⟨_, rfl⟩
  obtain ⟨y, hy⟩ : ∃ y, bidder % 2 = y := ⟨_, rfl⟩
  have ex : (pl : Int) % 2 = (x : Int) := by omega
  have ey : (bidder : Int) % 2 = (y : Int) := by omega
  have tx : Int.tmod (pl : Int) 2 = (x : Int) := by rw [tmod2]; omega
  have ty : Int.tmod (bidder : Int) 2 = (y : Int) := by rw [tmod2]; omega
  rw [hx, hy] at hB
  have hx2 : x < 2 := by omega
  have hy2 : y < 2 := by omega
  clear hx hy
  by_cases c1 : c = 1
  · rw [if_pos c1] at hB
    subst c1
    by_cases h0 : bid = 0
    · obtain rfl : B = false := by rw [← hB]; simp [h0]
      subst h0
      clear hB
      go_enter Try.func46, Try.ntmps46
      go_wp2
      go_ret
      exact ⟨rfl, rfl⟩
    · have n0 : ((bid : Int) != 0) = true := by simp; omega
      by_cases hd : dbl = 0
      · subst hd
        by_cases hxy : x = y
        · obtain rfl : B = false := by rw [← hB]; simp [hxy]
          subst hxy
          clear hB
          go_enter Try.func46, Try.ntmps46
          go_wp2
          go_ret
          exact ⟨rfl, rfl⟩
        · obtain rfl : B = true := by rw [← hB]; simp [hxy, h0]
          have bxy : ((x : Int) == (y : Int)) = false := by simp; omega
          clear hB
          go_enter Try.func46, Try.ntmps46
          go_wp2
          go_ret
          exact ⟨rfl, rfl⟩
      · obtain rfl : B = false := by rw [← hB]; simp [hd]
        have bd : ((dbl : Int) == 0) = false := by simp; omega
        clear hB
        go_enter Try.func46, Try.ntmps46
        go_wp2
        go_ret
        exact ⟨rfl, rfl⟩
  rw [if_neg c1] at hB
  have b1 : (c == 1) = false := by simp; omega
  by_cases c2 : c = 2
  · rw [if_pos c2] at hB
    subst c2
    by_cases hd : dbl = 1
    · subst hd
      by_cases hxy : x = y
      · obtain rfl : B = true := by rw [← hB]; simp [hxy]
        subst hxy
        clear hB
        go_enter Try.func46, Try.ntmps46
        go_wp2
        go_ret
        exact ⟨rfl, rfl⟩
      · obtain rfl : B = false := by rw [← hB]; simp [hxy]
        have bxy : ((x : Int) == (y : Int)) = false := by simp; omega
        clear hB
        go_enter Try.func46, Try.ntmps46
        go_wp2
        go_ret
        exact ⟨rfl, rfl⟩
    · obtain rfl : B = false := by rw [← hB]; simp [hd]
      have bd : ((dbl : Int) == 1) = false := by simp; omega
      clear hB
      go_enter Try.func46, Try.ntmps46
      go_wp2
      go_ret
      exact ⟨rfl, rfl⟩
  rw [if_neg c2] at hB
  have b2 : (c == 2) = false := by simp; omega
  by_cases hl : (bid : Int) < c
  · obtain rfl : B = true := by rw [← hB]; simp; omega
    clear hB
    go_enter Try.func46, Try.ntmps46
    go_wp2
    go_ret
    exact ⟨rfl, rfl⟩
  · obtain rfl : B = false := by rw [← hB]; simp; omega
    clear hB
    go_enter Try.func46, Try.ntmps46
    go_wp2
    go_ret
    exact ⟨rfl, rfl⟩


set_option maxHeartbeats 1000000 in
theorem fault_any (b : Nat) (s : AS) (c : Int) (pl : Nat) (w : World) (h : Au w b s) : Calls Try.prog 28 #[.pointer (some ⟨b, 0, none⟩), .int .i64 c, .int .i64 pl] w fun e w' => e = .returned (.int .i64 (s.flt c pl)) ∧ w' = w := by
  have OV := hide (isOver_any b s w h)
  have AL := hide (isAllowed_any b s c pl w h)
  generalize hB : s.flt c pl = B
  unfold AS.flt at hB
  clear h
  by_cases h0 : c < 0
  · rw [if_pos (Or.inl h0)] at hB
    subst hB
    go_enter Try.func28, Try.ntmps28
    go_wp2
    go_ret
    exact ⟨rfl, rfl⟩
  have d0 : decide (c < 0) = false := by simp; omega
  by_cases h37 : 37 < c
  · rw [if_pos (Or.inr h37)] at hB
    subst hB
    go_enter Try.func28, Try.ntmps28
    go_wp2
    go_ret
    exact ⟨rfl, rfl⟩
  rw [if_neg (by omega)] at hB
  cases ho : s.over with
  | true =>
    rw [ho] at hB OV
    rw [if_pos rfl] at hB
    subst hB
    go_enter Try.func28, Try.ntmps28
    go_wp2_with fail
    refine OV.out.mono ?_
    rintro e w1 ⟨rfl, hw⟩
    subst w1
    go_wp2
    go_ret
    exact ⟨rfl, rfl⟩
  | false =>
    rw [ho] at hB OV
    rw [if_neg (by simp)] at hB
    cases ha : s.allow c pl with
    | true =>
      rw [ha] at hB AL
      rw [if_pos rfl] at hB
      subst hB
      go_enter Try.func28, Try.ntmps28
      go_wp2_with fail
      refine OV.out.mono ?_
      rintro e w1 ⟨rfl, hw⟩
      subst w1
      go_wp2_with fail
      refine AL.out.mono ?_
      rintro e w1 ⟨rfl, hw⟩
      subst w1
      go_wp2
      go_ret
      exact ⟨rfl, rfl⟩
    | false =>
      rw [ha] at hB AL
      rw [if_neg (by simp)] at hB
      subst hB
      go_enter Try.func28, Try.ntmps28
      go_wp2_with fail
      refine OV.out.mono ?_
      rintro e w1 ⟨rfl, hw⟩
      subst w1
      go_wp2_with fail
      refine AL.out.mono ?_
      rintro e w1 ⟨rfl, hw⟩
      subst w1
      go_wp2
      go_ret
      exact ⟨rfl, rfl⟩

theorem Au.set {w : World} {b : Nat} {x0 x1 x2 x3 : Nat} (h : Au w b ⟨x0, x1, x2, x3⟩) (i x : Nat) : Blk (w.setCell ⟨b, i, none⟩ (.int .i64 x)) b 49 ([x0, x1, x2, x3].set i x) := Blk.set h i x

set_option maxHeartbeats 1000000 in
theorem take_any (b : Nat) (s : AS) (c pl : Nat) (hpas : s.pas ≤ 1000) (hdbl : s.dbl ≤ 1000) (w : World) (h : Au w b s) (base : Nat) (hb : base ≤ b) : Calls Try.prog 29 #[.pointer (some ⟨b, 0, none⟩), .int .i64 c, .int .i64 pl] w fun e w' => e = .returned (.tuple #[]) ∧ Au w' b (s.take c pl) ∧ Below base w w' := by
  obtain ⟨q0, q1, q2, q3⟩ := h.cells
  have f0 := Blk.frozen h 0
  have f1 := Blk.frozen h 1
  have f2 := Blk.frozen h 2
  have f3 := Blk.frozen h 3
  obtain ⟨bid, bidder, dbl, pas⟩ := s
  simp only at q0 q1 q2 q3 hpas hdbl
  have HH := hide h
  clear h
  by_cases c0 : c = 0
  · subst c0
    go_enter Try.func29, Try.ntmps29
    go_wp2
    refine bodyPost_ret (results_none rfl _ _ _) rfl ⟨rfl, ?_, (Below.refl _ _).setCell hb _⟩
    have := Blk.set HH.out 3 (pas + 1)
    rw [show ((pas + 1 : Nat) : Int) = (pas : Int) + 1 by omega] at this
    exact this
  · have b0 : ((c : Int) == 0) = false := by simp; omega
    by_cases c3 : 3 ≤ c
    · have c3' : (3 : Int) ≤ (c : Int) := by omega
      have HT : Hid (AS.take ⟨bid, bidder, dbl, pas⟩ c pl = ⟨c, pl, 0, 0⟩) := hide (by rw [AS.take, if_neg c0, if_pos c3])
      go_enter Try.func29, Try.ntmps29
      go_wp2
      refine bodyPost_ret (results_none rfl _ _ _) rfl ⟨rfl, ?_, ((((Below.refl _ _).setCell hb _).setCell hb _).setCell hb _).setCell hb _⟩
      rw [HT.out]
      exact Blk.set (Blk.set (Blk.set (Blk.set HH.out 3 0) 0 c) 1 pl) 2 0
    · have c3' : ¬ (3 : Int) ≤ (c : Int) := by omega
      have HT : Hid (AS.take ⟨bid, bidder, dbl, pas⟩ c pl = ⟨bid, bidder, dbl + 1, 0⟩) := hide (by rw [AS.take, if_neg c0, if_neg c3])
      go_enter Try.func29, Try.ntmps29
      go_wp2
      first | go_end0 | skip
      refine ⟨rfl, ?_, ((Below.refl _ _).setCell hb _).setCell hb _⟩
      rw [HT.out]
      have := Blk.set (Blk.set HH.out 3 0) 2 (dbl + 1)
      rw [show ((dbl + 1 : Nat) : Int) = (dbl : Int) + 1 by omega] at this
      exact this

end Go.Proofs.Ytiihnlpoagnkhaa
