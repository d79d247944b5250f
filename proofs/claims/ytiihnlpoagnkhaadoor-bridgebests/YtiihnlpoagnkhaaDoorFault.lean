/-
  What cards.Fault answers. No conditions beyond those that each theorem bears.
-/
import Derived.Test.YtiihnlpoagnkhaaDoorAllow
import Derived.Test.YtiihnlpoagnkhaaDoorBlk
namespace Go.Proofs.YtiihnlpoagnkhaaDoor
open Go.RowKit Go.Shelf
theorem getD_setN (L : List Nat) (i j : Nat) (x : Nat) (hi : i < L.length) : (L.set i x).getD j 0 = if j = i then x else L.getD j 0 := by
  simp only [List.getD, List.getElem?_set]
  by_cases h : i = j
  · subst h; simp [hi]
  · rw [if_neg h, if_neg (fun e => h e.symm)]
theorem rep0 (n r : Nat) : (List.replicate n 0).getD r 0 = 0 := by
  simp only [List.getD, List.getElem?_replicate]
  split <;> rfl

def inRange (zs : List Int) : Bool := zs.all (fun z => decide (0 ≤ z ∧ z < 52))

/-- The fault of some cards: 3: one is no card; 6: one is there twice. -/
def mayE (zs : List Int) : Int := if inRange zs = true then (if zs.Nodup then 0 else 6) else 3

theorem inRange_take {zs : List Int} (h : inRange zs = true) : ∀ i, i < zs.length → 0 ≤ zs.getD i 0 ∧ zs.getD i 0 < 52 := by
  intro i hi
  simp only [inRange, List.all_eq_true, decide_eq_true_eq] at h
  exact h _ (by simp [List.getD, hi])

theorem count_toNat (l : List Int) (r : Nat) (hl : ∀ z ∈ l, 0 ≤ z) : (l.map Int.toNat).count r = l.count (r : Int) := by
  induction l with
  | nil => rfl
  | cons z l ih =>
    have h0 := hl z (by simp)
    rw [List.map_cons, List.count_cons, List.count_cons, ih (fun x hx => hl x (by simp [hx]))]
    congr 1
    by_cases h : z = (r : Int)
    · subst h; simp
    · have : ¬ z.toNat = r := by omega
      simp [h, this]

theorem nodup_count (l : List Int) : l.Nodup ↔ ∀ z, l.count z ≤ 1 := by
  constructor
  · intro h z; exact List.nodup_iff_count.1 h z
  · intro h; exact List.nodup_iff_count.2 h

theorem foldl_max_lt (L : List Int) (a m : Int) : m < L.foldl max a ↔ m < a ∨ ∃ x ∈ L, m < x := by
  induction L generalizing a with
  | nil => simp
  | cons y L ih =>
    rw [List.foldl_cons, ih]
    simp only [List.mem_cons, exists_eq_or_imp]
    constructor
    · rintro (h | h)
      · rcases Int.le_total a y with hy | hy
        · rw [Int.max_eq_right hy] at h; exact .inr (.inl h)
        · rw [Int.max_eq_left hy] at h; exact .inl h
      · exact .inr (.inr h)
    · rintro (h | h | h)
      · exact .inl (Int.lt_of_lt_of_le h (Int.le_max_left _ _))
      · exact .inl (Int.lt_of_lt_of_le h (Int.le_max_right _ _))
      · exact .inr h

theorem maxOf_lt (L : List Int) (m : Int) (h : L ≠ []) : m < Lib.maxOf L ↔ ∃ x ∈ L, m < x := by
  cases L with
  | nil => exact absurd rfl h
  | cons y L =>
    rw [Lib.maxOf, foldl_max_lt]
    constructor
    · rintro (hh | hh)
      · exact ⟨y, by simp, hh⟩
      · exact hh
    · intro hh; exact .inr hh

set_option maxHeartbeats 400000 in
theorem Is_any (s : Int) (w : World) : Calls Tryd.prog 25 #[.int .i64 s] w fun e w' => e = .returned (.bool (decide (0 ≤ s ∧ s < 52))) ∧ w' = w := by
  generalize hB : decide (0 ≤ s ∧ s < 52) = B
  by_cases h0 : 0 ≤ s
  · by_cases h5 : s < 52
    · have d0 : decide (0 ≤ s) = true := by simp; omega
      obtain rfl : B = true := by rw [← hB]; simp; omega
      clear hB
      go_enter Tryd.func25, Tryd.ntmps25
      go_wp2
      go_ret
      exact ⟨rfl, rfl⟩
    · have d0 : decide (0 ≤ s) = true := by simp; omega
      obtain rfl : B = false := by rw [← hB]; simp; omega
      clear hB
      go_enter Tryd.func25, Tryd.ntmps25
      go_wp2
      go_ret
      exact ⟨rfl, rfl⟩
  · have d0 : decide (0 ≤ s) = false := by simp; omega
    obtain rfl : B = false := by rw [← hB]; simp; omega
    clear hB
    go_enter Tryd.func25, Tryd.ntmps25
    go_wp2
    go_ret
    exact ⟨rfl, rfl⟩

set_option maxRecDepth 100000 in
set_option maxHeartbeats 2000000 in
theorem cards_any (a : Option Addr) (n c : Nat) (zs : List Int) (w : World) (h : Rd w a n c zs) (hn : n ≤ 1000000000000000000) :
    Calls Tryd.prog 12 #[.slice a n c] w fun e w' => e = .returned (.int .i64 (mayE zs)) ∧ Below w.heap.size w w' := by
  have hcm := h.max
  have hcn := h.cap
  unfold maxLen at hcm
  go_enter Tryd.func12, Tryd.ntmps12
  go_wp2
  obtain ⟨w1, hw1⟩ : ∃ w1, w.alloc (Obj.cells #[.int .i64 0, .int .i64 0, .int .i64 0, .int .i64 0, .int .i64 0, .int .i64 0, .int .i64 0, .int .i64 0, .int .i64 0, .int .i64 0, .int .i64 0, .int .i64 0, .int .i64 0, .int .i64 0, .int .i64 0, .int .i64 0, .int .i64 0, .int .i64 0, .int .i64 0, .int .i64 0, .int .i64 0, .int .i64 0, .int .i64 0, .int .i64 0, .int .i64 0, .int .i64 0, .int .i64 0, .int .i64 0, .int .i64 0, .int .i64 0, .int .i64 0, .int .i64 0, .int .i64 0, .int .i64 0, .int .i64 0, .int .i64 0, .int .i64 0, .int .i64 0, .int .i64 0, .int .i64 0, .int .i64 0, .int .i64 0, .int .i64 0, .int .i64 0, .int .i64 0, .int .i64 0, .int .i64 0, .int .i64 0, .int .i64 0, .int .i64 0, .int .i64 0, .int .i64 0] 44) = w1 := ⟨_, rfl⟩
  rw [hw1]
  have K1 : Blk w1 w.heap.size 44 (List.replicate 52 0) := by rw [← hw1]; exact Blk.new w 44 _ _ rfl
  have B1 : Below w.heap.size w w1 := by rw [← hw1]; exact (Below.refl _ w).alloc (Nat.le_refl _) _
  clear hw1
  have HH := hide h
  clear h
  go_loopw [8] (fun v wr => ∃ (k : Nat) (T : List Nat), v = .int .i64 k ∧ k ≤ n ∧ Hid (Blk wr w.heap.size 44 T) ∧ Hid (T.length = 52) ∧ Hid (∀ r, r < 52 → T.getD r 0 = (zs.take k).count (r : Int)) ∧ Hid (inRange (zs.take k) = true) ∧ Hid (Below w.heap.size w wr)) (fun v _ => n - (intOf v).toNat)
  case atStart => exact ⟨0, _, rfl, by omega, K1, rfl, fun r hr => by rw [rep0]; simp, rfl, B1⟩
  case round =>
    clear K1 B1
    obtain ⟨k, T, rfl, hk, hT, hTl, hTc, hir, hB⟩ := hrel
    by_cases hlt : k < n
    · obtain ⟨b, off, ha, hc⟩ := HH.out.cells (by omega)
      subst ha
      have r1 : wr.cell? ⟨b, off + k, none⟩ = _ := (hB.out.cell (p := ⟨b, off + k, none⟩) (World.block_lt_of_cell? w _ (hc k hlt))).trans (hc k hlt)
      have hzl : k < zs.length := by rw [HH.out.len]; exact hlt
      have hlt' : (k : Int) < (n : Int) := by omega
      clear hc
      have etake : zs.take (k + 1) = zs.take k ++ [zs.getD k 0] := by rw [List.take_succ_eq_append_getElem hzl]; simp [List.getD, hzl]
      obtain ⟨z, hz⟩ : ∃ z, zs.getD k 0 = z := ⟨_, rfl⟩
      rw [hz] at r1 etake
      have hbad : ¬ (0 ≤ z ∧ z < 52) → mayE zs = 3 := by
        intro hb
        rw [mayE, if_neg]
        intro hi
        have := inRange_take hi k hzl
        rw [hz] at this
        exact hb this
      have HBAD := hide hbad
      have ET := hide etake
      clear hz hzl hbad etake
      have IS := hide (Is_any z)
      by_cases hzz : 0 ≤ z ∧ z < 52
      · rw [decide_eq_true hzz] at IS
        obtain ⟨r, rfl⟩ : ∃ r : Nat, z = r := ⟨z.toNat, by omega⟩
        have hr52 : r < 52 := by omega
        have c1 := hT.out.cell (i := r) (by rw [hTl.out]; exact hr52)
        have f1 := hT.out.frozen r
        obtain ⟨m, hm⟩ : ∃ m, T.getD r 0 = m := ⟨_, rfl⟩
        have hmk : m ≤ 1000000000000000000 := by
          rw [← hm, hTc.out r hr52]
          refine Nat.le_trans List.count_le_length ?_
          rw [List.length_take]; omega
        rw [hm] at c1
        have HM := hide hm
        clear hm
        go_wp2_with fail
        refine (IS.out _).mono ?_
        rintro e w2 ⟨rfl, hw2⟩
        subst w2
        go_wp2
        refine ⟨⟨k + 1, T.set r (m + 1), by go_num, by omega, ?_, ?_, ?_, ?_, hB.out.setCell (Nat.le_refl _) _⟩, by simp [intOf]; omega⟩
        · have := hT.out.set r (m + 1)
          rw [show ((m + 1 : Nat) : Int) = (m : Int) + 1 by omega] at this
          exact this
        · show _ = _
          rw [List.length_set]; exact hTl.out
        · intro r' hr'
          rw [getD_setN _ _ _ _ (by rw [hTl.out]; exact hr52), ET.out, List.count_append, List.count_singleton]
          by_cases e' : r' = r
          · subst e'; rw [if_pos rfl, ← hTc.out _ hr52, HM.out]; simp
          · have : ¬ ((r : Int) == (r' : Int)) = true := by simp; omega
            rw [if_neg e', if_neg this, hTc.out r' hr']; rfl
        · have h1 := hir.out
          show _ = _
          rw [ET.out]
          simp only [inRange, List.all_append, Bool.and_eq_true] at h1 ⊢
          exact ⟨h1, by simp; omega⟩
      · rw [decide_eq_false hzz] at IS
        go_wp2_with fail
        refine (IS.out _).mono ?_
        rintro e w2 ⟨rfl, hw2⟩
        subst w2
        go_wp2
        go_ret
        exact ⟨by rw [HBAD.out hzz]; rfl, hB.out⟩
    · obtain rfl : k = n := by omega
      have hlt' : ¬ (k : Int) < (k : Int) := by omega
      have hall : zs.take k = zs := List.take_of_length_le (by rw [HH.out.len]; exact Nat.le_refl _)
      have hir' := hir.out
      have hTc' := hTc.out
      rw [hall] at hir' hTc'
      have hmx : (1 < Lib.maxOf ((toI T).take 52)) ↔ ¬ zs.Nodup := by
        have h52 : (toI T).take 52 = toI T := List.take_of_length_le (by rw [toI_length, hTl.out]; exact Nat.le_refl _)
        rw [h52, maxOf_lt _ _ (fun e => by have := congrArg List.length e; rw [toI_length, hTl.out] at this; simp at this), nodup_count]
        constructor
        · rintro ⟨x, hx, h1⟩ hnd
          obtain ⟨m, hm, rfl⟩ := List.mem_map.1 hx
          obtain ⟨r, hr, e⟩ := List.mem_iff_getElem.1 hm
          have hr52 : r < 52 := by rw [hTl.out] at hr; exact hr
          have h2 := hTc' r hr52
          have h3 := hnd (r : Int)
          rw [← h2] at h3
          simp only [List.getD, hr, List.getElem?_eq_getElem, Option.getD_some, e] at h3
          omega
        · intro hnd
          obtain ⟨z, hz⟩ := Classical.not_forall.1 hnd
          have hmem : z ∈ zs := List.count_pos_iff.1 (by omega)
          have hzr : 0 ≤ z ∧ z < 52 := by
            simp only [inRange, List.all_eq_true, decide_eq_true_eq] at hir'
            exact hir' z hmem
          obtain ⟨r, rfl⟩ : ∃ r : Nat, z = r := ⟨z.toNat, by omega⟩
          have hr52 : r < 52 := by omega
          have h2 := hTc' r hr52
          refine ⟨((T.getD r 0 : Nat) : Int), ?_, by omega⟩
          refine List.mem_map.2 ⟨T.getD r 0, ?_, rfl⟩
          simp [List.getD, hTl.out, hr52]
      have MX := hide (Tryd.slices_Max_int w.heap.size 0 52 52 (toI T) wr (by omega) (by rw [toI_length, hTl.out]; exact Nat.le_refl _) (by omega) (fun j hj => by rw [toI_length, hTl.out] at hj; rw [Nat.zero_add, toI_getD]; exact hT.out.cell (by rw [hTl.out]; exact hj)))
      obtain ⟨mx, hmxe⟩ : ∃ mx, Lib.maxOf ((toI T).take 52) = mx := ⟨_, rfl⟩
      rw [hmxe] at hmx MX
      have HMX := hide hmx
      have HIR := hide hir'
      clear hmx hmxe hir' hTc' hall hTc hir hTl hT
      go_wp2_with fail
      refine (MX.out).mono ?_
      rintro e w2 ⟨rfl, hw⟩
      subst w2
      by_cases hg : 1 < mx
      · go_wp2
        go_ret
        exact ⟨by rw [mayE, if_pos HIR.out, if_neg (HMX.out.1 (by omega))]; rfl, hB.out⟩
      · go_wp2
        go_ret
        refine ⟨?_, hB.out⟩
        have : zs.Nodup := Classical.byContradiction (fun hn => by have := HMX.out.2 hn; omega)
        rw [mayE, if_pos HIR.out, if_pos this]; rfl

end Go.Proofs.YtiihnlpoagnkhaaDoor
