/-
  Which boards the game has; a board as its mover sees it, made of a grid: walked. No conditions beyond those that each theorem bears.
-/
import Derived.Test.YtkmghlmniahgbaaDoorPw
namespace Go.Proofs.YtkmghlmniahgbaaDoor
open Go.RowKit

/-- A side that a board may have. -/
def sd (n : Int) : Bool := decide (4 ≤ n ∧ n ≤ 8 ∧ n % 2 = 0)

theorem oSide_any (x : Int) (w : World) : Calls Tryd.prog 28 #[.int .i64 x] w fun e w' => e = .returned (.bool (sd x)) ∧ w' = w := by
  by_cases h1 : 4 ≤ x
  · by_cases h2 : x ≤ 8
    · have hm : Int.tmod x 2 = x % 2 := Int.tmod_eq_emod_of_nonneg (by omega)
      obtain ⟨k, rfl⟩ := Int.eq_ofNat_of_zero_le (show 0 ≤ x by omega)
      by_cases h3 : k % 2 = 0
      · have hz : (((k : Int) % 2) == 0) = true := by simp; omega
        have hz2 : (((k : Int).tmod 2) == 0) = true := by rw [hm]; exact hz
        go_enter Tryd.func28, Tryd.ntmps28
        go_wp2
        go_ret
        exact ⟨ret_bool (by unfold sd; symm; rw [decide_eq_true_iff]; omega), rfl⟩
      · have hz : (((k : Int) % 2) == 0) = false := by simp; omega
        have hz2 : (((k : Int).tmod 2) == 0) = false := by rw [hm]; exact hz
        go_enter Tryd.func28, Tryd.ntmps28
        go_wp2
        go_ret
        exact ⟨ret_bool (by unfold sd; symm; rw [decide_eq_false_iff_not]; omega), rfl⟩
    · go_enter Tryd.func28, Tryd.ntmps28
      go_wp2
      go_ret
      exact ⟨ret_bool (by unfold sd; symm; rw [decide_eq_false_iff_not]; omega), rfl⟩
  · go_enter Tryd.func28, Tryd.ntmps28
    go_wp2
    go_ret
    exact ⟨ret_bool (by unfold sd; symm; rw [decide_eq_false_iff_not]; omega), rfl⟩

/-- Boards of this game. -/
def oMay (W H : Int) (zs : List Int) : Bool := mayG W H zs && sd W && sd H

/-- A board of this game, by numbers. -/
structure Og (gW gH n : Nat) (zs : List Int) : Prop where
  wd : 4 ≤ gW ∧ gW ≤ 8
  ht : 4 ≤ gH ∧ gH ≤ 8
  we : gW % 2 = 0
  he : gH % 2 = 0
  mul : gW * gH = n
  len : zs.length = n
  z : ∀ z, z ∈ zs → 0 ≤ z ∧ z ≤ 2

theorem Og.n64 {gW gH n : Nat} {zs : List Int} (h : Og gW gH n zs) : 16 ≤ n ∧ n ≤ 64 := by
  have h1 : 4 * 4 ≤ gW * gH := Nat.mul_le_mul h.wd.1 h.ht.1
  have h2 : gW * gH ≤ 8 * 8 := Nat.mul_le_mul h.wd.2 h.ht.2
  have := h.mul
  omega

theorem Og.w1 {gW gH n : Nat} {zs : List Int} (h : Og gW gH n zs) : 1 ≤ gW ∧ gW ≤ 8 := by have := h.wd; omega

theorem Og.may {gW gH n : Nat} {zs : List Int} (h : Og gW gH n zs) : mayP (gW : Int) (gH : Int) zs := by
  have := h.wd
  have := h.ht
  refine ⟨by omega, by omega, by omega, by omega, ?_, h.z⟩
  rw [h.len, ← h.mul, Int.natCast_mul]

theorem Og.oMay {gW gH n : Nat} {zs : List Int} (h : Og gW gH n zs) : oMay (gW : Int) (gH : Int) zs = true := by
  have := h.wd
  have := h.ht
  have := h.we
  have := h.he
  unfold Go.Proofs.YtkmghlmniahgbaaDoor.oMay sd
  rw [mayG_yes h.may, decide_eq_true (by omega), decide_eq_true (by omega)]; rfl

theorem og_of {W H : Int} {n : Nat} {zs : List Int} (hl : zs.length = n) (h : oMay W H zs = true) : ∃ gW gH : Nat, W = gW ∧ H = gH ∧ Og gW gH n zs := by
  unfold oMay sd mayG at h
  simp only [Bool.and_eq_true, decide_eq_true_eq] at h
  obtain ⟨⟨hm, hw⟩, hh⟩ := h
  obtain ⟨gW, rfl⟩ := Int.eq_ofNat_of_zero_le (show 0 ≤ W by omega)
  obtain ⟨gH, rfl⟩ := Int.eq_ofNat_of_zero_le (show 0 ≤ H by omega)
  refine ⟨gW, gH, rfl, rfl, by omega, by omega, by omega, by omega, ?_, hl, hm.2.2.2.2.2⟩
  have := hm.2.2.2.2.1
  rw [← Int.natCast_mul, hl] at this
  omega

theorem results_bdt {fn : Func} {t u : Tmp} (h : fn.results = #[.cell t 55, .tmp u]) (tmps : Array Value) (w : World) (b : Nat) (hb : tmps.getD t undef = .pointer (some ⟨b, 0, none⟩)) {o p e : Nat} (hr : Bd w b o p e) {v : Value} (hv : tmps.getD u undef = v) :
    (results fn tmps).run Tryd.prog w = .ok (.tuple #[.agg (bdA o p e), v]) w := by
  have hb' : tmps[t]?.getD undef = .pointer (some ⟨b, 0, none⟩) := by simpa using hb
  have hv' : tmps[u]?.getD undef = v := by simpa using hv
  have hl := run_loadVar_row (P := Tryd.prog) w b 55 55 (bdA o p e) (0, 0) _ hr Tryd.underlying55 rfl size55
  simp [results, h, hb', hv', asAddr, hl]

theorem build55z (w : World) : (Instr.build 55 #[]).run Tryd.prog w = .ok (.agg (bdA 0 0 0)) w := by
  simp [Instr.build, go_sem, run_underlying Tryd.underlying55]

theorem isPlayer_yes (m : Nat) (hm : m = 1 ∨ m = 2) (w : World) : Calls Tryd.prog 46 #[.int .i64 (m : Nat)] w fun e w' => e = .returned (.bool true) ∧ w' = w := by
  rcases hm with rfl | rfl
  · go_enter Tryd.func46, Tryd.ntmps46
    go_wp2
    go_ret
    exact ⟨rfl, rfl⟩
  · go_enter Tryd.func46, Tryd.ntmps46
    go_wp2
    go_ret
    exact ⟨rfl, rfl⟩

theorem isPlayer_no (x : Int) (h1 : x ≠ 1) (h2 : x ≠ 2) (w : World) : Calls Tryd.prog 46 #[.int .i64 x] w fun e w' => e = .returned (.bool false) ∧ w' = w := by
  have b1 : (x == (1 : Int)) = false := by simpa using h1
  have b2 : (x == (2 : Int)) = false := by simpa using h2
  clear h1 h2
  go_enter Tryd.func46, Tryd.ntmps46
  go_wp2
  go_ret
  exact ⟨rfl, rfl⟩

theorem Bd.set0 {w : World} {b o t e : Nat} (h : Bd w b o t e) (x : Nat) : Bd (w.setCell ⟨b, 0, none⟩ (.int .u64 (x : Nat))) b x t e := by
  have h' : w.heap[b]? = _ := h
  simp [Bd, World.setCell, Array.getElem?_modify, h']
theorem Bd.set1 {w : World} {b o t e : Nat} (h : Bd w b o t e) (x : Nat) : Bd (w.setCell ⟨b, 1, none⟩ (.int .u64 (x : Nat))) b o x e := by
  have h' : w.heap[b]? = _ := h
  simp [Bd, World.setCell, Array.getElem?_modify, h']
theorem Bd.set2 {w : World} {b o t e : Nat} (h : Bd w b o t e) (x : Nat) : Bd (w.setCell ⟨b, 2, none⟩ (.int .u64 (x : Nat))) b o t x := by
  have h' : w.heap[b]? = _ := h
  simp [Bd, World.setCell, Array.getElem?_modify, h']

/-- The set of the first j places with a sign. -/
def PartI (W : Nat) (Z : List Int) (v j s : Nat) : Prop := s < 2 ^ 64 ∧ ∀ x y, bt s x y = true ↔ ∃ k, k < j ∧ x = ((k % W : Nat) : Int) ∧ y = ((k / W : Nat) : Int) ∧ Z.getD k 0 = (v : Int)

theorem part_zero (W : Nat) (Z : List Int) (v : Nat) : PartI W Z v 0 0 := ⟨by omega, fun x y => by
  rw [bt_zero]
  constructor
  · intro h; cases h
  · rintro ⟨k, hk, _⟩; omega⟩

theorem part_no {W : Nat} {Z : List Int} {v j s : Nat} (h : PartI W Z v j s) (hz : Z.getD j 0 ≠ (v : Int)) : PartI W Z v (j + 1) s := ⟨h.1, fun x y => by
  rw [h.2]
  constructor
  · rintro ⟨k, hk, r⟩; exact ⟨k, by omega, r⟩
  · rintro ⟨k, hk, r1, r2, r3⟩
    by_cases e : k = j
    · subst e; exact absurd r3 hz
    · exact ⟨k, by omega, r1, r2, r3⟩⟩

theorem part_yes {W : Nat} {Z : List Int} {v j s : Nat} (h : PartI W Z v j s) (hz : Z.getD j 0 = (v : Int)) (hb : onB 8 8 ((j % W : Nat) : Int) ((j / W : Nat) : Int) = true) : PartI W Z v (j + 1) (s ||| bv ((j % W : Nat) : Int) ((j / W : Nat) : Int)) := ⟨Nat.or_lt_two_pow h.1 (bv_lt _ _), fun x y => by
  rw [bt_or, Bool.or_eq_true, h.2, bv_bit, hb, Bool.true_and, Bool.and_eq_true, decide_eq_true_eq, decide_eq_true_eq]
  constructor
  · rintro (⟨k, hk, r⟩ | ⟨r1, r2⟩)
    · exact ⟨k, by omega, r⟩
    · exact ⟨j, by omega, r1, r2, hz⟩
  · rintro ⟨k, hk, r1, r2, r3⟩
    by_cases e : k = j
    · subst e; exact Or.inr ⟨r1, r2⟩
    · exact Or.inl ⟨k, by omega, r1, r2, r3⟩⟩

theorem part_all {W H : Nat} {Z : List Int} {v s : Nat} (hW : 1 ≤ W ∧ W ≤ 8) (hH : H ≤ 8) (h : PartI W Z v (W * H) s) : s = so W H Z v := by
  refine bt_ext h.1 (so_lt _ _ _ _) fun x y => ?_
  rw [Bool.eq_iff_iff, h.2, so_bt hW.2 hH]
  constructor
  · rintro ⟨k, hk, rfl, rfl, r⟩
    rw [(cl_at (zs := Z) (show 0 < W by omega) hk).1, r]
  · intro hc
    obtain ⟨k, hk, rfl, rfl⟩ := onB_place (cl_on (v := (v : Int)) (by omega) hc)
    exact ⟨k, hk, rfl, rfl, by rw [← (cl_at (zs := Z) (show 0 < W by omega) hk).1, hc]⟩

theorem bv_pow (x y : Nat) (hx : x < 8) (hy : y < 8) : bv (x : Int) (y : Int) = 2 ^ (y * 8 + x) := by
  unfold bv
  rw [if_pos (by rw [onB_iff]; omega)]
  congr 1

attribute [local irreducible] so bv sd mayG
attribute [local go_sem] build55z

set_option maxRecDepth 100000 in
set_option maxHeartbeats 2000000 in
theorem boardOf_state (W H : Int) (a : Option Addr) (n c : Nat) (zs : List Int) (who : Int) (w : World) (h : Rd w a n c zs) (hno : oMay W H zs = false) :
    Calls Tryd.prog 29 #[.agg (gdA W H a n c), .int .i64 who] w fun e w' => e = .returned (.tuple #[.agg (bdA 0 0 0), .int .i64 12]) ∧ Below w.heap.size w w' := by
  obtain ⟨w1, hw1⟩ : ∃ w1, (w.alloc (.cells (gdA W H a n c) 24)).alloc (.cells #[.int .u64 0, .int .u64 0, .int .u64 0] 55) = w1 := ⟨_, rfl⟩
  have HB1 : Hid (Below w.heap.size w w1) := hide (by rw [← hw1]; exact ((Below.refl _ w).alloc (Nat.le_refl _) _).alloc (by simp) _)
  have G1 : Gd w1 w.heap.size W H a n c := by rw [← hw1]; exact (Gd.new w W H a n c).old _
  have K1 : Bd w1 (w.heap.size + 1) 0 0 0 := by
    rw [← hw1]
    have := Bd.new (w.alloc (.cells (gdA W H a n c) 24)) 0 0 0
    rw [World.size_alloc] at this
    exact this
  have hs1 : w1.heap.size = w.heap.size + 2 := by rw [← hw1]; simp
  have HS1 := hide hs1
  have HMY := hide (May_any W H a n c zs w1 (h.mono HB1.out))
  have HSW := hide (fun W1 => oSide_any W W1)
  have HSH := hide (fun W1 => oSide_any H W1)
  have hcase : mayG W H zs = false ∨ (mayG W H zs = true ∧ sd W = false) ∨ (mayG W H zs = true ∧ sd W = true ∧ sd H = false) := by
    unfold oMay at hno
    cases hm : mayG W H zs <;> cases h1 : sd W <;> cases h2 : sd H <;> simp_all
  clear h hno hs1
  rcases hcase with h1 | ⟨h1, h2⟩ | ⟨h1, h2, h3⟩
  · skip
    go_enter Tryd.func29, Tryd.ntmps29
    go_upto_region 1 with fail
    clear hw1
    go_wp2_with (refine wpList_load_gd rfl (.tmp 2) rfl w.heap.size rfl G1 ?_)
    refine HMY.out.mono ?_
    rintro e w2 ⟨rfl, hb2⟩
    have HB2 := hide (HB1.out.trans (hb2.mono HB1.out.size))
    have K2 := K1.below hb2 K1.lt
    have G2 := G1.below hb2 G1.lt
    obtain ⟨q0, q1, -⟩ := G2.cells
    rw [h1]
    clear K1 G1 HMY
    go_wp2_with (refine wpList_store_bd rfl (.tmp 4) (.tmp 25) rfl (w.heap.size + 1) rfl rfl K2 ?_; intro w6 k6 kk6)
    refine bodyPost_ret (results_bdt rfl _ _ (w.heap.size + 1) rfl k6 rfl) rfl ⟨rfl, ?_⟩
    exact HB2.out.trans ((kk6.mono (Y := fun q => w.heap.size ≤ q) (fun q _ e => by omega)).below (B := w.heap.size) HB2.out.size (fun q hq e => by omega))
  · skip
    go_enter Tryd.func29, Tryd.ntmps29
    go_upto_region 1 with fail
    clear hw1
    go_wp2_with (refine wpList_load_gd rfl (.tmp 2) rfl w.heap.size rfl G1 ?_)
    refine HMY.out.mono ?_
    rintro e w2 ⟨rfl, hb2⟩
    have HB2 := hide (HB1.out.trans (hb2.mono HB1.out.size))
    have K2 := K1.below hb2 K1.lt
    have G2 := G1.below hb2 G1.lt
    obtain ⟨q0, q1, -⟩ := G2.cells
    rw [h1]
    clear K1 G1 HMY
    go_wp2_with fail
    refine (HSW.out _).mono ?_
    rintro e wx ⟨rfl, hwx⟩
    subst wx
    rw [h2]
    go_wp2_with (refine wpList_store_bd rfl (.tmp 4) (.tmp 25) rfl (w.heap.size + 1) rfl rfl K2 ?_; intro w6 k6 kk6)
    refine bodyPost_ret (results_bdt rfl _ _ (w.heap.size + 1) rfl k6 rfl) rfl ⟨rfl, ?_⟩
    exact HB2.out.trans ((kk6.mono (Y := fun q => w.heap.size ≤ q) (fun q _ e => by omega)).below (B := w.heap.size) HB2.out.size (fun q hq e => by omega))
  · skip
    go_enter Tryd.func29, Tryd.ntmps29
    go_upto_region 1 with fail
    clear hw1
    go_wp2_with (refine wpList_load_gd rfl (.tmp 2) rfl w.heap.size rfl G1 ?_)
    refine HMY.out.mono ?_
    rintro e w2 ⟨rfl, hb2⟩
    have HB2 := hide (HB1.out.trans (hb2.mono HB1.out.size))
    have K2 := K1.below hb2 K1.lt
    have G2 := G1.below hb2 G1.lt
    obtain ⟨q0, q1, -⟩ := G2.cells
    rw [h1]
    clear K1 G1 HMY
    go_wp2_with fail
    refine (HSW.out _).mono ?_
    rintro e wx ⟨rfl, hwx⟩
    subst wx
    rw [h2]
    go_wp2_with fail
    refine (HSH.out _).mono ?_
    rintro e wx ⟨rfl, hwx⟩
    subst wx
    rw [h3]
    go_wp2_with (refine wpList_store_bd rfl (.tmp 4) (.tmp 25) rfl (w.heap.size + 1) rfl rfl K2 ?_; intro w6 k6 kk6)
    refine bodyPost_ret (results_bdt rfl _ _ (w.heap.size + 1) rfl k6 rfl) rfl ⟨rfl, ?_⟩
    exact HB2.out.trans ((kk6.mono (Y := fun q => w.heap.size ≤ q) (fun q _ e => by omega)).below (B := w.heap.size) HB2.out.size (fun q hq e => by omega))


set_option maxRecDepth 100000 in
set_option maxHeartbeats 2000000 in
theorem boardOf_who (gW gH : Nat) (a : Option Addr) (n c : Nat) (zs : List Int) (who : Int) (w : World) (h : Rd w a n c zs) (b : Og gW gH n zs) (hn1 : who ≠ 1) (hn2 : who ≠ 2) :
    Calls Tryd.prog 29 #[.agg (gdA gW gH a n c), .int .i64 who] w fun e w' => e = .returned (.tuple #[.agg (bdA 0 0 0), .int .i64 4]) ∧ Below w.heap.size w w' := by
  obtain ⟨w1, hw1⟩ : ∃ w1, (w.alloc (.cells (gdA gW gH a n c) 24)).alloc (.cells #[.int .u64 0, .int .u64 0, .int .u64 0] 55) = w1 := ⟨_, rfl⟩
  have HB1 : Hid (Below w.heap.size w w1) := hide (by rw [← hw1]; exact ((Below.refl _ w).alloc (Nat.le_refl _) _).alloc (by simp) _)
  have G1 : Gd w1 w.heap.size gW gH a n c := by rw [← hw1]; exact (Gd.new w _ _ _ _ _).old _
  have K1 : Bd w1 (w.heap.size + 1) 0 0 0 := by
    rw [← hw1]
    have := Bd.new (w.alloc (.cells (gdA gW gH a n c) 24)) 0 0 0
    rw [World.size_alloc] at this
    exact this
  have hs1 : w1.heap.size = w.heap.size + 2 := by rw [← hw1]; simp
  have HS1 := hide hs1
  have HMY := hide (May_any gW gH a n c zs w1 (h.mono HB1.out))
  have HSW := hide (fun W1 => oSide_any gW W1)
  have HSH := hide (fun W1 => oSide_any gH W1)
  have HIP := hide (fun W1 => isPlayer_no who hn1 hn2 W1)
  obtain ⟨h1, h2, h3⟩ : mayG (gW : Int) (gH : Int) zs = true ∧ sd gW = true ∧ sd gH = true := by
    have := b.oMay
    unfold oMay at this
    simp only [Bool.and_eq_true] at this
    exact ⟨this.1.1, this.1.2, this.2⟩
  clear h hs1 b hn1 hn2
  go_enter Tryd.func29, Tryd.ntmps29
  go_upto_region 1 with fail
  clear hw1
  go_wp2_with (refine wpList_load_gd rfl (.tmp 2) rfl w.heap.size rfl G1 ?_)
  refine HMY.out.mono ?_
  rintro e w2 ⟨rfl, hb2⟩
  have HB2 := hide (HB1.out.trans (hb2.mono HB1.out.size))
  have K2 := K1.below hb2 K1.lt
  have G2 := G1.below hb2 G1.lt
  obtain ⟨q0, q1, -⟩ := G2.cells
  rw [h1]
  clear K1 G1 HMY
  go_wp2_with fail
  refine (HSW.out _).mono ?_
  rintro e wx ⟨rfl, hwx⟩
  subst wx
  rw [h2]
  go_wp2_with fail
  refine (HSH.out _).mono ?_
  rintro e wx ⟨rfl, hwx⟩
  subst wx
  rw [h3]
  go_wp2_with fail
  refine (HIP.out _).mono ?_
  rintro e wx ⟨rfl, hwx⟩
  subst wx
  go_wp2_with (refine wpList_store_bd rfl (.tmp 4) (.tmp 29) rfl (w.heap.size + 1) rfl rfl K2 ?_; intro w6 k6 kk6)
  refine bodyPost_ret (results_bdt rfl _ _ (w.heap.size + 1) rfl k6 rfl) rfl ⟨rfl, ?_⟩
  exact HB2.out.trans ((kk6.mono (Y := fun q => w.heap.size ≤ q) (fun q _ e => by omega)).below (B := w.heap.size) HB2.out.size (fun q hq e => by omega))

set_option maxRecDepth 100000 in
set_option maxHeartbeats 4000000 in
theorem boardOf_yes (gW gH : Nat) (a : Option Addr) (n c : Nat) (zs : List Int) (m : Nat) (w : World) (h : Rd w a n c zs) (b : Og gW gH n zs) (hm : m = 1 ∨ m = 2) :
    Calls Tryd.prog 29 #[.agg (gdA gW gH a n c), .int .i64 (m : Nat)] w fun e w' => e = .returned (.tuple #[.agg (brd gW gH zs m), .int .i64 0]) ∧ Below w.heap.size w w' := by
  obtain ⟨w1, hw1⟩ : ∃ w1, (w.alloc (.cells (gdA gW gH a n c) 24)).alloc (.cells #[.int .u64 0, .int .u64 0, .int .u64 0] 55) = w1 := ⟨_, rfl⟩
  have HB1 : Hid (Below w.heap.size w w1) := hide (by rw [← hw1]; exact ((Below.refl _ w).alloc (Nat.le_refl _) _).alloc (by simp) _)
  have G1 : Gd w1 w.heap.size gW gH a n c := by rw [← hw1]; exact (Gd.new w _ _ _ _ _).old _
  have K1 : Bd w1 (w.heap.size + 1) 0 0 0 := by
    rw [← hw1]
    have := Bd.new (w.alloc (.cells (gdA gW gH a n c) 24)) 0 0 0
    rw [World.size_alloc] at this
    exact this
  have hs1 : w1.heap.size = w.heap.size + 2 := by rw [← hw1]; simp
  have HS1 := hide hs1
  have HMY := hide (May_any gW gH a n c zs w1 (h.mono HB1.out))
  have HSW := hide (fun W1 => oSide_any gW W1)
  have HSH := hide (fun W1 => oSide_any gH W1)
  have HIP := hide (fun W1 => isPlayer_yes m hm W1)
  obtain ⟨h1, h2, h3⟩ : mayG (gW : Int) (gH : Int) zs = true ∧ sd gW = true ∧ sd gH = true := by
    have := b.oMay
    unfold oMay at this
    simp only [Bool.and_eq_true] at this
    exact ⟨this.1.1, this.1.2, this.2⟩
  have hn64 := b.n64
  have hcm := h.max
  unfold maxLen at hcm
  have hcc := h.cap
  obtain ⟨ba, oa, rfl, hca⟩ := h.cells (by omega)
  have hba : ba < w.heap.size := World.block_lt_of_cell? w _ (hca 0 (by omega))
  have HC1 : Hid (∀ i, i < n → w1.cell? ⟨ba, oa + i, none⟩ = some (.int .i64 (zs.getD i 0))) := hide (fun i hi => (HB1.out.cell (p := ⟨ba, oa + i, none⟩) hba).trans (hca i hi))
  have HPL : Hid (∀ j, j < n → ∀ W1, Calls Tryd.prog 34 #[.int .i64 j, .int .i64 gW] W1 fun e w' => e = .returned (.int .u64 (bv ((j % gW : Nat) : Int) ((j / gW : Nat) : Int) : Nat)) ∧ ∃ k, w' = W1.drewN k) := hide (fun j hj W1 => by
    have hx : j % gW < gW := Nat.mod_lt _ (by have := b.wd; omega)
    have hy : j / gW < gH := Nat.div_lt_of_lt_mul (by rw [b.mul]; exact hj)
    have hw := b.wd
    have hh := b.ht
    refine (placeOf_any j gW (by omega) (by omega) (by omega) (by omega) W1).mono ?_
    rintro e w' ⟨rfl, hk⟩
    refine ⟨?_, hk⟩
    have e1 := bv_pow (j % gW) (j / gW) (by omega) (by omega)
    rw [e1])
  have HON : Hid (∀ j, j < n → onB 8 8 ((j % gW : Nat) : Int) ((j / gW : Nat) : Int) = true) := hide (fun j hj => on8_of b.wd.2 b.ht.2 (cl_at (zs := zs) (show 0 < gW by have := b.wd; omega) (by rw [b.mul]; exact hj)).2)
  have HZ : Hid (∀ j, j < n → 0 ≤ zs.getD j 0 ∧ zs.getD j 0 ≤ 2) := hide (fun j hj => b.z _ (by simp [List.getD, b.len, hj]))
  have HALL := hide (fun v s (h : PartI gW zs v n s) => part_all (W := gW) (H := gH) (Z := zs) b.w1 b.ht.2 (v := v) (s := s) (by rw [b.mul]; exact h))
  have HM := hide hm
  dsimp only [brd]
  obtain ⟨so1, ho1⟩ : ∃ s, so gW gH zs m = s := ⟨_, rfl⟩
  obtain ⟨so2, ho2⟩ : ∃ s, so gW gH zs (3 - m) = s := ⟨_, rfl⟩
  obtain ⟨so3, ho3⟩ : ∃ s, so gW gH zs 0 = s := ⟨_, rfl⟩
  have HO1 := hide (fun s h => (HALL.out m s h).trans ho1)
  have HO2 := hide (fun s h => (HALL.out (3 - m) s h).trans ho2)
  have HO3 := hide (fun s h => (HALL.out 0 s h).trans ho3)
  rw [ho1, ho2, ho3]
  clear h hs1 b hm ho1 ho2 ho3 HALL hca hba
  go_enter Tryd.func29, Tryd.ntmps29
  go_upto_region 1 with fail
  clear hw1
  go_wp2_with (refine wpList_load_gd rfl (.tmp 2) rfl w.heap.size rfl G1 ?_)
  refine HMY.out.mono ?_
  rintro e w2 ⟨rfl, hb2⟩
  have HB2 := hide (HB1.out.trans (hb2.mono HB1.out.size))
  have K2 := K1.below hb2 K1.lt
  have G2 := G1.below hb2 G1.lt
  obtain ⟨q0, q1, -⟩ := G2.cells
  rw [h1]
  clear K1 G1 HMY
  go_wp2_with fail
  refine (HSW.out _).mono ?_
  rintro e wx ⟨rfl, hwx⟩
  subst wx
  rw [h2]
  go_wp2_with fail
  refine (HSH.out _).mono ?_
  rintro e wx ⟨rfl, hwx⟩
  subst wx
  rw [h3]
  have HK2 := hide K2
  have HG2 := hide G2
  have HBB := hide hb2
  clear K2 G2 hb2
  go_wp2_with fail
  refine (HIP.out _).mono ?_
  rintro e wx ⟨rfl, hwx⟩
  subst wx
  go_upto_region 6 with fail
  obtain ⟨w3, hw3⟩ : ∃ w3, w2.alloc (.cells #[.int .u64 0, .int .u64 0, .int .u64 0] 55) = w3 := ⟨_, rfl⟩
  obtain ⟨bb, hbb⟩ : ∃ bb, w2.heap.size = bb := ⟨_, rfl⟩
  have HB3 : Hid (Below w.heap.size w w3) := hide (by rw [← hw3]; exact HB2.out.alloc HB2.out.size _)
  have B23 : Below w2.heap.size w2 w3 := by rw [← hw3]; exact (Below.refl _ w2).alloc (Nat.le_refl _) _
  have HK3 : Hid (Bd w3 (w.heap.size + 1) 0 0 0) := hide (HK2.out.below B23 HK2.out.lt)
  have HG3 : Hid (Gd w3 w.heap.size gW gH (some ⟨ba, oa, none⟩) n c) := hide (HG2.out.below B23 HG2.out.lt)
  have HV3 : Hid (Bd w3 bb 0 0 0) := hide (by rw [← hw3, ← hbb]; exact Bd.new w2 0 0 0)
  have HC3 : Hid (∀ i, i < n → w3.cell? ⟨ba, oa + i, none⟩ = some (.int .i64 (zs.getD i 0))) := hide (fun i hi => by
    have := HC1.out i hi
    have h1 := World.block_lt_of_cell? w1 _ this
    have h2 := (HBB.out.cell (p := ⟨ba, oa + i, none⟩) h1).trans this
    exact (B23.cell (p := ⟨ba, oa + i, none⟩) (World.block_lt_of_cell? w2 _ h2)).trans h2)
  have hbs : w.heap.size + 1 < bb ∧ ba < bb := by
    rw [← hbb]
    refine ⟨HK2.out.lt, ?_⟩
    have := World.block_lt_of_cell? w1 _ (HC1.out 0 (by omega))
    have := HBB.out.size
    dsimp only at *
    omega
  rw [hbb, hw3]
  clear hw3 hbb B23 HB2 HBB HK2 HG2 HC1
  obtain ⟨-, -, g2⟩ := HG3.out.cells
  go_wp2_with fail
  clear g2
  go_loopw [33] (fun v wr => ∃ j o t e : Nat, v = .int .i64 j ∧ j ≤ n ∧ Hid (PartI gW zs m j o) ∧ Hid (PartI gW zs (3 - m) j t) ∧ Hid (PartI gW zs 0 j e) ∧ Hid (Bd wr bb o t e) ∧ Hid (Keeps (fun k => k = bb) w3 wr)) (fun v _ => n - (intOf v).toNat)
  case atStart => exact ⟨0, 0, 0, 0, rfl, by omega, hide (part_zero _ _ _), hide (part_zero _ _ _), hide (part_zero _ _ _), HV3, hide (Keeps.refl _ _)⟩
  case round =>
    obtain ⟨j, o, t, e, rfl, hj, hP1, hP2, hP3, hV, hK⟩ := hrel
    by_cases hlt : j < n
    · have hlt' : (j : Int) < (n : Int) := by omega
      have HPj := hide (HPL.out j hlt)
      have HOj := HON.out j hlt
      have cj := hK.out.cell (HC3.out j hlt) (fun e => by dsimp only at e; omega)
      obtain ⟨g0, -, -⟩ := (HG3.out.keeps hK.out (fun e => by omega)).cells
      have HA1 := hide (fun hz => part_yes hP1.out hz HOj)
      have HA2 := hide (fun hz => part_yes hP2.out hz HOj)
      have HA3 := hide (fun hz => part_yes hP3.out hz HOj)
      have HE1 := hide (fun hz => part_no hP1.out hz)
      have HE2 := hide (fun hz => part_no hP2.out hz)
      have HE3 := hide (fun hz => part_no hP3.out hz)
      have hzb := HZ.out j hlt
      have hBb : bv ((j % gW : Nat) : Int) ((j / gW : Nat) : Int) < 18446744073709551616 := by rw [← p64]; exact bv_lt _ _
      obtain ⟨z, hz⟩ : ∃ z, zs.getD j 0 = z := ⟨_, rfl⟩
      rw [hz] at cj HA1 HA2 HA3 HE1 HE2 HE3 hzb
      obtain ⟨B, hB⟩ : ∃ B, bv ((j % gW : Nat) : Int) ((j / gW : Nat) : Int) = B := ⟨_, rfl⟩
      rw [hB] at HPj HA1 HA2 HA3 hBb
      have hm2 := HM.out
      clear hz hB HOj
      obtain ⟨v0, v1, v2⟩ := hV.out.cells
      go_wp2_with fail
      refine (HPj.out _).mono ?_
      rintro e9 w5 ⟨rfl, q, rfl⟩
      have HV5 : Hid (Bd (wr.drewN q) bb o t e) := hide (hV.out.below (drewN_below wr.heap.size wr q) hV.out.lt)
      have HK5 : Hid (Keeps (fun k => k = bb) w3 (wr.drewN q)) := hide (hK.out.trans (Keeps.of_all (drewN_below _ _ _)))
      clear v0 v1 v2 cj g0
      obtain ⟨v0, v1, v2⟩ := HV5.out.cells
      have f0 := HV5.out.frozen 0
      have f1 := HV5.out.frozen 1
      have f2 := HV5.out.frozen 2
      generalize wr.drewN q = w5 at *
      clear hV hK
      by_cases hz0 : z = 0
      · have hb0 : (z == (0 : Int)) = true := by simpa using hz0
        obtain ⟨e', he'⟩ : ∃ e', e ||| B = e' := ⟨_, rfl⟩
        have ee : bits BinOp.or IntKind.u64 (e : Int) (B : Int) = (e' : Int) := by rw [u64_or_nat _ _ (by rw [← p64]; exact hP3.out.1) hBb, he']
        have HQ3 := hide (HA3.out hz0)
        rw [he'] at HQ3
        have HQ1 := hide (HE1.out (by omega))
        have HQ2 := hide (HE2.out (by omega))
        clear hz0 he' HA1 HA2 HA3 HE1 HE2 HE3 hzb
        go_wp2_with fail
        refine ⟨⟨j + 1, o, t, e', by go_num, by omega, HQ1, HQ2, HQ3, hide (HV5.out.set2 e'), hide (HK5.out.setCell (X := fun k => k = bb) rfl _)⟩, by simp [intOf]; omega⟩
      · have hb0 : (z == (0 : Int)) = false := by simpa using hz0
        by_cases hzm : z = (m : Int)
        · have hbm : (z == (m : Int)) = true := by simpa using hzm
          obtain ⟨e', he'⟩ : ∃ e', o ||| B = e' := ⟨_, rfl⟩
          have ee : bits BinOp.or IntKind.u64 (o : Int) (B : Int) = (e' : Int) := by rw [u64_or_nat _ _ (by rw [← p64]; exact hP1.out.1) hBb, he']
          have HQ1 := hide (HA1.out hzm)
          rw [he'] at HQ1
          have HQ2 := hide (HE2.out (by omega))
          have HQ3 := hide (HE3.out (by omega))
          clear hz0 hzm he' HA1 HA2 HA3 HE1 HE2 HE3 hzb
          go_wp2_with fail
          refine ⟨⟨j + 1, e', t, e, by go_num, by omega, HQ1, HQ2, HQ3, hide (HV5.out.set0 e'), hide (HK5.out.setCell (X := fun k => k = bb) rfl _)⟩, by simp [intOf]; omega⟩
        · have hbm : (z == (m : Int)) = false := by simpa using hzm
          obtain ⟨e', he'⟩ : ∃ e', t ||| B = e' := ⟨_, rfl⟩
          have ee : bits BinOp.or IntKind.u64 (t : Int) (B : Int) = (e' : Int) := by rw [u64_or_nat _ _ (by rw [← p64]; exact hP2.out.1) hBb, he']
          have HQ2 := hide (HA2.out (by omega))
          rw [he'] at HQ2
          have HQ1 := hide (HE1.out hzm)
          have HQ3 := hide (HE3.out hz0)
          clear hz0 hzm he' HA1 HA2 HA3 HE1 HE2 HE3 hzb
          go_wp2_with fail
          refine ⟨⟨j + 1, o, e', e, by go_num, by omega, HQ1, HQ2, HQ3, hide (HV5.out.set1 e'), hide (HK5.out.setCell (X := fun k => k = bb) rfl _)⟩, by simp [intOf]; omega⟩
    · have hlt' : ¬ (j : Int) < (n : Int) := by omega
      obtain rfl : j = n := by omega
      obtain rfl := HO1.out _ hP1.out
      obtain rfl := HO2.out _ hP2.out
      obtain rfl := HO3.out _ hP3.out
      have V := hV.out
      have KZ := HK3.out.keeps hK.out (fun e => by omega)
      go_wp2_with (first
        | refine wpList_load_bd rfl (.tmp 6) rfl bb rfl V ?_
        | (refine wpList_store_bd rfl (.tmp 4) (.tmp 64) rfl (w.heap.size + 1) rfl rfl KZ ?_; intro w6 k6 kk6))
      refine bodyPost_ret (results_bdt rfl _ _ (w.heap.size + 1) rfl k6 rfl) rfl ⟨rfl, ?_⟩
      have h6 : Keeps (fun q => w.heap.size ≤ q) w3 w6 := (hK.out.mono (fun q _ e => by omega)).trans (kk6.mono (fun q _ e => by omega))
      exact HB3.out.trans (h6.below (B := w.heap.size) HB3.out.size (fun q hq e => by omega))

end Go.Proofs.YtkmghlmniahgbaaDoor
