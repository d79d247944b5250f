/-
  What comes of a game: rows.Solve. No conditions beyond those that each theorem bears.
-/
import Derived.Test.YthdnbbjehcicbaaDoorMov
import Derived.Test.YthdnbbjehcicbaaDoorWinsLaw
namespace Go.Proofs.YthdnbbjehcicbaaDoor
open Go.RowKit

theorem size55 : (Tryd.prog.info? 55).map (·.size) = some 6 := by kernel_rfl

theorem build55 (W H k : Int) (a b : Option Addr) (n c m d mb : Nat) (w : World) : (Instr.build 55 #[(0, .agg #[.int .i64 W, .int .i64 H, .slice a n c]), (1, .int .i64 k), (2, .slice b m d), (3, .map (some mb))]).run Tryd.prog w = .ok (.agg #[.int .i64 W, .int .i64 H, .slice a n c, .int .i64 k, .slice b m d, .map (some mb)]) w := by
  simp [Instr.build, go_sem, run_underlying Tryd.underlying55]

set_option maxHeartbeats 1000000 in
theorem Solve_no (W H : Int) (a : Option Addr) (n c : Nat) (zs : List Int) (k : Int) (w : World) (h : Rd w a n c zs) (hE : fltG W H zs k ≠ 0) :
    Calls Tryd.prog 12 #[.agg (gdA W H a n c), .int .i64 k] w fun e w' => e = .returned (.tuple #[.int .i64 0, .slice none 0 0, .int .i64 (fltG W H zs k)]) ∧ Below w.heap.size w w' := by
  have HF := hide (fun w1 (hb : Below w.heap.size w w1) => fault_any W H a n c zs k w1 (h.mono hb))
  have HB0 : Hid (Below w.heap.size w (w.alloc (.cells (gdA W H a n c) 24))) := hide ((Below.refl _ _).alloc (Nat.le_refl _) _)
  have HG0 := hide (Gd.new w W H a n c)
  clear h
  generalize fltG W H zs k = R at *
  have hne : (R != 0) = true := by simpa using hE
  clear hE
  go_enter Tryd.func12, Tryd.ntmps12
  have G0 := HG0.out
  go_wp2_with (refine wpList_load_gd rfl (.tmp 2) rfl w.heap.size rfl G0 ?_)
  clear G0
  refine (HF.out _ HB0.out).mono ?_
  rintro e w2 ⟨rfl, hb2⟩
  have HG2 := hide (HG0.out.below hb2 HG0.out.lt)
  have HB2 := hide (HB0.out.trans (hb2.mono HB0.out.size))
  clear hb2 HB0 HF HG0
  go_wp2_with fail
  go_ret3
  exact ⟨rfl, HB2.out⟩

attribute [local irreducible] inR val nE mvr ky Mp mvv bsj cnt emp mvO prt sg wn

set_option maxRecDepth 100000 in
set_option maxHeartbeats 4000000 in
theorem Solve_turn (W H : Nat) (a : Option Addr) (n c : Nat) (zs : List Int) (k : Nat) (hmay : mayP W H zs) (hk : 1 ≤ k ∧ k ≤ 10) (w : World) (h : Rd w a n c zs) (h0 : mvO zs = 0) :
    Calls Tryd.prog 12 #[.agg (gdA W H a n c), .int .i64 k] w fun e w' => e = .returned (.tuple #[.int .i64 0, .slice none 0 0, .int .i64 7]) ∧ Below w.heap.size w w' := by
  have hflt : fltG W H zs k = 0 := by unfold fltG; rw [if_pos (mayG_yes hmay), if_pos (by omega)]
  obtain ⟨gW, gH, eW, eH, hgW, hgH, hm, hz⟩ := may_nat hmay
  have hn100 : n ≤ 100 := by
    have := h.len
    have : gW * gH ≤ 10 * 10 := Nat.mul_le_mul hgW.2 hgH.2
    omega
  have hlen := h.len
  rw [hlen] at hz
  have HF := hide (fun w1 (hb : Below w.heap.size w w1) => fault_any W H a n c zs k w1 (h.mono hb))
  have HB0 : Hid (Below w.heap.size w (w.alloc (.cells (gdA W H a n c) 24))) := hide ((Below.refl _ _).alloc (Nat.le_refl _) _)
  have HG0 := hide (Gd.new w W H a n c)
  rw [hflt] at HF
  have HMO := hide (fun w1 (hb : Below w.heap.size w w1) => moverOf_any W H a n c zs hn100 hz w1 (h.mono hb))
  rw [h0] at HMO
  clear h hflt hmay h0 hz hm hlen eW eH hgW hgH gW gH
  go_enter Tryd.func12, Tryd.ntmps12
  have G0 := HG0.out
  go_wp2_with (refine wpList_load_gd rfl (.tmp 2) rfl w.heap.size rfl G0 ?_)
  clear G0
  refine (HF.out _ HB0.out).mono ?_
  rintro e w2 ⟨rfl, hb2⟩
  have HG2 := hide (HG0.out.below hb2 HG0.out.lt)
  have HB2 := hide (HB0.out.trans (hb2.mono HB0.out.size))
  clear hb2 HB0 HF HG0
  have G2 := HG2.out
  go_wp2_with (refine wpList_load_gd rfl (.tmp 2) rfl w.heap.size rfl G2 ?_)
  clear G2
  refine (HMO.out _ HB2.out).mono ?_
  rintro e w3 ⟨rfl, hb3⟩
  have HG3 := hide (HG2.out.below hb3 HG2.out.lt)
  have HB3 := hide (HB2.out.trans (hb3.mono HB2.out.size))
  clear hb3 HB2 HMO HG2
  go_wp2_with fail
  go_ret3
  exact ⟨rfl, HB3.out⟩

set_option maxRecDepth 100000 in
set_option maxHeartbeats 4000000 in
theorem Solve_size (W H : Nat) (a : Option Addr) (n c : Nat) (zs : List Int) (k : Nat) (hmay : mayP W H zs) (hk : 1 ≤ k ∧ k ≤ 10) (w : World) (h : Rd w a n c zs) (h0 : mvO zs ≠ 0) (h9 : 9 < (emp zs n).length) :
    Calls Tryd.prog 12 #[.agg (gdA W H a n c), .int .i64 k] w fun e w' => e = .returned (.tuple #[.int .i64 0, .slice none 0 0, .int .i64 2]) ∧ Below w.heap.size w w' := by
  have hflt : fltG W H zs k = 0 := by unfold fltG; rw [if_pos (mayG_yes hmay), if_pos (by omega)]
  obtain ⟨gW, gH, eW, eH, hgW, hgH, hm, hz⟩ := may_nat hmay
  have hn100 : n ≤ 100 := by
    have := h.len
    have : gW * gH ≤ 10 * 10 := Nat.mul_le_mul hgW.2 hgH.2
    omega
  have hlen := h.len
  rw [hlen] at hz
  have HF := hide (fun w1 (hb : Below w.heap.size w w1) => fault_any W H a n c zs k w1 (h.mono hb))
  have HB0 : Hid (Below w.heap.size w (w.alloc (.cells (gdA W H a n c) 24))) := hide ((Below.refl _ _).alloc (Nat.le_refl _) _)
  have HG0 := hide (Gd.new w W H a n c)
  rw [hflt] at HF
  have HMO := hide (fun w1 (hb : Below w.heap.size w w1) => moverOf_any W H a n c zs hn100 hz w1 (h.mono hb))
  have HEM := hide (fun w1 (hb : Below w.heap.size w w1) => emptyPlaces_any W H a n c zs hn100 w1 (h.mono hb))
  have hml := emp_len zs n
  generalize mvO zs = M at *
  generalize (emp zs n).length = E at *
  have hM : ((M : Int) == 0) = false := by simp; omega
  have h9' : (9 : Int) < (E : Int) := by omega
  clear h hflt hmay h0 hz hm hlen eW eH hgW hgH gW gH
  go_enter Tryd.func12, Tryd.ntmps12
  have G0 := HG0.out
  go_wp2_with (refine wpList_load_gd rfl (.tmp 2) rfl w.heap.size rfl G0 ?_)
  clear G0
  refine (HF.out _ HB0.out).mono ?_
  rintro e w2 ⟨rfl, hb2⟩
  have HG2 := hide (HG0.out.below hb2 HG0.out.lt)
  have HB2 := hide (HB0.out.trans (hb2.mono HB0.out.size))
  clear hb2 HB0 HF HG0
  have G2 := HG2.out
  go_wp2_with (refine wpList_load_gd rfl (.tmp 2) rfl w.heap.size rfl G2 ?_)
  clear G2
  refine (HMO.out _ HB2.out).mono ?_
  rintro e w3 ⟨rfl, hb3⟩
  have HG3 := hide (HG2.out.below hb3 HG2.out.lt)
  have HB3 := hide (HB2.out.trans (hb3.mono HB2.out.size))
  clear hb3 HB2 HMO HG2
  have G3 := HG3.out
  go_wp2_with (refine wpList_load_gd rfl (.tmp 2) rfl w.heap.size rfl G3 ?_)
  clear G3
  refine (HEM.out _ HB3.out).mono ?_
  rintro e w4 ⟨oa, oc, rfl, hO4, hb4⟩
  have HG4 := hide (HG3.out.below hb4 HG3.out.lt)
  have HB4 := hide (HB3.out.trans (hb4.mono HB3.out.size))
  have hw34 := hb4.size
  have hgs3 := HG3.out.lt
  clear hb4 HB3 HEM HG3
  clear hO4
  go_wp2_with fail
  go_ret3
  exact ⟨rfl, HB4.out⟩

theorem wpList_store_gp {ops : Array Oper} {rest : List Oper} {o : Oper} {a : Act} {w : World} {Q : Exit → Act → World → Prop} (hgd : o.guard = none) (x y : Operand) (ho : o.op = .store 55 x y)
    (b : Nat) (C D : Array Value) (hC : C.size = 6) (hD : D.size = 6) (hone : C.all (·.oneCell') = true) (hx : a.eval x = .pointer (some ⟨b, 0, none⟩)) (hy : a.eval y = .agg C) (hb : w.heap[b]? = some (.cells D 55 (0, 0)))
    (h : ∀ w', w'.heap[b]? = some (.cells C 55 (0, 0)) → Keeps (fun k => k = b) w w' → wpList Tryd.prog ops Q rest (a.put o.dst undef) w') : wpList Tryd.prog ops Q (o :: rest) a w := by
  refine wpList_plain hgd fun _ hK => ?_
  refine wp_store_row 55 x y ho b C hx hy 55 _ hb (by rw [hC]; exact size55) (by rw [hC, hD]) hone ?_
  refine hK _ _ (h _ ?_ ?_)
  · simp [World.setRow, Array.getElem?_modify, hb]
  · exact ⟨rfl, rfl, rfl, by simp [World.setRow], fun k _ hk => by simp [World.setRow, Array.getElem?_modify, show ¬ b = k from fun e => hk e.symm]⟩

/-- Where somebody has a row. -/
def ovr (V M : Nat) : Int := if V = M then 1 else -1

set_option maxRecDepth 100000 in
set_option maxHeartbeats 4000000 in
theorem Solve_over (W H : Nat) (a : Option Addr) (n c : Nat) (zs : List Int) (k : Nat) (hmay : mayP W H zs) (hk : 1 ≤ k ∧ k ≤ 10) (w : World) (hT : Tab w) (h : Rd w a n c zs) (h0 : mvO zs ≠ 0) (h9 : (emp zs n).length ≤ 9) (hw : wn (sg zs (prt W H zs k n)) ≠ 0) :
    Calls Tryd.prog 12 #[.agg (gdA W H a n c), .int .i64 k] w fun e w' => e = .returned (.tuple #[.int .i64 (ovr (wn (sg zs (prt W H zs k n))) (mvO zs)), .slice none 0 0, .int .i64 0]) ∧ Below w.heap.size w w' := by
  have hflt : fltG W H zs k = 0 := by unfold fltG; rw [if_pos (mayG_yes hmay), if_pos (by omega)]
  obtain ⟨gW, gH, eW, eH, hgW, hgH, hm, hz⟩ := may_nat hmay
  have hn100 : n ≤ 100 := by
    have := h.len
    have : gW * gH ≤ 10 * 10 := Nat.mul_le_mul hgW.2 hgH.2
    omega
  have hlen := h.len
  rw [hlen] at hz
  have HF := hide (fun w1 (hb : Below w.heap.size w w1) => fault_any W H a n c zs k w1 (h.mono hb))
  have HB0 : Hid (Below w.heap.size w (w.alloc (.cells (gdA W H a n c) 24))) := hide ((Below.refl _ _).alloc (Nat.le_refl _) _)
  have HG0 := hide (Gd.new w W H a n c)
  rw [hflt] at HF
  have HMO := hide (fun w1 (hb : Below w.heap.size w w1) => moverOf_any W H a n c zs hn100 hz w1 (h.mono hb))
  have HEM := hide (fun w1 (hb : Below w.heap.size w w1) => emptyPlaces_any W H a n c zs hn100 w1 (h.mono hb))
  have HWO := hide (fun w1 (hb : Below w.heap.size w w1) => Won_yes W H a n c k zs hmay hk w1 (hT.mono hb) (h.mono hb))
  have hml := emp_len zs n
  generalize mvO zs = M at *
  generalize emp zs n = EL at *
  generalize wn (sg zs (prt W H zs k n)) = V at *
  generalize prt W H zs k n = PL at *
  have hM : ((M : Int) == 0) = false := by simp; omega
  have h9' : ¬ (9 : Int) < (EL.length : Int) := by omega
  have hVb : ((V : Int) == 0) = false := by simp; omega
  have HOV : Hid (ovr V M = if V = M then 1 else -1) := hide rfl
  obtain ⟨R, hR⟩ : ∃ R, ovr V M = R := ⟨_, rfl⟩
  rw [hR] at HOV ⊢
  clear h hflt hmay h0 hz hm hlen eW eH hgW hgH gW gH hT hR
  go_enter Tryd.func12, Tryd.ntmps12
  have G0 := HG0.out
  go_wp2_with (refine wpList_load_gd rfl (.tmp 2) rfl w.heap.size rfl G0 ?_)
  clear G0
  refine (HF.out _ HB0.out).mono ?_
  rintro e w2 ⟨rfl, hb2⟩
  have HG2 := hide (HG0.out.below hb2 HG0.out.lt)
  have HB2 := hide (HB0.out.trans (hb2.mono HB0.out.size))
  clear hb2 HB0 HF HG0
  have G2 := HG2.out
  go_wp2_with (refine wpList_load_gd rfl (.tmp 2) rfl w.heap.size rfl G2 ?_)
  clear G2
  refine (HMO.out _ HB2.out).mono ?_
  rintro e w3 ⟨rfl, hb3⟩
  have HG3 := hide (HG2.out.below hb3 HG2.out.lt)
  have HB3 := hide (HB2.out.trans (hb3.mono HB2.out.size))
  clear hb3 HB2 HMO HG2
  have G3 := HG3.out
  go_wp2_with (refine wpList_load_gd rfl (.tmp 2) rfl w.heap.size rfl G3 ?_)
  clear G3
  refine (HEM.out _ HB3.out).mono ?_
  rintro e w4 ⟨oa, oc, rfl, hO4, hb4⟩
  have HG4 := hide (HG3.out.below hb4 HG3.out.lt)
  have HB4 := hide (HB3.out.trans (hb4.mono HB3.out.size))
  have hw34 := hb4.size
  have hgs3 := HG3.out.lt
  clear hb4 HB3 HEM HG3
  have HO4 := hide hO4
  clear hO4
  have G4 := HG4.out
  go_wp2_with (refine wpList_load_gd rfl (.tmp 2) rfl w.heap.size rfl G4 ?_)
  clear G4
  refine (HWO.out _ HB4.out).mono ?_
  rintro e w5 ⟨aw, cw, rfl, hRw, hb5⟩
  have HG5 := hide (HG4.out.below hb5 HG4.out.lt)
  have HB5 := hide (HB4.out.trans (hb5.mono HB4.out.size))
  have HO5 := hide (own_below HO4.out hb5)
  have hw45 := hb5.size
  clear hb5 hRw HB4 HWO HG4 HO4
  have hr := HOV.out
  by_cases hVM : V = M
  · rw [if_pos hVM] at hr
    subst hr
    have hb : ((V : Int) == (M : Int)) = true := by simp; omega
    have HVM := hide hVM
    clear hVM
    go_wp2_with fail
    go_ret3
    exact ⟨rfl, HB5.out⟩
  · rw [if_neg hVM] at hr
    subst hr
    have hb : ((V : Int) == (M : Int)) = false := by simp; omega
    go_wp2_with fail
    go_ret3
    exact ⟨rfl, HB5.out⟩

set_option maxRecDepth 100000 in
set_option maxHeartbeats 4000000 in
theorem Solve_game (W H : Nat) (a : Option Addr) (n c : Nat) (zs : List Int) (k : Nat) (hmay : mayP W H zs) (hk : 1 ≤ k ∧ k ≤ 10) (w : World) (hT : Tab w) (h : Rd w a n c zs) (h0 : mvO zs ≠ 0) (h9 : (emp zs n).length ≤ 9) (hw : wn (sg zs (prt W H zs k n)) = 0) :
    Calls Tryd.prog 12 #[.agg (gdA W H a n c), .int .i64 k] w fun e w' => ∃ a' c', e = .returned (.tuple #[.int .i64 (bsj W H k (val W H k (emp zs n) ((emp zs n).length - 1)) (emp zs n) zs (mvO zs) (emp zs n).length).1, .slice a' (bsj W H k (val W H k (emp zs n) ((emp zs n).length - 1)) (emp zs n) zs (mvO zs) (emp zs n).length).2.length c', .int .i64 0])
      ∧ Rd w' a' (bsj W H k (val W H k (emp zs n) ((emp zs n).length - 1)) (emp zs n) zs (mvO zs) (emp zs n).length).2.length c' (toI (bsj W H k (val W H k (emp zs n) ((emp zs n).length - 1)) (emp zs n) zs (mvO zs) (emp zs n).length).2) ∧ Below w.heap.size w w' := by
  have hflt : fltG W H zs k = 0 := by unfold fltG; rw [if_pos (mayG_yes hmay), if_pos (by omega)]
  obtain ⟨gW, gH, eW, eH, hgW, hgH, hm, hz⟩ := may_nat hmay
  obtain rfl : W = gW := by omega
  obtain rfl : H = gH := by omega
  clear eW eH
  have hlen := h.len
  rw [hlen] at hz hm
  have hn100 : n ≤ 100 := by
    have : W * H ≤ 10 * 10 := Nat.mul_le_mul hgW.2 hgH.2
    omega
  have hn1 : 0 < n := by
    have : 1 * 1 ≤ W * H := Nat.mul_le_mul hgW.1 hgH.1
    omega
  have hm12 : mvO zs = 1 ∨ mvO zs = 2 := by
    have hx : mvO zs = if cnt zs 1 zs.length = cnt zs 2 zs.length then 1 else if cnt zs 1 zs.length = cnt zs 2 zs.length + 1 then 2 else 0 := by rw [mvO]
    rw [hx] at h0 ⊢
    split
    · exact Or.inl rfl
    · rename_i h1
      rw [if_neg h1] at h0
      split
      · exact Or.inr rfl
      · rename_i h2; rw [if_neg h2] at h0; exact absurd rfl h0
  have HEE : Hid (nE (emp zs n) zs = (emp zs n).length) := hide (by
    rw [nE, List.filter_eq_self.2]
    intro p hp
    simpa using (emp_mem.1 hp).2)
  have HMV : Hid (mvO zs = mvr (emp zs n) (mvO zs) zs) := hide (by rw [mvr, HEE.out, Nat.sub_self, if_pos rfl])
  have HRC : Hid (Rc (emp zs n) zs zs) := hide ⟨rfl, fun _ _ => rfl, fun p hp => hz p (by omega)⟩
  have HND := hide (emp_nodup zs n)
  have HLT : Hid (∀ p, p ∈ emp zs n → p < n) := hide (fun p hp => (emp_mem.1 hp).1)
  have HF := hide (fun w1 (hb : Below w.heap.size w w1) => fault_any W H a n c zs k w1 (h.mono hb))
  have HB0 : Hid (Below w.heap.size w (w.alloc (.cells (gdA W H a n c) 24))) := hide ((Below.refl _ _).alloc (Nat.le_refl _) _)
  have HG0 := hide (Gd.new w W H a n c)
  rw [hflt] at HF
  have HMO := hide (fun w1 (hb : Below w.heap.size w w1) => moverOf_any W H a n c zs hn100 hz w1 (h.mono hb))
  have HEM := hide (fun w1 (hb : Below w.heap.size w w1) => emptyPlaces_any W H a n c zs hn100 w1 (h.mono hb))
  have HWO := hide (fun w1 (hb : Below w.heap.size w w1) => Won_yes W H a n c k zs hmay hk w1 (hT.mono hb) (h.mono hb))
  rw [hw] at HWO
  have hcm := h.max
  unfold maxLen at hcm
  have hcc := h.cap
  obtain ⟨ba, oa0, rfl, hca⟩ := h.cells hn1
  have hba := World.block_lt_of_cell? w _ (hca 0 hn1)
  have HCL := hide (fun w1 (hb : Below w.heap.size w w1) => Tryd.slices_Clone_int ba oa0 n c zs w1 (by omega) (by omega) (fun j hj => (hb.cell (p := ⟨ba, oa0 + j, none⟩) hba).trans (hca j (by omega))))
  rw [List.take_of_length_le (by omega)] at HCL
  have HT := hide hT
  have HLEN := hide hlen
  generalize hMe : mvO zs = M at *
  generalize hELe : emp zs n = EL at *
  generalize prt W H zs k n = PL at *
  have hMb : ((M : Int) == 0) = false := by simp; omega
  have h9' : ¬ (9 : Int) < (EL.length : Int) := by omega
  have hmm := @run_makeMap Tryd.prog
  have hT0 := hT.lt
  clear h hflt hmay h0 hz hT hca hMe hELe hw
  have HHM := hide hm
  clear hm
  obtain ⟨BS, hBS⟩ : ∃ BS, bsj W H k (val W H k EL (EL.length - 1)) EL zs M EL.length = BS := ⟨_, rfl⟩
  rw [hBS]
  obtain ⟨bv, bl⟩ := BS
  have HBS := hide hBS
  clear hBS
  go_enter Tryd.func12, Tryd.ntmps12
  have G0 := HG0.out
  go_wp2_with (refine wpList_load_gd rfl (.tmp 2) rfl w.heap.size rfl G0 ?_)
  clear G0
  refine (HF.out _ HB0.out).mono ?_
  rintro e w2 ⟨rfl, hb2⟩
  have HG2 := hide (HG0.out.below hb2 HG0.out.lt)
  have HB2 := hide (HB0.out.trans (hb2.mono HB0.out.size))
  clear hb2 HB0 HF HG0
  have G2 := HG2.out
  go_wp2_with (refine wpList_load_gd rfl (.tmp 2) rfl w.heap.size rfl G2 ?_)
  clear G2
  refine (HMO.out _ HB2.out).mono ?_
  rintro e w3 ⟨rfl, hb3⟩
  have HG3 := hide (HG2.out.below hb3 HG2.out.lt)
  have HB3 := hide (HB2.out.trans (hb3.mono HB2.out.size))
  clear hb3 HB2 HMO HG2
  have G3 := HG3.out
  go_wp2_with (refine wpList_load_gd rfl (.tmp 2) rfl w.heap.size rfl G3 ?_)
  clear G3
  refine (HEM.out _ HB3.out).mono ?_
  rintro e w4 ⟨oa, oc, rfl, hO4, hb4⟩
  have HG4 := hide (HG3.out.below hb4 HG3.out.lt)
  have HB4 := hide (HB3.out.trans (hb4.mono HB3.out.size))
  have hw34 := hb4.size
  have hgs3 := HG3.out.lt
  clear hb4 HB3 HEM HG3
  have HO4 := hide hO4
  have HOAB : Hid (∀ b off, oa = some ⟨b, off, none⟩ → w.heap.size < b ∧ b < w4.heap.size) := hide (fun b off e => by
    rcases hO4.2 with ⟨e2, _⟩ | ⟨g', cap, cur, e2, h1, h2, _⟩
    · rw [e] at e2; cases e2
    · rw [e] at e2
      simp only [Value.slice.injEq, Option.some.injEq, Addr.mk.injEq] at e2
      obtain ⟨⟨rfl, _⟩, _⟩ := e2
      exact ⟨by omega, (Array.getElem?_eq_some_iff.1 h2).1⟩)
  clear hO4
  have G4 := HG4.out
  go_wp2_with (refine wpList_load_gd rfl (.tmp 2) rfl w.heap.size rfl G4 ?_)
  clear G4
  refine (HWO.out _ HB4.out).mono ?_
  rintro e w5 ⟨aw, cw, rfl, hRw, hb5⟩
  have HG5 := hide (HG4.out.below hb5 HG4.out.lt)
  have HB5 := hide (HB4.out.trans (hb5.mono HB4.out.size))
  have HO5 := hide (own_below HO4.out hb5)
  have hw45 := hb5.size
  clear hb5 hRw HB4 HWO HG4 HO4
  obtain ⟨-, -, g5⟩ := HG5.out.cells
  go_wp2_with fail
  refine (HCL.out _ HB5.out).mono ?_
  rintro e w6 ⟨v6, rfl, hO6, -, hb6⟩
  obtain ⟨a6, c6, rfl⟩ := slice_form hO6
  obtain ⟨cb, rfl, hcb1, hcb2⟩ : ∃ cb, a6 = some ⟨cb, 0, none⟩ ∧ w5.heap.size ≤ cb ∧ cb < w6.heap.size := by
    rcases hO6.2 with ⟨_, e0⟩ | ⟨g', cap, cur, e, h1, h2, _⟩
    · omega
    · simp only [Value.slice.injEq] at e
      exact ⟨g', e.1, h1, (Array.getElem?_eq_some_iff.1 h2).1⟩
  have hGl := HG5.out.lt
  have HG6 := hide (HG5.out.below hb6 hGl)
  have HB6 := hide (HB5.out.trans (hb6.mono HB5.out.size))
  have HP6 := hide (own_below HO5.out hb6)
  have HO6 := hide hO6
  have hw56 := hb6.size
  clear hb6 hO6 HG5 HB5 HO5 HCL g5
  obtain ⟨-, -, g6⟩ := HG6.out.cells
  have f6 := HG6.out.frozen 2
  go_upto_region 14 with fail
  clear g6 f6
  obtain ⟨w7, hw7⟩ : ∃ w7, w6.setCell ⟨w.heap.size, 2, none⟩ (.slice (some ⟨cb, 0, none⟩) n c6) = w7 := ⟨_, rfl⟩
  have hk7 : Keeps (fun q => q = w.heap.size) w6 w7 := by rw [← hw7]; exact Keeps.set1 _ _ _ _
  have HG7 : Hid (Gd w7 w.heap.size W H (some ⟨cb, 0, none⟩) n c6) := hide (by rw [← hw7]; exact HG6.out.setP _ _ _)
  have HB7 : Hid (Below w.heap.size w w7) := hide (by rw [← hw7]; exact HB6.out.setCell (p := ⟨w.heap.size, 2, none⟩) (Nat.le_refl _) _)
  have hs7 : w7.heap.size = w6.heap.size := by rw [← hw7]; simp
  rw [hw7]
  have HS7 := hide hs7
  clear hw7 hs7
  have bb := build55 W H k (some ⟨cb, 0, none⟩) oa n c6 EL.length oc w7.heap.size
  have G7 := HG7.out
  go_upto_region 15 with (refine wpList_load_gd rfl (.tmp 2) rfl w.heap.size rfl G7 ?_)
  clear G7 bb hmm
  have hs7 := HS7.out
  obtain ⟨w10, hw10⟩ : ∃ w10, (w7.alloc (.map #[] 0)).alloc (.cells #[.int .i64 W, .int .i64 H, .slice (some ⟨cb, 0, none⟩) n c6, .int .i64 k, .slice oa EL.length oc, .map (some w7.heap.size)] 55) = w10 := ⟨_, rfl⟩
  rw [hw10]
  have hb10 : w10.heap[w7.heap.size + 1]? = some (.cells #[.int .i64 W, .int .i64 H, .slice (some ⟨cb, 0, none⟩) n c6, .int .i64 k, .slice oa EL.length oc, .map (some w7.heap.size)] 55 (0, 0)) := by
    have := heap_alloc_new (w7.alloc (.map #[] 0)) (.cells #[.int .i64 W, .int .i64 H, .slice (some ⟨cb, 0, none⟩) n c6, .int .i64 k, .slice oa EL.length oc, .map (some w7.heap.size)] 55)
    rw [World.size_alloc, hw10] at this
    exact this
  have B10 : Below w7.heap.size w7 w10 := by rw [← hw10]; exact ((Below.refl _ w7).alloc (Nat.le_refl _) _).alloc (by simp) _
  have HM10 : Hid (Mp W H k EL zs M w10 w7.heap.size) := hide (by
    have h1 : Mp W H k EL zs M (w7.alloc (.map #[] 0)) w7.heap.size := Mp.made w7
    rw [← hw10]
    exact h1.below ((Below.refl _ _).alloc (Nat.le_refl _) _) h1.lt)
  clear hw10
  have HC10 : Hid (w10.ownsRow 0 3 1 (.slice (some ⟨cb, 0, none⟩) n c6) n (zs.map (Value.int .i64))) := hide (own_base (own_below (own_blk HO6.out (fun q hq => by
    simp only [Value.ownBlock, Option.some.injEq] at hq
    exact hk7.block q (by omega) (by omega))) B10) (Nat.zero_le _))
  have HP10 : Hid (Rd w10 oa EL.length oc (toI EL)) := hide ((Rd.of_own (own_blk HP6.out (fun q hq => by
    cases oa with
    | none => cases hq
    | some ad =>
      obtain ⟨gq, rfl⟩ : ∃ gq, ad = ⟨gq, 0, none⟩ := by
        rcases HP6.out.2 with ⟨e2, _⟩ | ⟨g', cap, cur, e2, _⟩
        · cases e2
        · simp only [Value.slice.injEq, Option.some.injEq] at e2; exact ⟨g', e2.1⟩
      simp only [Value.ownBlock, Option.some.injEq] at hq
      have := HOAB.out gq 0 rfl
      exact hk7.block q (by omega) (by omega)))).mono B10)
  have HB10 : Hid (Below w.heap.size w w10) := hide (HB7.out.trans (B10.mono (by have := HB7.out.size; omega)))
  have hBs := HB6.out.size
  have hb4s : w.heap.size < w4.heap.size := by omega
  have hok : Gp.Ok (Gp.mk W H k n c6 EL.length oc (w7.heap.size + 1) cb w7.heap.size M oa EL zs) := ⟨hgW, hgH, HHM.out, hk, hm12, HLEN.out, rfl, h9, HND.out, HLT.out, by show w7.heap.size + 1 ≠ cb; omega, by show w7.heap.size + 1 ≠ w7.heap.size; omega, by show cb ≠ w7.heap.size; omega, by show cb ≠ 0; omega, by show w7.heap.size ≠ 0; omega, fun b off e => by
    have := HOAB.out b off e
    exact ⟨by show b ≠ cb; omega, by show b ≠ w7.heap.size; omega⟩⟩
  have hgs : GS (Gp.mk W H k n c6 EL.length oc (w7.heap.size + 1) cb w7.heap.size M oa EL zs) w10 zs := ⟨hb10, HC10.out, HP10.out, HM10.out, HT.out.mono HB10.out⟩
  have HBE : Hid (Calls Tryd.prog 31 #[.pointer (some ⟨w7.heap.size + 1, 0, none⟩), .int .i64 (M : Nat)] w10 fun r w' => ∃ a' c', r = .returned (.tuple #[.int .i64 (bsj W H k (val W H k EL (EL.length - 1)) EL zs M EL.length).1, .slice a' (bsj W H k (val W H k EL (EL.length - 1)) EL zs M EL.length).2.length c']) ∧ w'.ownsRow w10.heap.size 3 1 (.slice a' (bsj W H k (val W H k EL (EL.length - 1)) EL zs M EL.length).2.length c') (bsj W H k (val W H k EL (EL.length - 1)) EL zs M EL.length).2.length ((toI (bsj W H k (val W H k EL (EL.length - 1)) EL zs M EL.length).2).map (Value.int .i64)) ∧ GS (Gp.mk W H k n c6 EL.length oc (w7.heap.size + 1) cb w7.heap.size M oa EL zs) w' zs ∧ Keeps (Gp.X (Gp.mk W H k n c6 EL.length oc (w7.heap.size + 1) cb w7.heap.size M oa EL zs)) w10 w') := hide ((search_ok _ hok EL.length).1 zs M w10 HRC.out HEE.out HMV.out hgs)
  have HXB : Hid (∀ w', Keeps (Gp.X (Gp.mk W H k n c6 EL.length oc (w7.heap.size + 1) cb w7.heap.size M oa EL zs)) w10 w' → Below w.heap.size w w') := hide (fun w' hk => HB10.out.trans (hk.below HB10.out.size (fun q hq e => by
    rcases e with e | e
    · have : q = cb := e; omega
    · have : q = w7.heap.size := e; omega)))
  rw [HBS.out] at HBE
  clear hok hgs HM10 HC10 HP10 B10 HO6 HP6 HG6 HB6 HG7 hb10 hk7 HB7 hs7
  go_wp2_with fail
  refine HBE.out.mono ?_
  rintro e w11 ⟨a11, c11, rfl, hO11, -, hk11⟩
  have HB11 := hide (HXB.out w11 hk11)
  have HO11 := hide (Rd.of_own hO11)
  clear hO11 hk11 HXB HBE
  go_wp2_with fail
  go_ret3
  exact ⟨a11, c11, rfl, HO11.out, HB11.out⟩

end Go.Proofs.YthdnbbjehcicbaaDoor
