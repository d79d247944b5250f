/-
  othello.Put, where the move may be, walked. No conditions beyond those that the theorem bears.
-/
import Derived.Test.YtkmghlmniahgbaaDoorPu
namespace Go.Proofs.YtkmghlmniahgbaaDoor
open Go.RowKit Go.Shelf
attribute [local irreducible] mvS bln sps num bv tnS mvT pz stL
attribute [local go_sem] build24z Oper.semAt_some wide_fn wide_fn0 wide_depth

set_option maxRecDepth 100000 in
set_option maxHeartbeats 8000000 in
theorem Put_yes (gW gH : Nat) (a : Option Addr) (n c : Nat) (zs : List Int) (m p : Nat) (w : World) (hT : DTab w) (hTz : TzT w) (h : Rd w a n c zs) (b : Og gW gH n zs) (hm : m = 1 ∨ m = 2) (hp : p < n) (hin : p ∈ sps gW gH zs m) :
    Calls Tryd.prog 11 #[.agg (gdA gW gH a n c), .int .i64 (m : Nat), .int .i64 (p : Nat)] w fun e w' => ∃ cb cc, e = .returned (.tuple #[.agg (gdA gW gH (some ⟨cb, 0, none⟩) n cc), .int .i64 0]) ∧ w'.ownsRow w.heap.size 3 1 (.slice (some ⟨cb, 0, none⟩) n cc) n ((pz gW gH zs m p).map (Value.int .i64)) ∧ Below w.heap.size w w' := by
  have hn64 := b.n64
  have hcm := h.max
  unfold maxLen at hcm
  have hcc := h.cap
  obtain ⟨w1, hw1⟩ : ∃ w1, ((w.alloc (.cells (gdA gW gH a n c) 24)).alloc (.cells #[.int .i64 (m : Nat)] 3)).alloc (.cells (gdA 0 0 none 0 0) 24) = w1 := ⟨_, rfl⟩
  have HB1 : Hid (Below w.heap.size w w1) := hide (by rw [← hw1]; exact (((Below.refl _ w).alloc (Nat.le_refl _) _).alloc (by simp) _).alloc (by simp; omega) _)
  have G1 : Gd w1 w.heap.size gW gH a n c := by rw [← hw1]; exact ((Gd.new w _ _ _ _ _).old _).old _
  have cw1 : w1.cell? ⟨w.heap.size + 1, 0, none⟩ = some (.int .i64 (m : Nat)) := by
    rw [← hw1]
    have := old_cell (.cells (gdA 0 0 none 0 0) 24) (new_cell (w.alloc (.cells (gdA gW gH a n c) 24)) (.int .i64 (m : Nat)) 3)
    rw [World.size_alloc] at this
    exact this
  have Z1 : Gd w1 (w.heap.size + 2) 0 0 none 0 0 := by
    rw [← hw1]
    have := Gd.new ((w.alloc (.cells (gdA gW gH a n c) 24)).alloc (.cells #[.int .i64 (m : Nat)] 3)) 0 0 none 0 0
    rw [World.size_alloc, World.size_alloc] at this
    exact this
  have HG := hide G1
  have HZ := hide Z1
  have HCW := hide cw1
  have HD := hide (hT.mono HB1.out)
  have HTW : Hid (1 < w.heap.size) := hide hTz.lt
  have HTZ := hide (hTz.mono HB1.out)
  have HRD := hide (h.mono HB1.out)
  have HBO := hide (boardOf_yes gW gH a n c zs m w1 (h.mono HB1.out) b hm)
  have HMV := hide (fun W1 h1 => moves_any (Z := zs) b.w1 b.ht.2 hm W1 h1)
  have HTU := hide (fun W1 h1 => turned_any (Z := zs) b.w1 b.ht.2 hm (show p < gW * gH by rw [b.mul]; exact hp) W1 h1)
  have HPA := hide (fun W1 => place_at (zs := zs) b hp W1)
  have hand := mv_and (m := m) b hp
  rw [if_pos hin] at hand
  have hBp := bv_pos b hp
  obtain ⟨e1, e2⟩ := mvT_is b hm hp
  have HE1 := hide e1
  have HE2 := hide e2
  have HML := hide (mvT_lt gW gH zs m p)
  have HMT : Hid (mvT gW gH zs m p = bv ((p % gW : Nat) : Int) ((p / gW : Nat) : Int) ||| tnS gW gH zs m ((p % gW : Nat) : Int) ((p / gW : Nat) : Int)) := hide (by rw [mvT])
  have hBl : bv ((p % gW : Nat) : Int) ((p / gW : Nat) : Int) < 18446744073709551616 := by rw [← p64]; exact bv_lt _ _
  have hTl : tnS gW gH zs m ((p % gW : Nat) : Int) ((p / gW : Nat) : Int) < 18446744073709551616 := by rw [← p64]; exact tnS_lt _ _ _ _ _ _
  have HLZ := hide b.len
  have hWd := b.wd
  have h1 : ¬ (p : Int) < 0 := by omega
  have h2 : ¬ (p : Int) ≥ (n : Int) := by omega
  obtain ⟨ba, oa, rfl, -⟩ := h.cells (by omega)
  have HCLN := hide (fun W1 (hR : Rd W1 (some ⟨ba, oa, none⟩) n c zs) => Tryd.slices_Clone_int ba oa n c zs W1 (by rw [b.len]; omega) (by omega) (fun j hj => (hR.cell (by rw [b.len] at hj; exact hj)).2))
  rw [show zs.take n = zs from List.take_of_length_le (by rw [b.len]; omega)] at HCLN
  clear h b hT hTz hm hin e1 e2
  dsimp only [brd] at HMV HTU
  dsimp only [brd] at HBO
  generalize so gW gH zs m = o at *
  generalize so gW gH zs (3 - m) = t at *
  generalize so gW gH zs 0 = e at *
  generalize mvS gW gH zs m = MV at *
  generalize mvT gW gH zs m p = MT at *
  generalize pz gW gH zs m p = PZ at *
  generalize tnS gW gH zs m ((p % gW : Nat) : Int) ((p / gW : Nat) : Int) = TN at *
  generalize bv ((p % gW : Nat) : Int) ((p / gW : Nat) : Int) = B at *
  have hor : bits BinOp.or IntKind.u64 (B : Int) (TN : Int) = (MT : Int) := by rw [u64_or_nat _ _ hBl hTl, HMT.out]
  have hBz : ((B : Int) == 0) = false := by rw [beq_eq_false_iff_ne]; omega
  clear hBl hTl hBp
  refine (callsIn_wide (n := 3)).1 ?_
  refine callsIn_of_wp_marks Tryd.func11 rfl trivial ?_ rfl
  simp only [Tryd.ntmps11, List.size_toArray, List.length_cons, List.length_nil, Nat.reduceAdd, Nat.reduceSub, Array.replicate_succ, Array.replicate_zero, List.push_toArray, List.append_toArray, List.nil_append, List.cons_append]
  refine wpIn_wide.2 ?_
  go_upto_region 1 with fail
  clear hw1
  go_wp2_with (refine wpList_load_gd rfl (.tmp 3) rfl w.heap.size rfl G1 ?_)
  refine HBO.out.mono ?_
  rintro r w2 ⟨rfl, hb2⟩
  have HB2 := hide (HB1.out.trans (hb2.mono HB1.out.size))
  have HG2 := hide (HG.out.below hb2 HG.out.lt)
  have HZ2 := hide (HZ.out.below hb2 HZ.out.lt)
  have HCW2 := hide ((hb2.cell (p := ⟨w.heap.size + 1, 0, none⟩) (World.block_lt_of_cell? w1 _ HCW.out)).trans HCW.out)
  have K22 := Bd.new w2 0 0 0
  have HD2 := hide (HD.out.mono hb2)
  have HZ2LT : Hid (w.heap.size + 2 < w2.heap.size) := hide HZ2.out.lt
  have HTZ2 := hide (HTZ.out.mono hb2)
  have HRD2 := hide (HRD.out.mono hb2)
  clear hb2 G1 cw1 Z1 HBO
  go_upto_region 2 with (refine wpList_store_bd rfl (.tmp 8) (.tmp 16) rfl w2.heap.size rfl rfl K22 ?_; intro w3 V3 kk3)
  have B23 : Below w2.heap.size w2 w3 := (((Keeps.refl (fun k => k = w2.heap.size) w2).alloc _).trans kk3).below (Nat.le_refl _) (fun k hk e => by omega)
  have HB3 := hide (HB2.out.trans (B23.mono HB2.out.size))
  have HG3 := hide (HG2.out.below B23 HG2.out.lt)
  have HZ3 := hide (HZ2.out.below B23 HZ2.out.lt)
  have HCW3 := hide ((B23.cell (p := ⟨w.heap.size + 1, 0, none⟩) (World.block_lt_of_cell? w2 _ HCW2.out)).trans HCW2.out)
  have HD3 := hide (HD2.out.mono B23)
  have HTZ3 := hide (HTZ2.out.mono B23)
  have HRD3 := hide (HRD2.out.mono B23)
  clear kk3 B23 K22 HB2 HD2 HG2 HZ2 HCW2
  obtain ⟨g0, -, g2⟩ := HG3.out.cells
  go_wp2_with fail
  refine (HPA.out _).mono ?_
  rintro r w4 ⟨rfl, q, rfl⟩
  have B34 := drewN_below w3.heap.size w3 q
  have HB4 := hide (HB3.out.trans (B34.mono HB3.out.size))
  have V4 := V3.below B34 V3.lt
  have HZ4 := hide (HZ3.out.below B34 HZ3.out.lt)
  have HG4 := hide (HG3.out.below B34 HG3.out.lt)
  have HCW4 := hide ((B34.cell (p := ⟨w.heap.size + 1, 0, none⟩) (World.block_lt_of_cell? w3 _ HCW3.out)).trans HCW3.out)
  have HTZ4 := hide (HTZ3.out.mono B34)
  have HRD4 := hide (HRD3.out.mono B34)
  have HD4 := hide (HD3.out.mono B34)
  generalize w3.drewN q = w4 at *
  have HC4 := hide (HMV.out _ HD4.out)
  clear B34 V3 g0 g2 HPA HMV HG3 HZ3 HCW3 HTZ3 HRD3 HB3
  go_wp2_with (refine wpList_load_bd rfl (.tmp 8) rfl w2.heap.size rfl V4 ?_)
  refine HC4.out.mono ?_
  rintro r w5 ⟨rfl, hb5⟩
  have HB5 := hide (HB4.out.trans (hb5.mono HB4.out.size))
  have HV5 := hide (V4.below hb5 V4.lt)
  have HZ5 := hide (HZ4.out.below hb5 HZ4.out.lt)
  have HG5 := hide (HG4.out.below hb5 HG4.out.lt)
  have HCW5 := hide ((hb5.cell (p := ⟨w.heap.size + 1, 0, none⟩) (World.block_lt_of_cell? w4 _ HCW4.out)).trans HCW4.out)
  have HTZ5 := hide (HTZ4.out.mono hb5)
  have HD5 := hide (HD4.out.mono hb5)
  have HC5 := hide (HCLN.out w5 (HRD4.out.mono hb5))
  clear hb5 HC4 V4 HZ4 HG4 HCW4 HTZ4 HRD4 HB4 HCLN HD4
  obtain ⟨g0, -, g2⟩ := HG5.out.cells
  go_wp2_with fail
  refine HC5.out.mono ?_
  rintro r w6 ⟨v', rfl, hO6, -, hb6⟩
  obtain ⟨ac, cc, rfl⟩ := slice_form hO6
  obtain ⟨cb, rfl⟩ : ∃ cb, ac = some ⟨cb, 0, none⟩ := by
    rcases hO6.2 with ⟨hv, h0⟩ | ⟨g, cap, cur, hv, _⟩
    · omega
    · simp only [Value.slice.injEq] at hv
      exact ⟨g, hv.1⟩
  have hcb := hO6.lt cb rfl
  have hccb : n ≤ cc ∧ cc ≤ maxLen := by have := Rd.of_own hO6; exact ⟨this.cap, this.max⟩
  unfold maxLen at hccb
  have HB6 := hide (HB5.out.trans (hb6.mono HB5.out.size))
  have HV6 := hide (HV5.out.below hb6 HV5.out.lt)
  have HZ6 := hide (HZ5.out.below hb6 HZ5.out.lt)
  have G6 := HG5.out.below hb6 HG5.out.lt
  have HCW6 := hide ((hb6.cell (p := ⟨w.heap.size + 1, 0, none⟩) (World.block_lt_of_cell? w5 _ HCW5.out)).trans HCW5.out)
  have HTZ6 := hide (HTZ5.out.mono hb6)
  have HD6 := hide (HD5.out.mono hb6)
  have hs5 := HV5.out.lt
  have hz5 := HZ5.out.lt
  have hd5 := HTZ5.out.lt
  obtain ⟨g0', -, g2'⟩ := G6.cells
  have f2 := G6.frozen 2
  have hw2 : w.heap.size + 2 < w2.heap.size := HZ2LT.out
  have HO6 := hide hO6
  have HG6 := hide G6
  clear hb6 HC5 HG5 HZ5 HV5 HCW5 HTZ5 HB5 HD5 hO6 g0 g2
  go_upto_region 10 with fail
  obtain ⟨w7, hw7⟩ : ∃ w7, w6.setCell ⟨w.heap.size, 2, none⟩ (.slice (some ⟨cb, 0, none⟩) n cc) = w7 := ⟨_, rfl⟩
  have K67 : Keeps (fun k => k = w.heap.size) w6 w7 := by rw [← hw7]; exact Keeps.set1 w6 w.heap.size 2 _
  have HG7 : Hid (Gd w7 w.heap.size gW gH (some ⟨cb, 0, none⟩) n cc) := hide (by rw [← hw7]; exact HG6.out.setP _ _ _)
  have HV7 : Hid (Bd w7 w2.heap.size o t e) := hide (HV6.out.keeps K67 (by show ¬ w2.heap.size = w.heap.size; omega))
  have HZ7 : Hid (Gd w7 (w.heap.size + 2) 0 0 none 0 0) := hide (HZ6.out.keeps K67 (by show ¬ w.heap.size + 2 = w.heap.size; omega))
  have HCW7 : Hid (w7.cell? ⟨w.heap.size + 1, 0, none⟩ = some (.int .i64 (m : Nat))) := hide (K67.cell HCW6.out (by show ¬ w.heap.size + 1 = w.heap.size; omega))
  have HTZ7 : Hid (TzT w7) := hide (HTZ6.out.keeps K67 (by show ¬ 1 = w.heap.size; have := HTW.out; omega))
  have HD7 : Hid (DTab w7) := hide (HD6.out.keeps K67 (by show ¬ 0 = w.heap.size; have := HTW.out; omega))
  have HO7 : Hid (w7.ownsRow w.heap.size 3 1 (.slice (some ⟨cb, 0, none⟩) n cc) n (zs.map (Value.int .i64))) := hide (own_base (own_blk HO6.out (fun g hg => by
    simp only [Value.ownBlock, Option.some.injEq] at hg
    rw [← hg]
    exact K67.block _ hcb.2 (by show ¬ cb = w.heap.size; omega))) (by omega))
  have HB7 : Hid (Below w.heap.size w w7) := hide (HB6.out.trans ((K67.mono (Y := fun q => w.heap.size ≤ q) (fun q _ e => by omega)).below (B := w.heap.size) HB6.out.size (fun q hq e => by omega)))
  have hcb7 : cb < w7.heap.size := by have := K67.size; omega
  rw [hw7]
  clear hw7 K67 HG6 HV6 HZ6 HCW6 HTZ6 HO6 HB6 HD6 g0' g2' f2 G6
  have HFC : Hid (∀ W4, Below w7.heap.size w7 W4 → W4.cell? ⟨w.heap.size, 0, none⟩ = some (.int .i64 gW) ∧ True) := hide (fun W4 hb => ⟨(HG7.out.below hb HG7.out.lt).cells.1, trivial⟩)
  have HVR : Hid (∀ W4, Below w7.heap.size w7 W4 → W4.rangeAt w2.heap.size 0 [.int .u64 (o : Nat), .int .u64 (t : Nat), .int .u64 (e : Nat)]) := hide (fun W4 hb => (HV7.out.below hb HV7.out.lt).range)
  refine wp_calm ?_
  refine wp_region_held (S := fun W4 => Below w7.heap.size w7 W4) (by kernel_rfl) ?_
  change wpAnyH _ _ _ _ _ _ _ _ (World.drew _)
  have SW : Below w7.heap.size w7 w7.drew := (Below.refl _ w7).drew
  refine wpAnyH_take (i := 0) (v := .int .u64 (B : Nat)) rfl (by kernel_rfl) (by kernel_rfl) (by kernel_rfl) (fun _ _ _ h => h) (Or.inl ⟨by rfl, ?_⟩) SW ?_
  · intro W4 hW4
    go_simp <;> first | done | rfl | (rw [IntKind.wrap_i64]; omega) | omega
  go_simp
  refine wpAnyH_take (i := 1) (v := .agg (bdA o t e)) rfl (by kernel_rfl) (by kernel_rfl) (by kernel_rfl) (fun _ _ _ h => h) (yieldsIf_load_mid (by rfl) 55 _ rfl w2.heap.size 0 (by rfl) [.int .u64 (o : Nat), .int .u64 (t : Nat), .int .u64 (e : Nat)] _ (fun W hW => HVR.out W hW) Tryd.underlying55 rfl size55) SW ?_
  go_simp
  refine wpAnyH_take (i := 2) (v := .int .u64 (B : Nat)) rfl (by kernel_rfl) (by kernel_rfl) (by kernel_rfl) (fun _ _ _ h => h) (Or.inl ⟨by rfl, ?_⟩) SW ?_
  · intro W4 hW4
    go_simp <;> first | done | rfl | (rw [IntKind.wrap_i64]; omega) | omega
  go_simp
  refine wpAnyH_take (i := 5) (v := .pointer (some ⟨w.heap.size, 0, none⟩)) rfl (by kernel_rfl) (by kernel_rfl) (by kernel_rfl) (fun _ _ _ h => h) (Or.inl ⟨by rfl, ?_⟩) SW ?_
  · intro W4 hW4
    go_simp <;> first | done | rfl | (rw [IntKind.wrap_i64]; omega) | omega
  go_simp
  refine wpAnyH_take (i := 6) (v := .int .i64 gW) rfl (by kernel_rfl) (by kernel_rfl) (by kernel_rfl) (fun _ _ _ h => h) (Or.inl ⟨by rfl, ?_⟩) SW ?_
  · intro W4 hW4
    obtain ⟨x0, x1⟩ := HFC.out W4 hW4
    go_simp <;> first | done | rfl | (rw [IntKind.wrap_i64]; omega) | omega
  go_simp
  refine wpAnyH_ready (rs := [3]) (by kernel_rfl) (by simp) ?_
  refine AllReadyH.cons rfl (fun K1 hK1 => ?_) AllReadyH.nil
  go_simp
  refine (HTU.out _ (HD7.out.mono SW)).mono ?_
  rintro r w8 ⟨rfl, hb8⟩
  have B8 := SW.trans (hb8.mono SW.size)
  refine hK1.out _ _ B8 (fun SW => ?_)
  clear hK1 K1 hb8
  go_simp
  refine wpAnyH_take (i := 4) (v := .int .u64 (MT : Nat)) rfl (by kernel_rfl) (by kernel_rfl) (by kernel_rfl) (fun _ _ _ h => h) (Or.inl ⟨by rfl, ?_⟩) SW ?_
  · intro W4 hW4
    have hx := hor
    go_simp <;> first | done | rfl | (rw [IntKind.wrap_i64]; omega) | omega
  go_simp
  refine wpAnyH_ready (rs := [7]) (by kernel_rfl) (by simp) ?_
  refine AllReadyH.cons rfl (fun K1 hK1 => ?_) AllReadyH.nil
  go_simp
  refine (numbers_any MT gW _).mono ?_
  rintro r w9 ⟨rfl, hw9⟩
  have B89 : Below w8.heap.size w8 w9 := by rw [hw9]; exact ((Below.refl _ w8).alloc (Nat.le_refl _) _).alloc (by simp) _
  have B9 := B8.trans (B89.mono B8.size)
  have R9 : NuR w8.heap.size (w8.heap.size + 1) MT gW w9 := by
    refine ⟨?_, ?_, (HTZ7.out.mono B9)⟩
    · rw [hw9]; exact old_cell _ (new_cell w8 _ 53)
    · rw [hw9]
      have := new_cell (w8.alloc (.cells #[.int .u64 (MT : Nat)] 53)) (.int .i64 (gW : Nat)) 3
      rw [World.size_alloc] at this
      exact this
  have s9 : w9.heap.size = w8.heap.size + 2 := by rw [hw9]; simp
  refine hK1.out _ _ B9 (fun SW => ?_)
  clear hK1 K1 hw9 B89
  go_simp
  refine wpAnyH_done (by kernel_rfl) ?_ _
  obtain ⟨nb, hnb⟩ : ∃ nb, w8.heap.size = nb := ⟨_, rfl⟩
  have hnb7 : w7.heap.size ≤ nb := by rw [← hnb]; exact B8.size
  rw [hnb] at R9 s9 ⊢
  have HG9 := hide (HG7.out.below B9 HG7.out.lt)
  have HZ9 := hide (HZ7.out.below B9 HZ7.out.lt)
  have HCW9 := hide ((B9.cell (p := ⟨w.heap.size + 1, 0, none⟩) (World.block_lt_of_cell? w7 _ HCW7.out)).trans HCW7.out)
  have HO9 : Hid (PW w9 w.heap.size cb n cc w9 zs) := hide ⟨Keeps.refl _ _, own_below HO7.out B9⟩
  have HB9 := hide (HB7.out.trans (B9.mono HB7.out.size))
  have hcb0 : w.heap.size + 2 < cb := by have := hcb.1; omega
  have HSEQ := hide (numbers1_seq nb (nb + 1) MT gW HML.out (by omega))
  have hcw := HTW.out
  clear SW B9 B8 hnb HG7 HZ7 HCW7 HO7 HB7 HV7 HTZ7 HD7 hcb
  go_wp2_with fail
  refine (wpIn_wide (n := 1)).1 (wp_range_q (gf := 49) (lb := #[.pointer (some ⟨nb, 0, none⟩), .pointer (some ⟨nb + 1, 0, none⟩)]) (G := NuG gW) (xs := bln MT 64) (R := NuR nb (nb + 1) MT gW) (T := NuT nb (nb + 1)) (c := 4) (by simp [Act.eval]) (enters_of Tryd.func49 (by kernel_rfl) rfl)
    HSEQ.out (fun k hk => by rcases hk with rfl | rfl | rfl <;> omega) (fun A B hA hk => hA.keeps hk (fun k e => e)) R9 (fun k => k = cb) ?hX (fun x args W' hG => by rw [hG]; rfl)
    (fun pre W' => PW w9 w.heap.size cb n cc W' (stL gW zs m pre)) (fun _ _ => False) ?hI (fun _ _ _ h _ => h) (by rw [stL_nil]; exact HO9.out) ?round ?done (fun _ _ _ _ h => h.elim))
  case hX =>
    rintro k rfl
    refine ⟨?_, fun e => by omega⟩
    rintro (e | e | e) <;> omega
  case hI =>
    rintro s A B' hA hk
    refine ⟨hA.k.after hk (fun i hi e => by omega), own_blk hA.o (fun g hg => hk.block g (hA.o.lt g hg).2 (fun e => ?_))⟩
    simp only [Value.ownBlock, Option.some.injEq] at hg
    omega
  case round =>
    rintro l2 pre x args W1 hl2 ⟨rec, hrec⟩ hP hpre hG hsz
    obtain rfl : args = #[.int .i64 (num gW x : Nat)] := hG
    have hxn := HE2.out x (hpre.subset (by simp))
    have HSN := hide (stL_snoc gW zs m pre x)
    obtain ⟨Q, hQ⟩ : ∃ Q, num gW x = Q := ⟨_, rfl⟩
    rw [hQ] at hxn HSN ⊢
    have HP := hide hP
    clear hQ hpre hrec hP
    gi_wp2
    refine ⟨Keeps.refl _ _, ?_⟩
    intro W3 hk3
    have HP3 : Hid (PW w9 w.heap.size cb n cc W3 (stL gW zs m pre)) := hide ⟨HP.out.k.after hk3 (fun i hi e => by omega), own_blk HP.out.o (fun g hg => hk3.block g (HP.out.o.lt g hg).2 (fun e => by
      simp only [Value.ownBlock, Option.some.injEq] at hg
      omega))⟩
    obtain ⟨-, -, g2⟩ := (HG9.out.keeps HP3.out.k (by show ¬ w.heap.size = cb; omega)).cells
    have cw := HP3.out.k.cell HCW9.out (by show ¬ w.heap.size + 1 = cb; omega)
    obtain ⟨⟨vv, cv⟩, fv⟩ := HP3.out.cell hxn
    have HP4 := hide (HP3.out.set Q (m : Int))
    clear hk3 HP
    gi_wp2_with fail
    refine ⟨(Keeps.set1 W3 cb Q _), ?_⟩
    show PW w9 w.heap.size cb n cc _ (stL gW zs m (pre ++ [x]))
    rw [HSN.out]
    exact HP4.out
  case done =>
    rintro D W5 hD hP _ hK
    obtain rfl : D = nb + 2 := by omega
    rw [HE1.out] at hP
    have HP := hide hP
    have G5 := HG9.out.keeps hP.k (by show ¬ w.heap.size = cb; omega)
    have Z5 := HZ9.out.keeps hP.k (by show ¬ w.heap.size + 2 = cb; omega)
    have hD2 : w.heap.size + 2 < (nb + 2) := by omega
    clear hP hD
    go_wp2_with (first
      | refine wpList_load_gd rfl (.tmp 3) rfl w.heap.size rfl G5 ?_
      | (refine wpList_store_gd rfl (.tmp 6) (.tmp 60) rfl (w.heap.size + 2) rfl rfl Z5 ?_; intro w6 k6 kk6))
    refine ⟨by simp, .inl ⟨_, _, rfl, run_takeDeferred ((kk6.block (nb + 2) (Array.getElem?_eq_some_iff.1 hK).1 (by show ¬ (nb + 2) = w.heap.size + 2; omega)).trans hK), ?_⟩⟩
    have K7 : Keeps (fun k => k = w.heap.size + 2 ∨ k = nb + 2) W5 (w6.putObj (nb + 2) (.deferred none)) := Keeps.put (X := fun k => k = w.heap.size + 2 ∨ k = nb + 2) (kk6.mono (fun _ _ e => Or.inl e)) (l := nb + 2) (Or.inr rfl) _
    refine ⟨_, results_gdt rfl _ _ (w.heap.size + 2) rfl (k6.keeps (X := fun k => k = nb + 2) (Keeps.put (X := fun k => k = nb + 2) (Keeps.refl _ w6) rfl _) (by show ¬ w.heap.size + 2 = nb + 2; omega)) rfl, cb, cc, rfl, ?_, ?_⟩
    · exact own_blk HP.out.o (fun g hg => K7.block g (HP.out.o.lt g hg).2 (fun e => by
        simp only [Value.ownBlock, Option.some.injEq] at hg
        omega))
    · have h6 : Keeps (fun q => w.heap.size ≤ q) w9 (w6.putObj (nb + 2) (.deferred none)) := (HP.out.k.mono (fun q _ e => by omega)).trans (K7.mono (fun q _ e => by omega))
      exact HB9.out.trans (h6.below (B := w.heap.size) HB9.out.size (fun q hq e => by omega))

end Go.Proofs.YtkmghlmniahgbaaDoor
