/-
  othello.Best, and the statement on it. No conditions beyond those that each theorem bears.
-/
import Derived.Test.YtkmghlmniahgbaaDoorRb
import Derived.Test.YtkmghlmniahgbaaDoorBp
import Derived.Test.YtkmghlmniahgbaaDoorCo
namespace Go.Proofs.YtkmghlmniahgbaaDoor
open Go.RowKit

theorem results_three {fn : Func} {t u v : Tmp} (h : fn.results = #[.tmp t, .tmp u, .tmp v]) (tmps : Array Value) (w : World) {a b c : Value} (ha : tmps.getD t undef = a) (hb : tmps.getD u undef = b) (hc : tmps.getD v undef = c) :
    (results fn tmps).run Tryd.prog w = .ok (.tuple #[a, b, c]) w := by
  have ha' : tmps[t]?.getD undef = a := by simpa using ha
  have hb' : tmps[u]?.getD undef = b := by simpa using hb
  have hc' : tmps[v]?.getD undef = c := by simpa using hc
  simp [results, h, ha', hb', hc']

theorem pick_bdn {f : Nat → Int} {L : List Nat} {B : Int} (hB : 0 ≤ B ∧ B ≤ 64) (h0 : L ≠ []) (h : ∀ x, -B ≤ f x ∧ f x ≤ B) : -B ≤ (pickB f L).1 ∧ (pickB f L).1 ≤ B := by
  refine ⟨?_, pick_le (by omega) (fun x _ => (h x).2)⟩
  obtain ⟨x, hx⟩ := List.exists_mem_of_ne_nil L h0
  have := pick_ge (f := f) hx
  have := (h x).1
  omega

theorem ldd_bdn (W H : Nat) (Z : List Int) (m : Nat) : -((W * H : Nat) : Int) ≤ ldd W H Z m ∧ ldd W H Z m ≤ ((W * H : Nat) : Int) := by
  have h1 := cnt_le W H Z m
  have h2 := cnt_le W H Z (3 - m)
  unfold ldd
  omega

theorem ob_bdn {W H : Nat} (hWH : W * H ≤ 64) : ∀ (l : Nat) (Z : List Int) (m : Nat), -((W * H : Nat) : Int) ≤ (ob W H l Z m).1 ∧ (ob W H l Z m).1 ≤ ((W * H : Nat) : Int)
  | 0, Z, m => by rw [ob_zero]; exact ldd_bdn W H Z m
  | l + 1, Z, m => by
    rw [ob]
    split
    · rename_i h
      exact pick_bdn (by omega) h (fun x => by have := ob_bdn hWH l (pz W H Z m x) (3 - m); omega)
    · split
      · rename_i h
        have := pick_bdn (f := fun p => - (ob W H l (pz W H Z (3 - m) p) m).1) (B := ((W * H : Nat) : Int)) (by omega) h (fun x => by have := ob_bdn hWH l (pz W H Z (3 - m) x) m; omega)
        dsimp only
        omega
      · exact ldd_bdn W H Z m

set_option maxRecDepth 100000 in
set_option maxHeartbeats 2000000 in
theorem Best_state (W H : Int) (a : Option Addr) (n c : Nat) (zs : List Int) (who deep : Int) (w : World) (hT : DTab w) (h : Rd w a n c zs) (hno : oMay W H zs = false) :
    Calls Tryd.prog 23 #[.agg (gdA W H a n c), .int .i64 who, .int .i64 deep] w fun e w' => e = .returned (.tuple #[.int .i64 0, .int .i64 0, .int .i64 12]) ∧ Below w.heap.size w w' := by
  obtain ⟨w1, hw1⟩ : ∃ w1, w.alloc (.cells (gdA W H a n c) 24) = w1 := ⟨_, rfl⟩
  have HB1 : Hid (Below w.heap.size w w1) := hide (by rw [← hw1]; exact (Below.refl _ _).alloc (Nat.le_refl _) _)
  have G1 : Gd w1 w.heap.size W H a n c := by rw [← hw1]; exact Gd.new _ _ _ _ _ _
  have HD := hide hT
  have HBO := hide (boardOf_state W H a n c zs who w1 (h.mono HB1.out) hno)
  clear h hno hT
  go_enter Tryd.func23, Tryd.ntmps23
  go_upto_region 1 with fail
  clear hw1
  go_wp2_with (refine wpList_load_gd rfl (.tmp 3) rfl w.heap.size rfl G1 ?_)
  refine HBO.out.mono ?_
  rintro e w2 ⟨rfl, hb2⟩
  have HB2 := hide (HB1.out.trans (hb2.mono HB1.out.size))
  have K22 := Bd.new w2 0 0 0
  have HD2 := hide (HD.out.mono HB2.out)
  clear hb2 G1 HBO
  go_upto_region 2 with (refine wpList_store_bd rfl (.tmp 9) (.tmp 18) rfl w2.heap.size rfl rfl K22 ?_; intro w3 V3 kk3)
  have B23 : Below w2.heap.size w2 w3 := (((Keeps.refl (fun k => k = w2.heap.size) w2).alloc _).trans kk3).below (Nat.le_refl _) (fun k hk e => by omega)
  have HB3 := hide (HB2.out.trans (B23.mono HB2.out.size))
  have HD3 := hide (HD2.out.mono B23)
  clear kk3 B23 K22 HB2 HD2
  go_wp2_with fail
  refine bodyPost_ret (results_three rfl _ _ rfl rfl rfl) rfl ⟨rfl, HB3.out⟩

set_option maxRecDepth 100000 in
set_option maxHeartbeats 2000000 in
theorem Best_who (gW gH : Nat) (a : Option Addr) (n c : Nat) (zs : List Int) (who deep : Int) (w : World) (hT : DTab w) (h : Rd w a n c zs) (b : Og gW gH n zs) (hn1 : who ≠ 1) (hn2 : who ≠ 2) :
    Calls Tryd.prog 23 #[.agg (gdA gW gH a n c), .int .i64 who, .int .i64 deep] w fun e w' => e = .returned (.tuple #[.int .i64 0, .int .i64 0, .int .i64 4]) ∧ Below w.heap.size w w' := by
  obtain ⟨w1, hw1⟩ : ∃ w1, w.alloc (.cells (gdA gW gH a n c) 24) = w1 := ⟨_, rfl⟩
  have HB1 : Hid (Below w.heap.size w w1) := hide (by rw [← hw1]; exact (Below.refl _ _).alloc (Nat.le_refl _) _)
  have G1 : Gd w1 w.heap.size gW gH a n c := by rw [← hw1]; exact Gd.new _ _ _ _ _ _
  have HD := hide hT
  have HBO := hide (boardOf_who gW gH a n c zs who w1 (h.mono HB1.out) b hn1 hn2)
  clear h b hT hn1 hn2
  go_enter Tryd.func23, Tryd.ntmps23
  go_upto_region 1 with fail
  clear hw1
  go_wp2_with (refine wpList_load_gd rfl (.tmp 3) rfl w.heap.size rfl G1 ?_)
  refine HBO.out.mono ?_
  rintro e w2 ⟨rfl, hb2⟩
  have HB2 := hide (HB1.out.trans (hb2.mono HB1.out.size))
  have K22 := Bd.new w2 0 0 0
  have HD2 := hide (HD.out.mono HB2.out)
  clear hb2 G1 HBO
  go_upto_region 2 with (refine wpList_store_bd rfl (.tmp 9) (.tmp 18) rfl w2.heap.size rfl rfl K22 ?_; intro w3 V3 kk3)
  have B23 : Below w2.heap.size w2 w3 := (((Keeps.refl (fun k => k = w2.heap.size) w2).alloc _).trans kk3).below (Nat.le_refl _) (fun k hk e => by omega)
  have HB3 := hide (HB2.out.trans (B23.mono HB2.out.size))
  have HD3 := hide (HD2.out.mono B23)
  clear kk3 B23 K22 HB2 HD2
  go_wp2_with fail
  refine bodyPost_ret (results_three rfl _ _ rfl rfl rfl) rfl ⟨rfl, HB3.out⟩

set_option maxRecDepth 100000 in
set_option maxHeartbeats 2000000 in
theorem Best_range (gW gH : Nat) (a : Option Addr) (n c : Nat) (zs : List Int) (m : Nat) (deep : Int) (w : World) (hT : DTab w) (h : Rd w a n c zs) (b : Og gW gH n zs) (hm : m = 1 ∨ m = 2) (hp : deep < 0 ∨ 6 < deep) :
    Calls Tryd.prog 23 #[.agg (gdA gW gH a n c), .int .i64 (m : Nat), .int .i64 deep] w fun e w' => e = .returned (.tuple #[.int .i64 0, .int .i64 0, .int .i64 3]) ∧ Below w.heap.size w w' := by
  obtain ⟨w1, hw1⟩ : ∃ w1, w.alloc (.cells (gdA gW gH a n c) 24) = w1 := ⟨_, rfl⟩
  have HB1 : Hid (Below w.heap.size w w1) := hide (by rw [← hw1]; exact (Below.refl _ _).alloc (Nat.le_refl _) _)
  have G1 : Gd w1 w.heap.size gW gH a n c := by rw [← hw1]; exact Gd.new _ _ _ _ _ _
  have HD := hide hT
  have HBO := hide (boardOf_yes gW gH a n c zs m w1 (h.mono HB1.out) b hm)
  clear h b hT hm
  dsimp only [brd] at HBO
  generalize so gW gH zs m = o at *
  generalize so gW gH zs (3 - m) = t at *
  generalize so gW gH zs 0 = e at *
  by_cases h1 : deep < 0
  · clear hp
    go_enter Tryd.func23, Tryd.ntmps23
    go_upto_region 1 with fail
    clear hw1
    go_wp2_with (refine wpList_load_gd rfl (.tmp 3) rfl w.heap.size rfl G1 ?_)
    refine HBO.out.mono ?_
    rintro e w2 ⟨rfl, hb2⟩
    have HB2 := hide (HB1.out.trans (hb2.mono HB1.out.size))
    have K22 := Bd.new w2 0 0 0
    have HD2 := hide (HD.out.mono HB2.out)
    clear hb2 G1 HBO
    go_upto_region 2 with (refine wpList_store_bd rfl (.tmp 9) (.tmp 18) rfl w2.heap.size rfl rfl K22 ?_; intro w3 V3 kk3)
    have B23 : Below w2.heap.size w2 w3 := (((Keeps.refl (fun k => k = w2.heap.size) w2).alloc _).trans kk3).below (Nat.le_refl _) (fun k hk e => by omega)
    have HB3 := hide (HB2.out.trans (B23.mono HB2.out.size))
    have HD3 := hide (HD2.out.mono B23)
    clear kk3 B23 K22 HB2 HD2
    go_wp2_with fail
    refine bodyPost_ret (results_three rfl _ _ rfl rfl rfl) rfl ⟨rfl, HB3.out⟩
  · have h2 : deep > 6 := by omega
    clear hp
    go_enter Tryd.func23, Tryd.ntmps23
    go_upto_region 1 with fail
    clear hw1
    go_wp2_with (refine wpList_load_gd rfl (.tmp 3) rfl w.heap.size rfl G1 ?_)
    refine HBO.out.mono ?_
    rintro e w2 ⟨rfl, hb2⟩
    have HB2 := hide (HB1.out.trans (hb2.mono HB1.out.size))
    have K22 := Bd.new w2 0 0 0
    have HD2 := hide (HD.out.mono HB2.out)
    clear hb2 G1 HBO
    go_upto_region 2 with (refine wpList_store_bd rfl (.tmp 9) (.tmp 18) rfl w2.heap.size rfl rfl K22 ?_; intro w3 V3 kk3)
    have B23 : Below w2.heap.size w2 w3 := (((Keeps.refl (fun k => k = w2.heap.size) w2).alloc _).trans kk3).below (Nat.le_refl _) (fun k hk e => by omega)
    have HB3 := hide (HB2.out.trans (B23.mono HB2.out.size))
    have HD3 := hide (HD2.out.mono B23)
    clear kk3 B23 K22 HB2 HD2
    go_wp2_with fail
    refine bodyPost_ret (results_three rfl _ _ rfl rfl rfl) rfl ⟨rfl, HB3.out⟩

attribute [local irreducible] ob num

set_option maxRecDepth 100000 in
set_option maxHeartbeats 4000000 in
theorem Best_yes (gW gH : Nat) (a : Option Addr) (n c : Nat) (zs : List Int) (m l : Nat) (w : World) (hT : DTab w) (hTz : TzT w) (h : Rd w a n c zs) (b : Og gW gH n zs) (hm : m = 1 ∨ m = 2) (hl : l ≤ 6) :
    Calls Tryd.prog 23 #[.agg (gdA gW gH a n c), .int .i64 (m : Nat), .int .i64 (l : Nat)] w fun e w' => e = .returned (.tuple #[.int .i64 (ob gW gH l zs m).1, .int .i64 (plI (ob gW gH l zs m).2), .int .i64 0]) ∧ Below w.heap.size w w' := by
  have hn64 := b.n64
  have hcm := h.max
  unfold maxLen at hcm
  have hcc := h.cap
  obtain ⟨w1, hw1⟩ : ∃ w1, w.alloc (.cells (gdA gW gH a n c) 24) = w1 := ⟨_, rfl⟩
  have HB1 : Hid (Below w.heap.size w w1) := hide (by rw [← hw1]; exact (Below.refl _ _).alloc (Nat.le_refl _) _)
  have G1 : Gd w1 w.heap.size gW gH a n c := by rw [← hw1]; exact Gd.new _ _ _ _ _ _
  have HD := hide hT
  have HG := hide G1
  have HTZ := hide (hTz.mono HB1.out)
  have HBO := hide (boardOf_yes gW gH a n c zs m w1 (h.mono HB1.out) b hm)
  have HCT := hide (fun W1 h1 => bs_all gW gH b.w1 b.ht.2 l hl zs m hm (-((n + 1 : Nat) : Int)) ((n + 1 : Nat) : Int) W1 (by omega) (by omega) (by omega) h1)
  have hWH : gW * gH ≤ 64 := by rw [b.mul]; omega
  have hob := ob_bdn hWH l zs m
  rw [b.mul] at hob
  have HFI := hide (fun k hk W1 h1 => first_any k gW hk (by have := b.wd; omega) W1 h1)
  have hgw := b.wd
  clear h b hT hTz hm hWH
  dsimp only [brd] at HBO HCT
  generalize so gW gH zs m = o at *
  generalize so gW gH zs (3 - m) = t at *
  generalize so gW gH zs 0 = e at *
  generalize ob gW gH l zs m = R at *
  have h1 : ¬ (l : Int) < 0 := by omega
  have h2 : ¬ (l : Int) > 6 := by omega
  have hn1 : (n : Int) + 1 = ((n + 1 : Nat) : Int) := by omega
  obtain ⟨N1, hN1⟩ : ∃ N1, n + 1 = N1 := ⟨_, rfl⟩
  rw [hN1] at hn1 HCT
  have hN1b : N1 ≤ 65 := by omega
  have HN1 := hide hN1
  clear hN1
  go_enter Tryd.func23, Tryd.ntmps23
  go_upto_region 1 with fail
  clear hw1
  go_wp2_with (refine wpList_load_gd rfl (.tmp 3) rfl w.heap.size rfl G1 ?_)
  refine HBO.out.mono ?_
  rintro e w2 ⟨rfl, hb2⟩
  have HB2 := hide (HB1.out.trans (hb2.mono HB1.out.size))
  have K22 := Bd.new w2 0 0 0
  have HD2 := hide (HD.out.mono HB2.out)
  have HG2 := hide (HG.out.below hb2 HG.out.lt)
  have HTZ2 := hide (HTZ.out.mono hb2)
  clear hb2 G1 HBO
  go_upto_region 2 with (refine wpList_store_bd rfl (.tmp 9) (.tmp 18) rfl w2.heap.size rfl rfl K22 ?_; intro w3 V3 kk3)
  have B23 : Below w2.heap.size w2 w3 := (((Keeps.refl (fun k => k = w2.heap.size) w2).alloc _).trans kk3).below (Nat.le_refl _) (fun k hk e => by omega)
  have HB3 := hide (HB2.out.trans (B23.mono HB2.out.size))
  have HD3 := hide (HD2.out.mono B23)
  have HG3 := hide (HG2.out.below B23 HG2.out.lt)
  have HTZ3 := hide (HTZ2.out.mono B23)
  clear kk3 B23 K22 HB2 HD2
  have HC := hide (HCT.out w3 HD3.out)
  obtain ⟨g0, -, g2⟩ := HG3.out.cells
  clear HCT
  go_wp2_with (refine wpList_load_bd rfl (.tmp 9) rfl w2.heap.size rfl V3 ?_)
  refine HC.out.mono ?_
  rintro r0 w4 ⟨r, at', rfl, hA, hb4⟩
  have HB4 := hide (HB3.out.trans (hb4.mono HB3.out.size))
  obtain ⟨rfl, hP⟩ := hA.eq (by have := HN1.out; omega) (by have := HN1.out; omega)
  have HTZ4 := hide (HTZ3.out.mono hb4)
  have G4 := HG3.out.below hb4 HG3.out.lt
  clear hb4 HC V3 hA g0 g2
  obtain ⟨g0, -, -⟩ := G4.cells
  rcases hP with ⟨hP1, rfl⟩ | ⟨i, hi, rfl, hP1⟩
  · have hzz : (((0 : Nat) : Int) == 0) = true := by rfl
    go_wp2_with fail
    refine bodyPost_ret (results_three rfl _ _ rfl rfl rfl) rfl ⟨?_, HB4.out⟩
    rw [hP1]; rfl
  · have HFC := hide (HFI.out i hi w4 HTZ4.out)
    have hp2 := Nat.two_pow_pos i
    obtain ⟨K2, hK2⟩ : ∃ K2, (2 ^ i : Nat) = K2 := ⟨_, rfl⟩
    rw [hK2] at HFC hp2 ⊢
    have hzz : ((K2 : Int) == 0) = false := by rw [beq_eq_false_iff_ne]; omega
    have HNM : Hid (i / 8 * gW + i % 8 = num gW i) := hide (by rw [num])
    rw [HNM.out] at HFC
    clear hK2 HNM
    go_wp2_with fail
    refine HFC.out.mono ?_
    rintro r wx ⟨rfl, hwx⟩
    subst wx
    go_wp2_with fail
    refine bodyPost_ret (results_three rfl _ _ rfl rfl rfl) rfl ⟨?_, HB4.out⟩
    rw [hP1]; rfl

/-- Best's three answers, whatever it is asked. -/
theorem Best_any (W H : Int) (a : Option Addr) (n c : Nat) (zs : List Int) (who deep : Int) (w : World) (hT : DTab w) (hTz : TzT w) (h : Rd w a n c zs) (R P E : Int)
    (hE : (oMay W H zs = false ∧ R = 0 ∧ P = 0 ∧ E = 12) ∨ (oMay W H zs = true ∧ who ≠ 1 ∧ who ≠ 2 ∧ R = 0 ∧ P = 0 ∧ E = 4) ∨ (oMay W H zs = true ∧ (who = 1 ∨ who = 2) ∧ (deep < 0 ∨ 6 < deep) ∧ R = 0 ∧ P = 0 ∧ E = 3) ∨ (∃ gW gH m l : Nat, W = gW ∧ H = gH ∧ Og gW gH n zs ∧ (m = 1 ∨ m = 2) ∧ who = m ∧ deep = l ∧ l ≤ 6 ∧ R = (ob gW gH l zs m).1 ∧ P = plI (ob gW gH l zs m).2 ∧ E = 0)) :
    Calls Tryd.prog 23 #[.agg (gdA W H a n c), .int .i64 who, .int .i64 deep] w fun e w' => e = .returned (.tuple #[.int .i64 R, .int .i64 P, .int .i64 E]) ∧ Below w.heap.size w w' := by
  rcases hE with ⟨h1, rfl, rfl, rfl⟩ | ⟨h1, h2, h3, rfl, rfl, rfl⟩ | ⟨h1, h2, h3, rfl, rfl, rfl⟩ | ⟨gW, gH, m, l, rfl, rfl, b, hm, rfl, rfl, hl, rfl, rfl, rfl⟩
  · exact Best_state W H a n c zs who deep w hT h h1
  · obtain ⟨gW, gH, rfl, rfl, b⟩ := og_of h.len h1
    exact Best_who gW gH a n c zs who deep w hT h b h2 h3
  · obtain ⟨gW, gH, rfl, rfl, b⟩ := og_of h.len h1
    obtain ⟨m, rfl⟩ := Int.eq_ofNat_of_zero_le (show 0 ≤ who by omega)
    exact Best_range gW gH a n c zs m deep w hT h b (by omega) h3
  · exact Best_yes gW gH a n c zs m l w hT hTz h b hm hl

set_option maxRecDepth 100000 in
set_option maxHeartbeats 4000000 in
theorem bests_any (W H : Int) (a : Option Addr) (n c : Nat) (zs : List Int) (who deep : Int) (w : World) (hTT : DTab w ∧ TzT w) (h : Rd w a n c zs) (hr : n * 8 ≤ 140737488351232) (hw : -9223372036854775808 ≤ who ∧ who ≤ 9223372036854775807) (hp : -9223372036854775808 ≤ deep ∧ deep ≤ 9223372036854775807) :
    Calls Tryd.prog 5 #[.agg (gdA W H a n c), .int .i64 who, .int .i64 deep] w fun e w' => e = .returned (.bool true) ∧ Below w.heap.size w w' := by
  have hlen := h.len
  obtain ⟨w1, hw1⟩ : ∃ w1, w.alloc (.cells (gdA W H a n c) 24) = w1 := ⟨_, rfl⟩
  have HB1 : Hid (Below w.heap.size w w1) := hide (by rw [← hw1]; exact (Below.refl _ _).alloc (Nat.le_refl _) _)
  have G1 : Gd w1 w.heap.size W H a n c := by rw [← hw1]; exact Gd.new _ _ _ _ _ _
  have HGO := hide (GridOf_own W H a n c zs w1 (h.mono HB1.out) hr)
  have HD := hide (hTT.1.mono HB1.out)
  have HTZ := hide (hTT.2.mono HB1.out)
  have HMY := hide (fun W1 (hR : Rd W1 a n c zs) => OthelloMay_any W H a n c zs W1 hR)
  have HR := hide (h.mono HB1.out)
  have HCA := hide (fun R P E (a' : Option Addr) (c' : Nat) W1 (hT : DTab W1) (hTz : TzT W1) (hR : Rd W1 a' n c' zs) hE => Best_any W H a' n c' zs who deep W1 hT hTz hR R P E hE)
  have hcase : ((oMay W H zs = false) ∨ (oMay W H zs = true ∧ who ≠ 1 ∧ who ≠ 2) ∨ (oMay W H zs = true ∧ (who = 1 ∨ who = 2) ∧ (deep < 0 ∨ 6 < deep)) ∨ (oMay W H zs = true ∧ (who = 1 ∨ who = 2) ∧ ¬ (deep < 0 ∨ 6 < deep))) := by
    cases oMay W H zs
    · exact Or.inl rfl
    · by_cases h1 : who = 1 ∨ who = 2
      · by_cases h2 : deep < 0 ∨ 6 < deep
        · exact Or.inr (Or.inr (Or.inl ⟨rfl, h1, h2⟩))
        · exact Or.inr (Or.inr (Or.inr ⟨rfl, h1, h2⟩))
      · exact Or.inr (Or.inl ⟨rfl, fun e => h1 (Or.inl e), fun e => h1 (Or.inr e)⟩)
  clear h hTT hr
  rcases hcase with h1 | ⟨h1, h2, h3⟩ | ⟨h1, h2, h3⟩ | ⟨h1, h2, h3⟩
  · have HC1 := hide (fun a' c' W1 hT hTz hR => HCA.out (0) (0) (12) a' c' W1 hT hTz hR (Or.inl ⟨h1, rfl, rfl, rfl⟩))
    clear HCA
    go_enter Tryd.func5, Tryd.ntmps5
    go_upto_region 1 with fail
    clear hw1
    go_wp2_with (refine wpList_load_gd rfl (.tmp 3) rfl w.heap.size rfl G1 ?_)
    refine HGO.out.mono ?_
    rintro e w2 ⟨a', c', rfl, hO, hb2⟩
    have HB2 := hide (HB1.out.trans (hb2.mono HB1.out.size))
    have G2 := G1.below hb2 G1.lt
    have HR2 := hide (HR.out.mono hb2)
    have HC2 := hide (HC1.out a' c' w2 (HD.out.mono hb2) (HTZ.out.mono hb2) (Rd.of_own hO))
    clear hO hb2 G1 HGO HC1 HR
    go_wp2_with fail
    refine HC2.out.mono ?_
    rintro e w3 ⟨rfl, hb3⟩
    have HB3 := hide (HB2.out.trans (hb3.mono HB2.out.size))
    have G3 := G2.below hb3 G2.lt
    have HR3 := hide (HR2.out.mono hb3)
    have HM3 := hide (HMY.out w3 HR3.out)
    rw [h1] at HM3
    clear hb3 G2 HC2 HR2
    go_wp2_with (refine wpList_load_gd rfl (.tmp 3) rfl w.heap.size rfl G3 ?_)
    refine HM3.out.mono ?_
    rintro e w4 ⟨rfl, hb4⟩
    have HB4 := hide (HB3.out.trans (hb4.mono HB3.out.size))
    have G4 := G3.below hb4 G3.lt
    have HR4 := hide (HR3.out.mono hb4)
    clear hb4 G3 HM3 HR3
    go_wp2_with fail
    go_ret
    exact ⟨rfl, HB4.out⟩
  · have HC1 := hide (fun a' c' W1 hT hTz hR => HCA.out (0) (0) (4) a' c' W1 hT hTz hR (Or.inr (Or.inl ⟨h1, h2, h3, rfl, rfl, rfl⟩)))
    have b1 : (who != (1 : Int)) = true := by simpa using h2
    have b2 : (who != (2 : Int)) = true := by simpa using h3
    clear h2 h3
    clear HCA
    go_enter Tryd.func5, Tryd.ntmps5
    go_upto_region 1 with fail
    clear hw1
    go_wp2_with (refine wpList_load_gd rfl (.tmp 3) rfl w.heap.size rfl G1 ?_)
    refine HGO.out.mono ?_
    rintro e w2 ⟨a', c', rfl, hO, hb2⟩
    have HB2 := hide (HB1.out.trans (hb2.mono HB1.out.size))
    have G2 := G1.below hb2 G1.lt
    have HR2 := hide (HR.out.mono hb2)
    have HC2 := hide (HC1.out a' c' w2 (HD.out.mono hb2) (HTZ.out.mono hb2) (Rd.of_own hO))
    clear hO hb2 G1 HGO HC1 HR
    go_wp2_with fail
    refine HC2.out.mono ?_
    rintro e w3 ⟨rfl, hb3⟩
    have HB3 := hide (HB2.out.trans (hb3.mono HB2.out.size))
    have G3 := G2.below hb3 G2.lt
    have HR3 := hide (HR2.out.mono hb3)
    have HM3 := hide (HMY.out w3 HR3.out)
    rw [h1] at HM3
    clear hb3 G2 HC2 HR2
    go_wp2_with (refine wpList_load_gd rfl (.tmp 3) rfl w.heap.size rfl G3 ?_)
    refine HM3.out.mono ?_
    rintro e w4 ⟨rfl, hb4⟩
    have HB4 := hide (HB3.out.trans (hb4.mono HB3.out.size))
    have G4 := G3.below hb4 G3.lt
    have HR4 := hide (HR3.out.mono hb4)
    clear hb4 G3 HM3 HR3
    go_wp2_with fail
    go_ret
    exact ⟨rfl, HB4.out⟩
  · have HC1 := hide (fun a' c' W1 hT hTz hR => HCA.out (0) (0) (3) a' c' W1 hT hTz hR (Or.inr (Or.inr (Or.inl ⟨h1, h2, h3, rfl, rfl, rfl⟩))))
    have hgo : ((who != (1 : Int)) = false) ∨ ((who != (1 : Int)) = true ∧ (who != (2 : Int)) = false) := by
      rcases h2 with rfl | rfl
      · exact Or.inl rfl
      · exact Or.inr ⟨rfl, rfl⟩
    have hgp : deep < 0 ∨ (¬ deep < 0 ∧ deep > 6) := by omega
    clear h2 h3
    clear HCA
    go_enter Tryd.func5, Tryd.ntmps5
    go_upto_region 1 with fail
    clear hw1
    go_wp2_with (refine wpList_load_gd rfl (.tmp 3) rfl w.heap.size rfl G1 ?_)
    refine HGO.out.mono ?_
    rintro e w2 ⟨a', c', rfl, hO, hb2⟩
    have HB2 := hide (HB1.out.trans (hb2.mono HB1.out.size))
    have G2 := G1.below hb2 G1.lt
    have HR2 := hide (HR.out.mono hb2)
    have HC2 := hide (HC1.out a' c' w2 (HD.out.mono hb2) (HTZ.out.mono hb2) (Rd.of_own hO))
    clear hO hb2 G1 HGO HC1 HR
    go_wp2_with fail
    refine HC2.out.mono ?_
    rintro e w3 ⟨rfl, hb3⟩
    have HB3 := hide (HB2.out.trans (hb3.mono HB2.out.size))
    have G3 := G2.below hb3 G2.lt
    have HR3 := hide (HR2.out.mono hb3)
    have HM3 := hide (HMY.out w3 HR3.out)
    rw [h1] at HM3
    clear hb3 G2 HC2 HR2
    go_wp2_with (refine wpList_load_gd rfl (.tmp 3) rfl w.heap.size rfl G3 ?_)
    refine HM3.out.mono ?_
    rintro e w4 ⟨rfl, hb4⟩
    have HB4 := hide (HB3.out.trans (hb4.mono HB3.out.size))
    have G4 := G3.below hb4 G3.lt
    have HR4 := hide (HR3.out.mono hb4)
    clear hb4 G3 HM3 HR3
    rcases hgp with p1 | ⟨p1, p2⟩
    · skip
      rcases hgo with g1 | ⟨g1, g2⟩
      · go_wp2_with fail
        go_ret
        exact ⟨rfl, HB4.out⟩
      · go_wp2_with fail
        go_ret
        exact ⟨rfl, HB4.out⟩
    · skip
      rcases hgo with g1 | ⟨g1, g2⟩
      · go_wp2_with fail
        go_ret
        exact ⟨rfl, HB4.out⟩
      · go_wp2_with fail
        go_ret
        exact ⟨rfl, HB4.out⟩
  · obtain ⟨gW, gH, rfl, rfl, b⟩ := og_of hlen h1
    obtain ⟨m, rfl⟩ := Int.eq_ofNat_of_zero_le (show 0 ≤ who by omega)
    obtain ⟨l, rfl⟩ := Int.eq_ofNat_of_zero_le (show 0 ≤ deep by omega)
    have hl6 : l ≤ 6 := by omega
    have hm : m = 1 ∨ m = 2 := by omega
    have HRC := hide (fun W1 (hR : Rd W1 a n c zs) => rb_all gW gH n l hl6 zs m b hm a c W1 hR)
    have HC1 := hide (fun a' c' W1 hT hTz hR => HCA.out (ob gW gH l zs m).1 (plI (ob gW gH l zs m).2) (0) a' c' W1 hT hTz hR (Or.inr (Or.inr (Or.inr ⟨gW, gH, m, l, rfl, rfl, b, hm, rfl, rfl, hl6, rfl, rfl, rfl⟩))))
    generalize ob gW gH l zs m = R at *
    obtain ⟨R1, R2⟩ := R
    dsimp only at *
    generalize plI R2 = R3 at *
    have p1 : ¬ (l : Int) < 0 := by omega
    have p2 : ¬ (l : Int) > 6 := by omega
    have hgo : (((m : Int) != (1 : Int)) = false) ∨ (((m : Int) != (1 : Int)) = true ∧ ((m : Int) != (2 : Int)) = false) := by
      rcases hm with rfl | rfl
      · exact Or.inl rfl
      · exact Or.inr ⟨rfl, rfl⟩
    clear h2 h3 hm b
    clear HCA
    go_enter Tryd.func5, Tryd.ntmps5
    go_upto_region 1 with fail
    clear hw1
    go_wp2_with (refine wpList_load_gd rfl (.tmp 3) rfl w.heap.size rfl G1 ?_)
    refine HGO.out.mono ?_
    rintro e w2 ⟨a', c', rfl, hO, hb2⟩
    have HB2 := hide (HB1.out.trans (hb2.mono HB1.out.size))
    have G2 := G1.below hb2 G1.lt
    have HR2 := hide (HR.out.mono hb2)
    have HC2 := hide (HC1.out a' c' w2 (HD.out.mono hb2) (HTZ.out.mono hb2) (Rd.of_own hO))
    clear hO hb2 G1 HGO HC1 HR
    go_wp2_with fail
    refine HC2.out.mono ?_
    rintro e w3 ⟨rfl, hb3⟩
    have HB3 := hide (HB2.out.trans (hb3.mono HB2.out.size))
    have G3 := G2.below hb3 G2.lt
    have HR3 := hide (HR2.out.mono hb3)
    have HM3 := hide (HMY.out w3 HR3.out)
    rw [h1] at HM3
    clear hb3 G2 HC2 HR2
    go_wp2_with (refine wpList_load_gd rfl (.tmp 3) rfl w.heap.size rfl G3 ?_)
    refine HM3.out.mono ?_
    rintro e w4 ⟨rfl, hb4⟩
    have HB4 := hide (HB3.out.trans (hb4.mono HB3.out.size))
    have G4 := G3.below hb4 G3.lt
    have HR4 := hide (HR3.out.mono hb4)
    clear hb4 G3 HM3 HR3
    have HC5 := hide (HRC.out w4 HR4.out)
    rcases hgo with g1 | ⟨g1, g2⟩
    · go_wp2_with (refine wpList_load_gd rfl (.tmp 3) rfl w.heap.size rfl G4 ?_)
      refine HC5.out.mono ?_
      rintro e w5 ⟨rfl, hb5⟩
      have HB5 := hide (HB4.out.trans (hb5.mono HB4.out.size))
      clear hb5
      go_wp2_with fail
      go_ret
      exact ⟨rfl, HB5.out⟩
    · go_wp2_with (refine wpList_load_gd rfl (.tmp 3) rfl w.heap.size rfl G4 ?_)
      refine HC5.out.mono ?_
      rintro e w5 ⟨rfl, hb5⟩
      have HB5 := hide (HB4.out.trans (hb5.mono HB4.out.size))
      clear hb5
      go_wp2_with fail
      go_ret
      exact ⟨rfl, HB5.out⟩

end Go.Proofs.YtkmghlmniahgbaaDoor
