/-
  What is best is what the other leaves: one move deeper the value is the best of all moves. No conditions beyond those that each theorem bears.
-/
import Derived.Test.YtkmghlmniahgbaaDoorNw
import Derived.Test.YtkmghlmniahgbaaDoorBsL
import Derived.Test.YtkmghlmniahgbaaDoorFh
namespace Go.Proofs.YtkmghlmniahgbaaDoor
open Go.RowKit

theorem st0_og : Og 4 4 16 (st0 2 2) := by
  refine ⟨by omega, by omega, rfl, rfl, rfl, by decide, ?_⟩
  have : ∀ z, z ∈ st0 2 2 → z = 0 ∨ z = 1 ∨ z = 2 := by decide
  intro z hz
  rcases this z hz with rfl | rfl | rfl <;> omega

theorem ob_start : ob 4 4 1 (st0 2 2) 1 = (3, some 1) := by decide +kernel

theorem New_four (w : World) : Calls Tryd.prog 8 #[.int .i64 4, .int .i64 4] w fun e w' => ∃ cb cc, e = .returned (.tuple #[.agg (gdA 4 4 (some ⟨cb, 0, none⟩) 16 cc), .int .i64 0]) ∧ w'.ownsRow w.heap.size 3 1 (.slice (some ⟨cb, 0, none⟩) 16 cc) 16 ((st0 2 2).map (Value.int .i64)) ∧ Below w.heap.size w w' :=
  New_yes 2 2 (by omega) (by omega) w

theorem Best_four (cb cc : Nat) (w : World) (hT : DTab w) (hTz : TzT w) (h : Rd w (some ⟨cb, 0, none⟩) 16 cc (st0 2 2)) : Calls Tryd.prog 23 #[.agg (gdA 4 4 (some ⟨cb, 0, none⟩) 16 cc), .int .i64 1, .int .i64 1] w fun e w' => e = .returned (.tuple #[.int .i64 3, .int .i64 1, .int .i64 0]) ∧ Below w.heap.size w w' := by
  have := Best_yes 4 4 (some ⟨cb, 0, none⟩) 16 cc (st0 2 2) 1 1 w hT hTz h st0_og (Or.inl rfl) (by omega)
  rw [ob_start] at this
  exact this

attribute [local irreducible] ob pz sps psN psY ldj st0

set_option maxRecDepth 100000 in
set_option maxHeartbeats 8000000 in
theorem deep_short (W H : Int) (a : Option Addr) (n c : Nat) (zs : List Int) (who deep : Int) (w : World) (hTT : DTab w ∧ TzT w) (h : Rd w a n c zs) (hp : -9223372036854775808 ≤ deep ∧ deep ≤ 9223372036854775807) (E : Int) (hE : E = 0 ∨ E = 4 ∨ E = 12)
    (HPL : ∀ W1, DTab W1 → TzT W1 → Rd W1 a n c zs → Calls Tryd.prog 9 #[.agg (gdA W H a n c), .int .i64 who] W1 fun e w' => ∃ la lc, e = .returned (.tuple #[.slice la 0 lc, .int .i64 E]) ∧ Below W1.heap.size W1 w') :
    Calls Tryd.prog 7 #[.agg (gdA W H a n c), .int .i64 who, .int .i64 deep] w fun e w' => e = .returned (.bool true) ∧ Below w.heap.size w w' := by
  obtain ⟨d, hd, hdp⟩ : ∃ d, pk deep 2 = d ∧ d < 2 := ⟨_, rfl, pk_lt _ _ (by omega)⟩
  have HPK : Hid (∀ W1, Calls Tryd.prog 27 #[.int .i64 deep, .int .i64 2] W1 fun e w' => e = .returned (.int .i64 (d : Nat)) ∧ w' = W1) := hide (fun W1 => by rw [← hd]; exact picked_any deep 2 W1 hp.1 hp.2 (by omega) (by omega))
  obtain ⟨w1, hw1⟩ : ∃ w1, w.alloc (.cells (gdA W H a n c) 24) = w1 := ⟨_, rfl⟩
  have HB1 : Hid (Below w.heap.size w w1) := hide (by rw [← hw1]; exact (Below.refl _ _).alloc (Nat.le_refl _) _)
  have HG1 : Hid (Gd w1 w.heap.size W H a n c) := hide (by rw [← hw1]; exact Gd.new _ _ _ _ _ _)
  have HR := hide (h.mono HB1.out)
  have HD := hide (hTT.1.mono HB1.out)
  have HTZ := hide (hTT.2.mono HB1.out)
  have HPL' := hide HPL
  clear h hTT hd HPL hp
  rcases hE with rfl | rfl | rfl
  · go_enter Tryd.func7, Tryd.ntmps7
    go_upto_region 1 with fail
    clear hw1
    go_wp2_with fail
    refine (HPK.out _).mono ?_
    rintro r w2 ⟨rfl, rfl⟩
    go_wp2_with fail
    refine (New_four _).mono ?_
    rintro r w3 ⟨cb0, cc0, rfl, hO3, hb3⟩
    have HB3 := hide (HB1.out.trans (hb3.mono HB1.out.size))
    have HG3 := hide (HG1.out.below hb3 HG1.out.lt)
    have HR3 := hide (HR.out.mono hb3)
    have HD3 := hide (HD.out.mono hb3)
    have HTZ3 := hide (HTZ.out.mono hb3)
    have HN3 : Hid (Rd w3 (some ⟨cb0, 0, none⟩) 16 cc0 (st0 2 2)) := hide (Rd.of_own (own_base hO3 (Nat.zero_le _)))
    have KZ := Gd.new w3 0 0 none 0 0
    clear hO3 hb3 HD HTZ HR
    go_upto_region 3 with (refine wpList_store_gd rfl (.tmp 8) (.tmp 28) rfl w3.heap.size rfl rfl KZ ?_; intro w4 S4 kk4)
    have B34 : Below w3.heap.size w3 w4 := (((Keeps.refl (fun k => k = w3.heap.size) w3).alloc _).trans kk4).below (Nat.le_refl _) (fun k hk e => by omega)
    have HB4 := hide (HB3.out.trans (B34.mono HB3.out.size))
    have HG4 := hide (HG3.out.below B34 HG3.out.lt)
    have HR4 := hide (HR3.out.mono B34)
    have HD4 := hide (HD3.out.mono B34)
    have HTZ4 := hide (HTZ3.out.mono B34)
    have HC4 := hide (Best_four cb0 cc0 w4 HD4.out HTZ4.out (HN3.out.mono B34))
    clear kk4 B34 KZ HN3 HD3 HTZ3 HR3 HG3 HB3
    go_wp2_with (refine wpList_load_gd rfl (.tmp 8) rfl w3.heap.size rfl S4 ?_)
    refine HC4.out.mono ?_
    rintro r w5 ⟨rfl, hb5⟩
    have HB5 := hide (HB4.out.trans (hb5.mono HB4.out.size))
    have G5 := HG4.out.below hb5 HG4.out.lt
    have HR5 := hide (HR4.out.mono hb5)
    have HD5 := hide (HD4.out.mono hb5)
    have HTZ5 := hide (HTZ4.out.mono hb5)
    clear hb5 HC4 HD4 HTZ4 HR4 HG4 HB4 S4
    go_wp2_with (refine wpList_load_gd rfl (.tmp 3) rfl w.heap.size rfl G5 ?_)
    refine (HPL'.out w5 HD5.out HTZ5.out HR5.out).mono ?_
    rintro r w6 ⟨la, lc, rfl, hb6⟩
    have HB6 := hide (HB5.out.trans (hb6.mono HB5.out.size))
    clear hb6 G5
    go_wp2_with fail
    go_ret
    exact ⟨rfl, HB6.out⟩
  · go_enter Tryd.func7, Tryd.ntmps7
    go_upto_region 1 with fail
    clear hw1
    go_wp2_with fail
    refine (HPK.out _).mono ?_
    rintro r w2 ⟨rfl, rfl⟩
    go_wp2_with fail
    refine (New_four _).mono ?_
    rintro r w3 ⟨cb0, cc0, rfl, hO3, hb3⟩
    have HB3 := hide (HB1.out.trans (hb3.mono HB1.out.size))
    have HG3 := hide (HG1.out.below hb3 HG1.out.lt)
    have HR3 := hide (HR.out.mono hb3)
    have HD3 := hide (HD.out.mono hb3)
    have HTZ3 := hide (HTZ.out.mono hb3)
    have HN3 : Hid (Rd w3 (some ⟨cb0, 0, none⟩) 16 cc0 (st0 2 2)) := hide (Rd.of_own (own_base hO3 (Nat.zero_le _)))
    have KZ := Gd.new w3 0 0 none 0 0
    clear hO3 hb3 HD HTZ HR
    go_upto_region 3 with (refine wpList_store_gd rfl (.tmp 8) (.tmp 28) rfl w3.heap.size rfl rfl KZ ?_; intro w4 S4 kk4)
    have B34 : Below w3.heap.size w3 w4 := (((Keeps.refl (fun k => k = w3.heap.size) w3).alloc _).trans kk4).below (Nat.le_refl _) (fun k hk e => by omega)
    have HB4 := hide (HB3.out.trans (B34.mono HB3.out.size))
    have HG4 := hide (HG3.out.below B34 HG3.out.lt)
    have HR4 := hide (HR3.out.mono B34)
    have HD4 := hide (HD3.out.mono B34)
    have HTZ4 := hide (HTZ3.out.mono B34)
    have HC4 := hide (Best_four cb0 cc0 w4 HD4.out HTZ4.out (HN3.out.mono B34))
    clear kk4 B34 KZ HN3 HD3 HTZ3 HR3 HG3 HB3
    go_wp2_with (refine wpList_load_gd rfl (.tmp 8) rfl w3.heap.size rfl S4 ?_)
    refine HC4.out.mono ?_
    rintro r w5 ⟨rfl, hb5⟩
    have HB5 := hide (HB4.out.trans (hb5.mono HB4.out.size))
    have G5 := HG4.out.below hb5 HG4.out.lt
    have HR5 := hide (HR4.out.mono hb5)
    have HD5 := hide (HD4.out.mono hb5)
    have HTZ5 := hide (HTZ4.out.mono hb5)
    clear hb5 HC4 HD4 HTZ4 HR4 HG4 HB4 S4
    go_wp2_with (refine wpList_load_gd rfl (.tmp 3) rfl w.heap.size rfl G5 ?_)
    refine (HPL'.out w5 HD5.out HTZ5.out HR5.out).mono ?_
    rintro r w6 ⟨la, lc, rfl, hb6⟩
    have HB6 := hide (HB5.out.trans (hb6.mono HB5.out.size))
    clear hb6 G5
    go_wp2_with fail
    go_ret
    exact ⟨rfl, HB6.out⟩
  · go_enter Tryd.func7, Tryd.ntmps7
    go_upto_region 1 with fail
    clear hw1
    go_wp2_with fail
    refine (HPK.out _).mono ?_
    rintro r w2 ⟨rfl, rfl⟩
    go_wp2_with fail
    refine (New_four _).mono ?_
    rintro r w3 ⟨cb0, cc0, rfl, hO3, hb3⟩
    have HB3 := hide (HB1.out.trans (hb3.mono HB1.out.size))
    have HG3 := hide (HG1.out.below hb3 HG1.out.lt)
    have HR3 := hide (HR.out.mono hb3)
    have HD3 := hide (HD.out.mono hb3)
    have HTZ3 := hide (HTZ.out.mono hb3)
    have HN3 : Hid (Rd w3 (some ⟨cb0, 0, none⟩) 16 cc0 (st0 2 2)) := hide (Rd.of_own (own_base hO3 (Nat.zero_le _)))
    have KZ := Gd.new w3 0 0 none 0 0
    clear hO3 hb3 HD HTZ HR
    go_upto_region 3 with (refine wpList_store_gd rfl (.tmp 8) (.tmp 28) rfl w3.heap.size rfl rfl KZ ?_; intro w4 S4 kk4)
    have B34 : Below w3.heap.size w3 w4 := (((Keeps.refl (fun k => k = w3.heap.size) w3).alloc _).trans kk4).below (Nat.le_refl _) (fun k hk e => by omega)
    have HB4 := hide (HB3.out.trans (B34.mono HB3.out.size))
    have HG4 := hide (HG3.out.below B34 HG3.out.lt)
    have HR4 := hide (HR3.out.mono B34)
    have HD4 := hide (HD3.out.mono B34)
    have HTZ4 := hide (HTZ3.out.mono B34)
    have HC4 := hide (Best_four cb0 cc0 w4 HD4.out HTZ4.out (HN3.out.mono B34))
    clear kk4 B34 KZ HN3 HD3 HTZ3 HR3 HG3 HB3
    go_wp2_with (refine wpList_load_gd rfl (.tmp 8) rfl w3.heap.size rfl S4 ?_)
    refine HC4.out.mono ?_
    rintro r w5 ⟨rfl, hb5⟩
    have HB5 := hide (HB4.out.trans (hb5.mono HB4.out.size))
    have G5 := HG4.out.below hb5 HG4.out.lt
    have HR5 := hide (HR4.out.mono hb5)
    have HD5 := hide (HD4.out.mono hb5)
    have HTZ5 := hide (HTZ4.out.mono hb5)
    clear hb5 HC4 HD4 HTZ4 HR4 HG4 HB4 S4
    go_wp2_with (refine wpList_load_gd rfl (.tmp 3) rfl w.heap.size rfl G5 ?_)
    refine (HPL'.out w5 HD5.out HTZ5.out HR5.out).mono ?_
    rintro r w6 ⟨la, lc, rfl, hb6⟩
    have HB6 := hide (HB5.out.trans (hb6.mono HB5.out.size))
    clear hb6 G5
    go_wp2_with fail
    go_ret
    exact ⟨rfl, HB6.out⟩

set_option maxRecDepth 100000 in
set_option maxHeartbeats 16000000 in
theorem deep_moves (gW gH : Nat) (a : Option Addr) (n c : Nat) (zs : List Int) (m : Nat) (deep : Int) (w : World) (hTT : DTab w ∧ TzT w) (h : Rd w a n c zs) (hp : -9223372036854775808 ≤ deep ∧ deep ≤ 9223372036854775807) (b : Og gW gH n zs) (hm : m = 1 ∨ m = 2) (hs : sps gW gH zs m ≠ []) :
    Calls Tryd.prog 7 #[.agg (gdA gW gH a n c), .int .i64 (m : Nat), .int .i64 deep] w fun e w' => e = .returned (.bool true) ∧ Below w.heap.size w w' := by
  have hn64 := b.n64
  have hcm := h.max
  unfold maxLen at hcm
  have hcc := h.cap
  obtain ⟨d, hd, hdp⟩ : ∃ d, pk deep 2 = d ∧ d < 2 := ⟨_, rfl, pk_lt _ _ (by omega)⟩
  have HPK : Hid (∀ W1, Calls Tryd.prog 27 #[.int .i64 deep, .int .i64 2] W1 fun e w' => e = .returned (.int .i64 (d : Nat)) ∧ w' = W1) := hide (fun W1 => by rw [← hd]; exact picked_any deep 2 W1 hp.1 hp.2 (by omega) (by omega))
  obtain ⟨mo, hmo⟩ : ∃ mo, 3 - m = mo := ⟨_, rfl⟩
  have h3a : (3 : Int) - (m : Int) = (mo : Int) := by omega
  have hmb : m ≤ 2 := by omega
  have hmob : mo ≤ 2 := by omega
  have hWH : gW * gH ≤ 64 := by rw [b.mul]; omega
  have HME := hide (fun p (hp : p ∈ sps gW gH zs m) => (show p < n ∧ ∀ W1, DTab W1 → TzT W1 → Rd W1 a n c zs → Calls Tryd.prog 11 #[.agg (gdA gW gH a n c), .int .i64 (m : Nat), .int .i64 (p : Nat)] W1 fun e w' => ∃ cb cc, e = .returned (.tuple #[.agg (gdA gW gH (some ⟨cb, 0, none⟩) n cc), .int .i64 0]) ∧ w'.ownsRow W1.heap.size 3 1 (.slice (some ⟨cb, 0, none⟩) n cc) n ((pz gW gH zs m p).map (Value.int .i64)) ∧ Below W1.heap.size W1 w' from ⟨(psY_mem b hp).2.1, fun W1 h1 h2 h3 => Put_yes gW gH a n c zs m p W1 h1 h2 h3 b hm (psY_mem b hp).2.1 hp⟩))
  have hln : (sps gW gH zs m).length ≤ 64 := Nat.le_trans (sps_len gW gH zs m) hWH
  have hlp : 0 < (sps gW gH zs m).length := List.length_pos_iff.2 hs
  have HPL := hide (fun W1 h1 h2 (h3 : Rd W1 a n c zs) => Places_yes gW gH a n c zs m W1 h1 h2 h3 b hm)
  have HCT := hide (fun p a' c' W1 h1 h2 (hR : Rd W1 a' n c' (pz gW gH zs m p)) => Best_yes gW gH a' n c' (pz gW gH zs m p) (3 - m) d W1 h1 h2 hR (b.pz hm) (by omega) (by omega))
  have HBS := hide (fun W1 h1 h2 (hR : Rd W1 a n c zs) => Best_yes gW gH a n c zs m (d + 1) W1 h1 h2 hR b hm (by omega))
  have HVB := hide (fun p => ob_bd hWH d (pz gW gH zs m p) (3 - m))
  have HOB := hide (ob_own (l := d) hs)
  rw [hmo] at HCT HVB HOB
  obtain ⟨f, hf⟩ : ∃ f : Nat → Int, (fun p => - (ob gW gH d (pz gW gH zs m p) mo).1) = f := ⟨_, rfl⟩
  have HF : Hid (∀ p, - (ob gW gH d (pz gW gH zs m p) mo).1 = f p) := hide (fun p => by rw [← hf])
  rw [hf] at HOB
  obtain ⟨OB, hOB⟩ : ∃ OB, ob gW gH (d + 1) zs m = OB := ⟨_, rfl⟩
  rw [hOB] at HOB HBS
  obtain ⟨D1, hD1⟩ : ∃ D1 : Nat, d + 1 = D1 := ⟨_, rfl⟩
  have hd1 : (d : Int) + 1 = (D1 : Int) := by omega
  rw [hD1] at HBS
  obtain ⟨w1, hw1⟩ : ∃ w1, w.alloc (.cells (gdA gW gH a n c) 24) = w1 := ⟨_, rfl⟩
  have HB1 : Hid (Below w.heap.size w w1) := hide (by rw [← hw1]; exact (Below.refl _ _).alloc (Nat.le_refl _) _)
  have HG1 : Hid (Gd w1 w.heap.size gW gH a n c) := hide (by rw [← hw1]; exact Gd.new _ _ _ _ _ _)
  have HR := hide (h.mono HB1.out)
  have HD := hide (hTT.1.mono HB1.out)
  have HTZ := hide (hTT.2.mono HB1.out)
  clear h hTT hd hp hf hmo hm hs hWH b hOB hD1
  go_enter Tryd.func7, Tryd.ntmps7
  go_upto_region 1 with fail
  clear hw1
  go_wp2_with fail
  refine (HPK.out _).mono ?_
  rintro r w2 ⟨rfl, rfl⟩
  go_wp2_with fail
  refine (New_four _).mono ?_
  rintro r w3 ⟨cb0, cc0, rfl, hO3, hb3⟩
  have HB3 := hide (HB1.out.trans (hb3.mono HB1.out.size))
  have HG3 := hide (HG1.out.below hb3 HG1.out.lt)
  have HR3 := hide (HR.out.mono hb3)
  have HD3 := hide (HD.out.mono hb3)
  have HTZ3 := hide (HTZ.out.mono hb3)
  have HN3 : Hid (Rd w3 (some ⟨cb0, 0, none⟩) 16 cc0 (st0 2 2)) := hide (Rd.of_own (own_base hO3 (Nat.zero_le _)))
  have KZ := Gd.new w3 0 0 none 0 0
  clear hO3 hb3 HD HTZ HR
  go_upto_region 3 with (refine wpList_store_gd rfl (.tmp 8) (.tmp 28) rfl w3.heap.size rfl rfl KZ ?_; intro w4 S4 kk4)
  have B34 : Below w3.heap.size w3 w4 := (((Keeps.refl (fun k => k = w3.heap.size) w3).alloc _).trans kk4).below (Nat.le_refl _) (fun k hk e => by omega)
  have HB4 := hide (HB3.out.trans (B34.mono HB3.out.size))
  have HG4 := hide (HG3.out.below B34 HG3.out.lt)
  have HR4 := hide (HR3.out.mono B34)
  have HD4 := hide (HD3.out.mono B34)
  have HTZ4 := hide (HTZ3.out.mono B34)
  have HC4 := hide (Best_four cb0 cc0 w4 HD4.out HTZ4.out (HN3.out.mono B34))
  clear kk4 B34 KZ HN3 HD3 HTZ3 HR3 HG3 HB3
  go_wp2_with (refine wpList_load_gd rfl (.tmp 8) rfl w3.heap.size rfl S4 ?_)
  refine HC4.out.mono ?_
  rintro r w5 ⟨rfl, hb5⟩
  have HB5 := hide (HB4.out.trans (hb5.mono HB4.out.size))
  have G5 := HG4.out.below hb5 HG4.out.lt
  have HR5 := hide (HR4.out.mono hb5)
  have HD5 := hide (HD4.out.mono hb5)
  have HTZ5 := hide (HTZ4.out.mono hb5)
  clear hb5 HC4 HD4 HTZ4 HR4 HG4 HB4 S4
  go_wp2_with (refine wpList_load_gd rfl (.tmp 3) rfl w.heap.size rfl G5 ?_)
  refine (HPL.out w5 HD5.out HTZ5.out HR5.out).mono ?_
  rintro r w6 ⟨la, lc, rfl, hO6, hb6⟩
  have HB6 := hide (HB5.out.trans (hb6.mono HB5.out.size))
  have G6 := G5.below hb6 G5.lt
  have HG6 := hide G6
  have HR6 := hide (HR5.out.mono hb6)
  have HD6 := hide (HD5.out.mono hb6)
  have HTZ6 := hide (HTZ5.out.mono hb6)
  have HL6 := hide (Rd.of_own hO6)
  clear hb6 hO6 G5 HR5 HD5 HTZ5 HB5 HPL
  obtain ⟨L, hLL⟩ : ∃ L, sps gW gH zs m = L := ⟨_, rfl⟩
  rw [hLL] at HOB hln HME hlp HL6 ⊢
  have hlm := HL6.out.max
  unfold maxLen at hlm
  have hlcap := HL6.out.cap
  obtain ⟨lb, lo, rfl, -⟩ := HL6.out.cells hlp
  have hz : ((L.length : Int) == 0) = false := by rw [beq_eq_false_iff_ne]; omega
  obtain ⟨ln, hlne⟩ : ∃ ln, L.length = ln := ⟨_, rfl⟩
  rw [hlne] at hln hlp HL6 hz hlcap ⊢
  have HLE := hide hlne
  clear hLL hlne
  have HC6 := hide (HBS.out w6 HD6.out HTZ6.out HR6.out)
  go_wp2_with (refine wpList_load_gd rfl (.tmp 3) rfl w.heap.size rfl G6 ?_)
  refine HC6.out.mono ?_
  rintro r w9 ⟨rfl, hb9⟩
  have HB9 := hide (HB6.out.trans (hb9.mono HB6.out.size))
  have HG9 := hide (HG6.out.below hb9 HG6.out.lt)
  have HRW := hide (HR6.out.mono hb9)
  have HDW := hide (HD6.out.mono hb9)
  have HTW := hide (HTZ6.out.mono hb9)
  have HLO := hide (HL6.out.mono hb9)
  clear hb9 HC6 HG6 G6 HR6 HD6 HTZ6 HB6 HL6 HBS
  go_wp2_with fail
  go_loopw [16, 17, 18] (fun u p v wr => ∃ (j : Nat) (s : Int × Option Nat), v = .int .i64 j ∧ u = .int .i64 s.1 ∧ p = .int .i64 (plI s.2) ∧ j ≤ ln ∧ (-1000 ≤ s.1 ∧ s.1 ≤ 64) ∧ (-1 ≤ plI s.2 ∧ plI s.2 ≤ 100) ∧ Hid (s = pickB f (L.take j)) ∧ Hid (Below w9.heap.size w9 wr)) (fun _ _ v _ => ln - (intOf v).toNat)
  case atStart => exact ⟨0, (-1000, none), rfl, rfl, rfl, by omega, by show -1000 ≤ (-1000 : Int) ∧ (-1000 : Int) ≤ 64; omega, by show -1 ≤ (-1 : Int) ∧ (-1 : Int) ≤ 100; omega, hide (by simp [pickB_nil]), hide (Below.refl _ _)⟩
  case round =>
    obtain ⟨j, s, rfl, rfl, rfl, hj, hsb, hsp, hS, hB⟩ := hrel
    by_cases hlt : j < ln
    · have hlt' : (j : Int) < (ln : Int) := by omega
      have hjL : j < L.length := by rw [HLE.out]; exact hlt
      have HTK : Hid (L.take (j + 1) = L.take j ++ [L.getD j 0]) := hide (by rw [List.take_succ_eq_append_getElem hjL]; simp [List.getD, hjL])
      have hcj := ((HLO.out.mono hB.out).cell hlt).2
      rw [toI_getD hjL] at hcj
      have hmem : L.getD j 0 ∈ L := by simp [List.getD, hjL]
      have HPU1 := hide (HME.out _ hmem)
      obtain ⟨P, hP⟩ : ∃ P, L.getD j 0 = P := ⟨_, rfl⟩
      rw [hP] at HTK hcj HPU1
      have hPn := HPU1.out.1
      have HPSC : Hid (∀ W1, Below wr.heap.size wr W1 → Calls Tryd.prog 11 #[.agg (gdA gW gH a n c), .int .i64 (m : Nat), .int .i64 (P : Nat)] W1 fun e w' => ∃ cb cc, e = .returned (.tuple #[.agg (gdA gW gH (some ⟨cb, 0, none⟩) n cc), .int .i64 0]) ∧ w'.ownsRow W1.heap.size 3 1 (.slice (some ⟨cb, 0, none⟩) n cc) n ((pz gW gH zs m P).map (Value.int .i64)) ∧ Below W1.heap.size W1 w') := hide (fun W1 hb => HPU1.out.2 W1 ((HDW.out.mono hB.out).mono hb) ((HTW.out.mono hB.out).mono hb) ((HRW.out.mono hB.out).mono hb))
      have Gr := HG9.out.below hB.out HG9.out.lt
      have HGR : Hid (∀ W4, Below wr.heap.size wr W4 → W4.rangeAt w.heap.size 0 [.int .i64 gW, .int .i64 gH, .slice a n c]) := hide (fun W4 hb => (Gr.below hb Gr.lt).range)
      have HLC : Hid (∀ W4, Below wr.heap.size wr W4 → W4.cell? ⟨lb, lo + j, none⟩ = some (.int .i64 (P : Nat))) := hide (fun W4 hb => (hb.cell (p := ⟨lb, lo + j, none⟩) (World.block_lt_of_cell? wr _ hcj)).trans hcj)
      clear hP hmem hcj Gr HPU1
      go_upto_region 14 with fail
      refine wp_region_held (S := fun W4 => Below wr.heap.size wr W4) (by kernel_rfl) ?_
      change wpAnyH _ _ _ _ _ _ _ _ (World.drew _)
      have SW : Below wr.heap.size wr wr.drew := (Below.refl _ wr).drew
      refine wpAnyH_take (i := 0) (v := .agg (gdA gW gH a n c)) rfl (by kernel_rfl) (by kernel_rfl) (by kernel_rfl) (fun _ _ _ h => h) (yieldsIf_load_mid (by rfl) 24 _ rfl w.heap.size 0 (by rfl) [.int .i64 gW, .int .i64 gH, .slice a n c] _ (fun W hW => HGR.out W hW) Tryd.underlying24 rfl size24) SW ?_
      go_simp
      refine wpAnyH_take (i := 1) (v := .int .i64 (m : Nat)) rfl (by kernel_rfl) (by kernel_rfl) (by kernel_rfl) (fun _ _ _ h => h) (Or.inl ⟨by rfl, ?_⟩) SW ?_
      · intro W4 hW4
        go_simp <;> first | done | rfl | (rw [IntKind.wrap_i64]; omega) | omega
      go_simp
      refine wpAnyH_take (i := 2) (v := .slice (some ⟨lb, lo, none⟩) ln lc) rfl (by kernel_rfl) (by kernel_rfl) (by kernel_rfl) (fun _ _ _ h => h) (Or.inl ⟨by rfl, ?_⟩) SW ?_
      · intro W4 hW4
        go_simp <;> first | done | rfl | (rw [IntKind.wrap_i64]; omega) | omega
      go_simp
      refine wpAnyH_take (i := 3) (v := .int .i64 (j : Nat)) rfl (by kernel_rfl) (by kernel_rfl) (by kernel_rfl) (fun _ _ _ h => h) (Or.inl ⟨by rfl, ?_⟩) SW ?_
      · intro W4 hW4
        go_simp <;> first | done | rfl | (rw [IntKind.wrap_i64]; omega) | omega
      go_simp
      refine wpAnyH_take (i := 4) (v := .pointer (some ⟨lb, lo + j, none⟩)) rfl (by kernel_rfl) (by kernel_rfl) (by kernel_rfl) (fun _ _ _ h => h) (Or.inl ⟨by rfl, ?_⟩) SW ?_
      · intro W4 hW4
        go_simp <;> first | done | rfl | (rw [IntKind.wrap_i64]; omega) | omega
      go_simp
      refine wpAnyH_take (i := 5) (v := .int .i64 (P : Nat)) rfl (by kernel_rfl) (by kernel_rfl) (by kernel_rfl) (fun _ _ _ h => h) (Or.inl ⟨by rfl, ?_⟩) SW ?_
      · intro W4 hW4
        have x0 := HLC.out W4 hW4
        go_simp <;> first | done | rfl | (rw [IntKind.wrap_i64]; omega) | omega
      go_simp
      refine wpAnyH_ready (rs := [6, 10]) (by kernel_rfl) (by simp) ?_
      refine AllReadyH.cons rfl (fun K1 hK1 => ?_) (AllReadyH.cons rfl (fun K1 hK1 => ?_) AllReadyH.nil)
      · go_simp
        refine (HPSC.out _ SW).mono ?_
        rintro r w5 ⟨cb, cc, rfl, hO5, hb5⟩
        have B5 := SW.trans (hb5.mono (by have := SW.size; omega))
        refine hK1.out _ _ B5 (fun SW => ?_)
        clear hK1 K1
        go_simp
        refine wpAnyH_take (i := 7) (v := .tuple #[.agg (gdA gW gH (some ⟨cb, 0, none⟩) n cc), .int .i64 0]) rfl (by kernel_rfl) (by kernel_rfl) (by kernel_rfl) (fun _ _ _ h => h) (Or.inl ⟨by rfl, ?_⟩) SW ?_
        · intro W4 hW4
          go_simp <;> first | done | rfl | (rw [IntKind.wrap_i64]; omega) | omega
        go_simp
        refine wpAnyH_take (i := 8) (v := .agg (gdA gW gH (some ⟨cb, 0, none⟩) n cc)) rfl (by kernel_rfl) (by kernel_rfl) (by kernel_rfl) (fun _ _ _ h => h) (Or.inl ⟨by rfl, ?_⟩) SW ?_
        · intro W4 hW4
          go_simp <;> first | done | rfl | (rw [IntKind.wrap_i64]; omega) | omega
        go_simp
        refine wpAnyH_take (i := 9) (v := .int .i64 0) rfl (by kernel_rfl) (by kernel_rfl) (by kernel_rfl) (fun _ _ _ h => h) (Or.inl ⟨by rfl, ?_⟩) SW ?_
        · intro W4 hW4
          go_simp <;> first | done | rfl | (rw [IntKind.wrap_i64]; omega) | omega
        go_simp
        refine wpAnyH_ready (rs := [10]) (by kernel_rfl) (by simp) ?_
        refine AllReadyH.cons rfl (fun K1 hK1 => ?_) AllReadyH.nil
        go_simp
        have hnb1 : wr.heap.size ≤ w5.heap.size := B5.size
        have KZ : Gd (w5.alloc (Obj.cells #[Value.int IntKind.i64 0, Value.int IntKind.i64 0, Value.slice none 0 0] 24)) w5.heap.size 0 0 none 0 0 := Gd.new w5 0 0 none 0 0
        have hOa := hO5.alloc (Obj.cells #[Value.int IntKind.i64 0, Value.int IntKind.i64 0, Value.slice none 0 0] 24)
        have hcn : cb ≠ w5.heap.size := by have := (hO5.lt cb rfl).2; omega
        refine hK1.out _ _ (B5.alloc B5.size _) (fun SW => ?_)
        clear hK1 K1
        go_simp
        refine wpAnyH_ready (rs := [11]) (by kernel_rfl) (by simp) ?_
        refine AllReadyH.cons rfl (fun K1 hK1 => ?_) AllReadyH.nil
        refine wp_store_gd (.tmp 19) (.tmp 82) rfl (w5.heap.size) rfl rfl KZ ?_
        intro w7 K7 kk7
        refine hK1.out _ _ (SW.trans ((kk7.mono (Y := fun q => wr.heap.size ≤ q) (fun q _ e => by omega)).below (B := wr.heap.size) (by have := SW.size; omega) (fun q hq e => by omega))) (fun SW => ?_)
        clear hK1 K1
        go_simp
        refine wpAnyH_ready (rs := [12]) (by kernel_rfl) (by simp) ?_
        refine AllReadyH.cons rfl (fun K1 hK1 => ?_) AllReadyH.nil
        go_simp
        refine hK1.out _ _ SW (fun SW => ?_)
        clear hK1 K1
        go_simp
        refine wpAnyH_done (by kernel_rfl) ?_ _
        have B7 : Below wr.heap.size wr w7 := SW
        have R7 : Rd w7 (some ⟨cb, 0, none⟩) n cc (pz gW gH zs m P) := by
          have := own_blk hOa (w' := w7) (fun g hg => by
            simp only [Value.ownBlock, Option.some.injEq] at hg
            rw [← hg]
            exact kk7.block _ (hOa.lt cb rfl).2 (by show ¬ cb = w5.heap.size; exact hcn))
          exact Rd.of_own (own_base this (Nat.zero_le _))
        have HC7 := hide (HCT.out P _ _ w7 ((HDW.out.mono hB.out).mono B7) ((HTW.out.mono hB.out).mono B7) R7)
        have hvb := HVB.out P
        have HFP := hide (HF.out P)
        have HB7 := hide (hB.out.trans (B7.mono hB.out.size))
        have c7 := HLC.out w7 B7
        obtain ⟨OV, hOV⟩ : ∃ OV, ob gW gH d (pz gW gH zs m P) mo = OV := ⟨_, rfl⟩
        rw [hOV] at HC7 hvb HFP
        clear SW kk7 R7 hOa hO5 hb5 B5 KZ hcn hOV
        go_wp2_with (refine wpList_load_gd rfl (.tmp 19) rfl (w5.heap.size) rfl K7 ?_)
        refine HC7.out.mono ?_
        rintro r w8 ⟨rfl, hb8⟩
        have HB8 := hide (HB7.out.trans (hb8.mono HB7.out.size))
        have c8 := (hb8.cell (p := ⟨lb, lo + j, none⟩) (World.block_lt_of_cell? w7 _ c7)).trans c7
        clear hb8 HC7 HB7 K7 c7 B7
        obtain ⟨vv, hvv⟩ : ∃ vv, OV.1 = vv := ⟨_, rfl⟩
        rw [hvv] at hvb HFP ⊢
        clear hvv
        by_cases hgt : s.1 < -vv
        · have hgt' : -vv > s.1 := hgt
          have HST : Hid (pickB f (L.take (j + 1)) = (-vv, some P)) := hide (by rw [HTK.out, pickB_snoc, ← hS.out]; unfold updB; rw [← HFP.out, if_pos hgt])
          clear hgt
          go_wp2_with fail
          refine ⟨⟨j + 1, (-vv, some P), by go_num, rfl, rfl, by omega, by show -1000 ≤ -vv ∧ -vv ≤ 64; omega, by show -1 ≤ (P : Int) ∧ (P : Int) ≤ 100; omega, hide HST.out.symm, HB8⟩, by simp [intOf]; omega⟩
        · have hgt' : ¬ -vv > s.1 := by omega
          have HST : Hid (pickB f (L.take (j + 1)) = s) := hide (by rw [HTK.out, pickB_snoc, ← hS.out]; unfold updB; rw [← HFP.out, if_neg hgt])
          clear hgt
          go_wp2_with fail
          refine ⟨⟨j + 1, s, by go_num, rfl, rfl, by omega, hsb, hsp, hide HST.out.symm, HB8⟩, by simp [intOf]; omega⟩
      · go_simp
        have KZ0 : Gd (wr.alloc (Obj.cells #[Value.int IntKind.i64 0, Value.int IntKind.i64 0, Value.slice none 0 0] 24)).drew wr.heap.size 0 0 none 0 0 := Gd.new wr 0 0 none 0 0
        refine hK1.out _ _ (SW.alloc SW.size _) (fun SW => ?_)
        clear hK1 K1
        go_simp
        refine wpAnyH_ready (rs := [6]) (by kernel_rfl) (by simp) ?_
        refine AllReadyH.cons rfl (fun K1 hK1 => ?_) AllReadyH.nil
        go_simp
        refine (HPSC.out _ SW).mono ?_
        rintro r w5 ⟨cb, cc, rfl, hO5, hb5⟩
        have B5 := SW.trans (hb5.mono (by have := SW.size; omega))
        refine hK1.out _ _ B5 (fun SW => ?_)
        clear hK1 K1
        go_simp
        refine wpAnyH_take (i := 7) (v := .tuple #[.agg (gdA gW gH (some ⟨cb, 0, none⟩) n cc), .int .i64 0]) rfl (by kernel_rfl) (by kernel_rfl) (by kernel_rfl) (fun _ _ _ h => h) (Or.inl ⟨by rfl, ?_⟩) SW ?_
        · intro W4 hW4
          go_simp <;> first | done | rfl | (rw [IntKind.wrap_i64]; omega) | omega
        go_simp
        refine wpAnyH_take (i := 8) (v := .agg (gdA gW gH (some ⟨cb, 0, none⟩) n cc)) rfl (by kernel_rfl) (by kernel_rfl) (by kernel_rfl) (fun _ _ _ h => h) (Or.inl ⟨by rfl, ?_⟩) SW ?_
        · intro W4 hW4
          go_simp <;> first | done | rfl | (rw [IntKind.wrap_i64]; omega) | omega
        go_simp
        refine wpAnyH_take (i := 9) (v := .int .i64 0) rfl (by kernel_rfl) (by kernel_rfl) (by kernel_rfl) (fun _ _ _ h => h) (Or.inl ⟨by rfl, ?_⟩) SW ?_
        · intro W4 hW4
          go_simp <;> first | done | rfl | (rw [IntKind.wrap_i64]; omega) | omega
        go_simp
        have KZ := KZ0.below hb5 KZ0.lt
        have hOa := hO5
        have hcn : cb ≠ wr.heap.size := by have h1 := (hO5.lt cb rfl).1; have h2 := KZ0.lt; omega
        clear KZ0
        refine wpAnyH_ready (rs := [11]) (by kernel_rfl) (by simp) ?_
        refine AllReadyH.cons rfl (fun K1 hK1 => ?_) AllReadyH.nil
        refine wp_store_gd (.tmp 19) (.tmp 82) rfl (wr.heap.size) rfl rfl KZ ?_
        intro w7 K7 kk7
        refine hK1.out _ _ (SW.trans ((kk7.mono (Y := fun q => wr.heap.size ≤ q) (fun q _ e => by omega)).below (B := wr.heap.size) (by have := SW.size; omega) (fun q hq e => by omega))) (fun SW => ?_)
        clear hK1 K1
        go_simp
        refine wpAnyH_ready (rs := [12]) (by kernel_rfl) (by simp) ?_
        refine AllReadyH.cons rfl (fun K1 hK1 => ?_) AllReadyH.nil
        go_simp
        refine hK1.out _ _ SW (fun SW => ?_)
        clear hK1 K1
        go_simp
        refine wpAnyH_done (by kernel_rfl) ?_ _
        have B7 : Below wr.heap.size wr w7 := SW
        have R7 : Rd w7 (some ⟨cb, 0, none⟩) n cc (pz gW gH zs m P) := by
          have := own_blk hOa (w' := w7) (fun g hg => by
            simp only [Value.ownBlock, Option.some.injEq] at hg
            rw [← hg]
            exact kk7.block _ (hOa.lt cb rfl).2 (by show ¬ cb = wr.heap.size; exact hcn))
          exact Rd.of_own (own_base this (Nat.zero_le _))
        have HC7 := hide (HCT.out P _ _ w7 ((HDW.out.mono hB.out).mono B7) ((HTW.out.mono hB.out).mono B7) R7)
        have hvb := HVB.out P
        have HFP := hide (HF.out P)
        have HB7 := hide (hB.out.trans (B7.mono hB.out.size))
        have c7 := HLC.out w7 B7
        obtain ⟨OV, hOV⟩ : ∃ OV, ob gW gH d (pz gW gH zs m P) mo = OV := ⟨_, rfl⟩
        rw [hOV] at HC7 hvb HFP
        clear SW kk7 R7 hOa hO5 hb5 B5 KZ hcn hOV
        go_wp2_with (refine wpList_load_gd rfl (.tmp 19) rfl (wr.heap.size) rfl K7 ?_)
        refine HC7.out.mono ?_
        rintro r w8 ⟨rfl, hb8⟩
        have HB8 := hide (HB7.out.trans (hb8.mono HB7.out.size))
        have c8 := (hb8.cell (p := ⟨lb, lo + j, none⟩) (World.block_lt_of_cell? w7 _ c7)).trans c7
        clear hb8 HC7 HB7 K7 c7 B7
        obtain ⟨vv, hvv⟩ : ∃ vv, OV.1 = vv := ⟨_, rfl⟩
        rw [hvv] at hvb HFP ⊢
        clear hvv
        by_cases hgt : s.1 < -vv
        · have hgt' : -vv > s.1 := hgt
          have HST : Hid (pickB f (L.take (j + 1)) = (-vv, some P)) := hide (by rw [HTK.out, pickB_snoc, ← hS.out]; unfold updB; rw [← HFP.out, if_pos hgt])
          clear hgt
          go_wp2_with fail
          refine ⟨⟨j + 1, (-vv, some P), by go_num, rfl, rfl, by omega, by show -1000 ≤ -vv ∧ -vv ≤ 64; omega, by show -1 ≤ (P : Int) ∧ (P : Int) ≤ 100; omega, hide HST.out.symm, HB8⟩, by simp [intOf]; omega⟩
        · have hgt' : ¬ -vv > s.1 := by omega
          have HST : Hid (pickB f (L.take (j + 1)) = s) := hide (by rw [HTK.out, pickB_snoc, ← hS.out]; unfold updB; rw [← HFP.out, if_neg hgt])
          clear hgt
          go_wp2_with fail
          refine ⟨⟨j + 1, s, by go_num, rfl, rfl, by omega, hsb, hsp, hide HST.out.symm, HB8⟩, by simp [intOf]; omega⟩
    · have hlt' : ¬ (j : Int) < (ln : Int) := by omega
      have HE : Hid (OB = s) := hide (by rw [HOB.out, hS.out, List.take_of_length_le (by rw [HLE.out]; omega)])
      obtain rfl := HE.out
      have q1 : (OB.1 == OB.1) = true := by simp
      have q2 : (plI OB.2 == plI OB.2) = true := by simp
      go_wp2_with fail
      go_ret
      exact ⟨rfl, HB9.out.trans (hB.out.mono HB9.out.size)⟩

theorem deep_any (W H : Int) (a : Option Addr) (n c : Nat) (zs : List Int) (who deep : Int) (w : World) (hTT : DTab w ∧ TzT w) (h : Rd w a n c zs) (_hr : n * 8 ≤ 140737488351232) (_hw : -9223372036854775808 ≤ who ∧ who ≤ 9223372036854775807) (hp : -9223372036854775808 ≤ deep ∧ deep ≤ 9223372036854775807) :
    Calls Tryd.prog 7 #[.agg (gdA W H a n c), .int .i64 who, .int .i64 deep] w fun e w' => e = .returned (.bool true) ∧ Below w.heap.size w w' := by
  by_cases hM : oMay W H zs = false
  · exact deep_short W H a n c zs who deep w hTT h hp 12 (by omega) (fun W1 h1 _ h3 => (Places_state W H a n c zs who W1 h1 h3 hM).mono (fun _ _ ⟨e1, e2⟩ => ⟨none, 0, e1, e2⟩))
  · obtain ⟨gW, gH, rfl, rfl, b⟩ := og_of h.len (by simpa using hM)
    by_cases hw1 : who = 1 ∨ who = 2
    · obtain ⟨m, rfl⟩ := Int.eq_ofNat_of_zero_le (show 0 ≤ who by omega)
      have hm : m = 1 ∨ m = 2 := by omega
      by_cases hs : sps gW gH zs m = []
      · refine deep_short gW gH a n c zs m deep w hTT h hp 0 (by omega) (fun W1 h1 h2 h3 => (Places_yes gW gH a n c zs m W1 h1 h2 h3 b hm).mono ?_)
        rintro e w' ⟨a', c', e1, -, e3⟩
        rw [hs] at e1
        exact ⟨a', c', e1, e3⟩
      · exact deep_moves gW gH a n c zs m deep w hTT h hp b hm hs
    · exact deep_short gW gH a n c zs who deep w hTT h hp 4 (by omega) (fun W1 h1 _ h3 => (Places_who gW gH a n c zs who W1 h1 h3 b (fun e => hw1 (Or.inl e)) (fun e => hw1 (Or.inr e))).mono (fun _ _ ⟨e1, e2⟩ => ⟨none, 0, e1, e2⟩))

end Go.Proofs.YtkmghlmniahgbaaDoor
