/-
  A stone is put: the board copied, what is taken, what is refused. No conditions beyond those that each theorem bears.
-/
import Derived.Test.YtafiaimlmdflnaaTk
namespace Go.Proofs.Ytafiaimlmdflnaa
open Go.RowKit Go.Shelf

theorem results_hb {fn : Func} {t : Tmp} (h : fn.results = #[.cell t 54]) (tmps : Array Value) (w : World) (b : Nat) (hb : tmps.getD t undef = .pointer (some ⟨b, 0, none⟩)) {W H : Int} {ad : Option Addr} {n c : Nat} (hr : Hb w b W H ad n c) :
    (results fn tmps).run Try.prog w = .ok (.agg (gdA W H ad n c)) w :=
  results_cell_row h tmps w b 54 _ (0, 0) _ hb hr Try.underlying54 rfl size54

theorem results_hb2 {fn : Func} {t u x : Tmp} (h : fn.results = #[.cell t 54, .tmp u, .tmp x]) (tmps : Array Value) (w : World) (b : Nat) (hb : tmps.getD t undef = .pointer (some ⟨b, 0, none⟩)) {W H : Int} {ad : Option Addr} {n c : Nat} (hr : Hb w b W H ad n c) {v v' : Value} (hv : tmps.getD u undef = v) (hv' : tmps.getD x undef = v') :
    (results fn tmps).run Try.prog w = .ok (.tuple #[.agg (gdA W H ad n c), v, v']) w := by
  have hb' : tmps[t]?.getD undef = .pointer (some ⟨b, 0, none⟩) := by simpa using hb
  have h1 : tmps[u]?.getD undef = v := by simpa using hv
  have h2 : tmps[x]?.getD undef = v' := by simpa using hv'
  have hl := run_loadVar_row (P := Try.prog) w b 54 54 (gdA W H ad n c) (0, 0) _ hr Try.underlying54 rfl size54
  simp [results, h, hb', h1, h2, asAddr, hl]

theorem results_gd2 {fn : Func} {t u x : Tmp} (h : fn.results = #[.cell t 24, .tmp u, .tmp x]) (tmps : Array Value) (w : World) (b : Nat) (hb : tmps.getD t undef = .pointer (some ⟨b, 0, none⟩)) {W H : Int} {ad : Option Addr} {n c : Nat} (hr : Gd w b W H ad n c) {v v' : Value} (hv : tmps.getD u undef = v) (hv' : tmps.getD x undef = v') :
    (results fn tmps).run Try.prog w = .ok (.tuple #[.agg (gdA W H ad n c), v, v']) w := by
  have hb' : tmps[t]?.getD undef = .pointer (some ⟨b, 0, none⟩) := by simpa using hb
  have h1 : tmps[u]?.getD undef = v := by simpa using hv
  have h2 : tmps[x]?.getD undef = v' := by simpa using hv'
  have hl := run_loadVar_row (P := Try.prog) w b 24 24 (gdA W H ad n c) (0, 0) _ hr Try.underlying24 rfl size24
  simp [results, h, hb', h1, h2, asAddr, hl]

theorem wpList_store_hb {ops : Array Oper} {rest : List Oper} {o : Oper} {a : Act} {w : World} {Q : Exit → Act → World → Prop} (hgd : o.guard = none) (x y : Operand) (ho : o.op = .store 54 x y)
    (b : Nat) {W H : Int} {ad : Option Addr} {n c : Nat} {W' H' : Int} {ad' : Option Addr} {n' c' : Nat} (hx : a.eval x = .pointer (some ⟨b, 0, none⟩)) (hy : a.eval y = .agg (gdA W H ad n c)) (hb : Hb w b W' H' ad' n' c')
    (h : ∀ w', Hb w' b W H ad n c → Keeps (fun k => k = b) w w' → wpList Try.prog ops Q rest (a.put o.dst undef) w') : wpList Try.prog ops Q (o :: rest) a w := by
  refine wpList_plain hgd fun _ hK => ?_
  have hb' : w.heap[b]? = _ := hb
  refine wp_store_row 54 x y ho b (gdA W H ad n c) hx hy 54 _ hb' size54 rfl (by simp [Value.oneCell']) ?_
  refine hK _ _ (h _ ?_ ?_)
  · simp [Hb, World.setRow, Array.getElem?_modify, hb']
  · exact ⟨rfl, rfl, rfl, by simp [World.setRow], fun k _ hk => by simp [World.setRow, Array.getElem?_modify, show ¬ b = k from fun e => hk e.symm]⟩

theorem IsPlace_any (W H : Int) (a : Option Addr) (n c : Nat) (x : Int) (w : World) :
    Calls Try.prog 31 #[.agg (gdA W H a n c), .int .i64 x] w fun e w' => e = .returned (.bool (decide (0 ≤ x ∧ x < n))) ∧ Below w.heap.size w w' := by
  have B := (Below.refl w.heap.size w).alloc (Nat.le_refl _) (.cells (gdA W H a n c) 24)
  have HB := hide B
  obtain ⟨-, -, g2⟩ := (Gd.new w W H a n c).cells
  clear B
  by_cases x0 : 0 ≤ x
  · go_enter Try.func31, Try.ntmps31
    go_wp2
    go_ret
    refine ⟨ret_bool ?_, HB.out⟩
    rw [Bool.eq_iff_iff]
    simp [x0]
  · go_enter Try.func31, Try.ntmps31
    go_wp2
    go_ret
    refine ⟨ret_bool ?_, HB.out⟩
    rw [Bool.eq_iff_iff]
    simp
    omega

theorem IsPlayer_any (x : Int) (w : World) : Calls Try.prog 54 #[.int .i64 x] w fun e w' => e = .returned (.bool (decide (x = 1 ∨ x = 2))) ∧ w' = w := by
  by_cases x1 : x = 1
  · subst x1
    go_enter Try.func54, Try.ntmps54
    go_wp2
    go_ret
    exact ⟨ret_bool (by simp), rfl⟩
  · have h1 : (x == 1) = false := by simpa using x1
    go_enter Try.func54, Try.ntmps54
    go_wp2
    go_ret
    refine ⟨ret_bool ?_, rfl⟩
    rw [Bool.eq_iff_iff]
    simp [x1]

attribute [local irreducible] D4 spr rgs rgsU lib goneU gone clr grp

set_option maxHeartbeats 4000000 in
theorem clone_any (W H : Nat) (N bc cb co : Nat) (Z : List Int) (w : World) (hN : N ≤ 100) (hN1 : 0 < N) (hR : Rd w (some ⟨cb, co, none⟩) N bc Z) :
    Calls Try.prog 55 #[.agg (gdA W H (some ⟨cb, co, none⟩) N bc)] w fun e w' => ∃ cb' bc', e = .returned (.agg (gdA W H (some ⟨cb', 0, none⟩) N bc')) ∧ Bw w' cb' N bc' Z ∧ w.heap.size ≤ cb' ∧ Below w.heap.size w w' := by
  obtain ⟨w1, hw1⟩ : ∃ w1, (w.alloc (.cells (gdA W H (some ⟨cb, co, none⟩) N bc) 54)).alloc (.cells (gdA 0 0 none 0 0) 54) = w1 := ⟨_, rfl⟩
  have B1 : Below w.heap.size w w1 := by rw [← hw1]; exact ((Below.refl _ w).alloc (Nat.le_refl _) _).alloc (by simp) _
  have s1 : w1.heap.size = w.heap.size + 2 := by rw [← hw1]; simp
  have K1 : Hb w1 w.heap.size W H (some ⟨cb, co, none⟩) N bc := by rw [← hw1]; exact (Hb.new w W H _ N bc).old _
  have K2 : Hb w1 (w.heap.size + 1) 0 0 none 0 0 := by
    rw [← hw1]
    have := Hb.new (w.alloc (.cells (gdA W H (some ⟨cb, co, none⟩) N bc) 54)) 0 0 none 0 0
    rwa [World.size_alloc] at this
  have R1 := hR.mono B1
  have HC := hide (Try.slices_Clone_int cb co N bc Z w1 (by rw [R1.len]; exact Nat.le_refl _) (by omega) (fun j hj => (R1.cell (by rw [← R1.len]; exact hj)).2))
  rw [List.take_of_length_le (by rw [R1.len]; exact Nat.le_refl _)] at HC
  obtain ⟨-, -, g2⟩ := K1.cells
  have HK1 := hide K1
  have HK2 := hide K2
  have HB1 := hide B1
  have HS1 := hide s1
  clear hR R1 B1 K1 K2 s1
  go_enter Try.func55, Try.ntmps55
  go_upto_region 1 with fail
  clear hw1
  go_wp2_with fail
  refine HC.out.mono ?_
  rintro e w2 ⟨v', rfl, hO, hne, hb2⟩
  obtain ⟨g, c', rfl, hgb⟩ := own_some hO hN1
  have K12 := HK1.out.below hb2 HK1.out.lt
  have K22 := HK2.out.below hb2 HK2.out.lt
  obtain ⟨-, -, g2'⟩ := K12.cells
  have f2 := K12.frozen 2
  have hgl := hO.lt g rfl
  have HO : Hid (Bw w2 g N c' Z) := hide (own_base hO (Nat.zero_le _))
  have HB2 : Hid (Below w.heap.size w w2) := hide (HB1.out.trans (hb2.mono HB1.out.size))
  have K13 := K12.setP (some ⟨g, 0, none⟩) N c'
  have kk := Keeps.set1 w2 w.heap.size 2 (.slice (some ⟨g, 0, none⟩) N c')
  have K23 := K22.keeps kk (by omega)
  have HG : Hid (w.heap.size + 2 ≤ g) := hide (by have := HS1.out; omega)
  have HO3 := hide (HO.out.keeps kk (by have := HG.out; omega))
  have HB3 : Hid (Below w.heap.size w (w2.setCell ⟨w.heap.size, 2, none⟩ (.slice (some ⟨g, 0, none⟩) N c'))) := hide (HB2.out.trans (kk.below HB2.out.size (fun k hk e => by omega)))
  clear hO hne hb2 K12 K22 hgb hgl HC g2 kk HO HB2
  go_upto_region 2 with fail
  generalize w2.setCell ⟨w.heap.size, 2, none⟩ (.slice (some ⟨g, 0, none⟩) N c') = w3 at *
  clear g2' f2
  go_wp2_with (first
    | refine wpList_load_hb rfl (.tmp 1) rfl w.heap.size rfl K13 ?_
    | (refine wpList_store_hb rfl (.tmp 2) (.tmp 9) rfl (w.heap.size + 1) rfl rfl K23 ?_; intro w6 k6 kk6))
  refine bodyPost_ret (results_hb rfl _ _ (w.heap.size + 1) rfl k6) rfl ⟨g, c', rfl, ?_, ?_, ?_⟩
  · exact HO3.out.keeps kk6 (by have := HG.out; omega)
  · have := HG.out; omega
  · exact HB3.out.trans (kk6.below HB3.out.size (fun k hk e => by omega))

/-- The board behind a stone put, before what it has taken is away; and behind it. -/
noncomputable def pz (W H : Nat) (Z : List Int) (m p : Nat) : List Int := clr (Z.set p (m : Int)) (gone W H (Z.set p (m : Int)) ((3 - m : Nat) : Int))
/-- How many are taken. -/
noncomputable def pt (W H : Nat) (Z : List Int) (m p : Nat) : Nat := (gone W H (Z.set p (m : Int)) ((3 - m : Nat) : Int)).length
/-- The stone's group has liberties. -/
def pok (W H : Nat) (Z : List Int) (m p : Nat) : Prop := ¬ (lib W H (pz W H Z m p) (grp W H (pz W H Z m p) p)).length = 0

theorem grp_facts (W H : Nat) (Z : List Int) (p : Nat) (hp : p < W * H) : 0 < (grp W H Z p).length ∧ (∀ x ∈ grp W H Z p, x < W * H) ∧ (grp W H Z p).length ≤ W * H := by
  refine ⟨List.length_pos_of_mem (a := p) ?_, fun x hx => ?_, ?_⟩
  · rw [grp]; exact mem_spr.2 (.refl hp rfl)
  · rw [grp] at hx; exact (mem_spr.1 hx).lt
  · rw [grp, spr]; exact pls_len _ _


set_option maxRecDepth 100000 in
set_option maxHeartbeats 16000000 in
theorem put_any (W H N bc cb co m p : Nat) (Z : List Int) (w : World) (hW : 1 ≤ W ∧ W ≤ 10) (hH : 1 ≤ H ∧ H ≤ 10) (hN : W * H = N) (hp : p < N) (hm : m = 1 ∨ m = 2) (hz : Z.getD p 0 = 0) (hR : Rd w (some ⟨cb, co, none⟩) N bc Z) :
    Calls Try.prog 36 #[.agg (gdA W H (some ⟨cb, co, none⟩) N bc), .int .i64 m, .int .i64 p] w fun e w' => Below w.heap.size w w' ∧ ((pok W H Z m p ∧ ∃ cb' bc', e = .returned (.tuple #[.agg (gdA W H (some ⟨cb', 0, none⟩) N bc'), .int .i64 (pt W H Z m p : Nat), .int .i64 0]) ∧ Bw w' cb' N bc' (pz W H Z m p) ∧ w.heap.size ≤ cb') ∨ (¬ pok W H Z m p ∧ e = .returned (.tuple #[.agg (gdA 0 0 none 0 0), .int .i64 0, .int .i64 8]))) := by
  have hN100 : N ≤ 100 := by rw [← hN]; exact Nat.mul_le_mul hW.2 hH.2
  have hp' : (p : Int) < (N : Int) := by omega
  have hcap := hR.cap
  have hmx : bc ≤ 9223372036854775807 := by have := hR.max; unfold maxLen at this; omega
  have hm3 : m ≤ 2 := by omega
  have HZL := hide hR.len
  obtain ⟨w1, hw1⟩ : ∃ w1, (w.alloc (.cells (gdA W H (some ⟨cb, co, none⟩) N bc) 54)).alloc (.cells (gdA 0 0 none 0 0) 54) = w1 := ⟨_, rfl⟩
  have B1 : Below w.heap.size w w1 := by rw [← hw1]; exact ((Below.refl _ w).alloc (Nat.le_refl _) _).alloc (by simp) _
  have s1 : w1.heap.size = w.heap.size + 2 := by rw [← hw1]; simp
  have K1 : Hb w1 w.heap.size W H (some ⟨cb, co, none⟩) N bc := by rw [← hw1]; exact (Hb.new w W H _ N bc).old _
  have K2 : Hb w1 (w.heap.size + 1) 0 0 none 0 0 := by
    rw [← hw1]
    have := Hb.new (w.alloc (.cells (gdA W H (some ⟨cb, co, none⟩) N bc) 54)) 0 0 none 0 0
    rwa [World.size_alloc] at this
  have R1 := hR.mono B1
  have HIP := hide (IsPlace_any W H (some ⟨cb, co, none⟩) N bc p w1)
  rw [decide_eq_true (show 0 ≤ (p : Int) ∧ (p : Int) < N by omega)] at HIP
  have HGA : Hid (∀ W4, Below w1.heap.size w1 W4 → W4.rangeAt w.heap.size 0 [.int .i64 W, .int .i64 H, .slice (some ⟨cb, co, none⟩) N bc]) := hide (fun W4 hb => (K1.below hb K1.lt).range)
  have hg1 := (HGA.out w1 (Below.refl _ _))
  have HK1 := hide K1
  have HK2 := hide K2
  have HB1 := hide B1
  have HS1 := hide s1
  have HR1 := hide R1
  clear hR R1 B1 K1 K2 s1
  go_enter Try.func36, Try.ntmps36
  go_upto_region 1 with fail
  clear hw1
  go_wp2_with (refine wpList_load_mid rfl 24 _ rfl w.heap.size 0 rfl [.int .i64 W, .int .i64 H, .slice (some ⟨cb, co, none⟩) N bc] _ hg1 Try.underlying24 rfl size24 ?_)
  refine HIP.out.mono ?_
  rintro e w2 ⟨rfl, hb2⟩
  have K12 := HK1.out.below hb2 HK1.out.lt
  have HK22 := hide (HK2.out.below hb2 HK2.out.lt)
  have R2 := HR1.out.mono hb2
  have cz := (R2.cell hp).2
  rw [hz] at cz
  obtain ⟨-, -, g2⟩ := K12.cells
  have HCL := hide (clone_any W H N bc cb co Z w2 hN100 (by omega) R2)
  have HB2 : Hid (Below w.heap.size w w2) := hide (HB1.out.trans (hb2.mono HB1.out.size))
  have HS2 : Hid (w.heap.size + 2 ≤ w2.heap.size) := hide (by have := HS1.out; have := hb2.size; omega)
  clear hb2 HIP R2 HK2 HB1 HS1 HK1 HR1 hg1 HGA
  go_wp2_with (first | (refine wpList_load_hb rfl (.tmp 3) rfl w.heap.size rfl K12 ?_) | fail)
  refine HCL.out.mono ?_
  rintro e w3 ⟨g, c2, rfl, hBw, hg, hb3⟩
  have HBW3 := hide hBw
  have HK23 := hide (HK22.out.below hb3 HK22.out.lt)
  have HB3 : Hid (Below w.heap.size w w3) := hide (HB2.out.trans (hb3.mono HB2.out.size))
  have HG : Hid (w.heap.size + 2 ≤ g ∧ g < w3.heap.size) := hide ⟨by have := HS2.out; omega, hBw.lt⟩
  have HN0 := hide (Hb.new w3 W H (some ⟨g, 0, none⟩) N c2)
  clear hBw hg hb3 HCL g2 cz K12
  obtain ⟨w4, hw4⟩ : ∃ w4, w3.alloc (.cells (gdA W H (some ⟨g, 0, none⟩) N c2) 54) = w4 := ⟨_, rfl⟩
  have B4 : Below w3.heap.size w3 w4 := by rw [← hw4]; exact (Below.refl _ _).alloc (Nat.le_refl _) _
  have s4 : Hid (w4.heap.size = w3.heap.size + 1) := hide (by rw [← hw4]; simp)
  rw [hw4] at HN0
  have HBW4 := hide (HBW3.out.mono B4)
  have HK24 := hide (HK23.out.below B4 HK23.out.lt)
  have HB4 : Hid (Below w.heap.size w w4) := hide (HB3.out.trans (B4.mono HB3.out.size))
  have HW4 := hide hw4
  clear hw4 B4 HBW3 HK23
  go_upto_region 6 with fail
  rw [HW4.out]
  clear HW4
  obtain ⟨-, -, g2⟩ := HN0.out.cells
  have cx := (HBW4.out.rd.cell hp).2
  rw [Nat.zero_add] at cx
  have fx := HBW4.out.frozen p
  have hcc : N ≤ c2 := HBW4.out.rd.cap
  have hcm : c2 ≤ 9223372036854775807 := by have := HBW4.out.rd.max; unfold maxLen at this; omega
  obtain ⟨w5, hw5⟩ : ∃ w5, w4.setCell ⟨g, p, none⟩ (.int .i64 m) = w5 := ⟨_, rfl⟩
  have k45 : Keeps (fun k => k = g) w4 w5 := by rw [← hw5]; exact Keeps.set1 _ _ _ _
  have HBW5 : Hid (Bw w5 g N c2 (Z.set p (m : Int))) := hide (by rw [← hw5]; exact HBW4.out.set p m)
  have hgn := HG.out
  have HN5 := hide (HN0.out.keeps k45 (by omega))
  have HK25 := hide (HK24.out.keeps k45 (by omega))
  have HB5 : Hid (Below w.heap.size w w5) := hide (HB4.out.trans (k45.below HB4.out.size (fun k hk e => by omega)))
  have s5 : Hid (w4.heap.size ≤ w5.heap.size) := hide k45.size
  have HW5 := hide hw5
  clear hw5 k45 HBW4 HN0 HK24 HB4 hgn
  go_upto_region 7 with fail
  rw [HW5.out]
  clear HW5 cx fx g2
  have HTK := hide (take_any W H N c2 g ((3 - m : Nat) : Int) (Z.set p (m : Int)) )
  have HGR : Hid (∀ W4, Below w5.heap.size w5 W4 → W4.rangeAt w3.heap.size 0 [.int .i64 W, .int .i64 H, .slice (some ⟨g, 0, none⟩) N c2]) := hide (fun W4 hb => (HN5.out.below hb HN5.out.lt).range)
  refine wp_calm ?_
  refine wp_region_held (S := fun W4 => W4.rangeAt w3.heap.size 0 [.int .i64 W, .int .i64 H, .slice (some ⟨g, 0, none⟩) N c2]) (by kernel_rfl) ?_
  change wpAnyH _ _ _ _ _ _ _ _ (World.drew _)
  have SW : w5.drew.rangeAt w3.heap.size 0 [.int .i64 W, .int .i64 H, .slice (some ⟨g, 0, none⟩) N c2] := HGR.out _ (Below.refl _ _).drew
  refine wpAnyH_take (i := 0) (v := .agg (gdA W H (some ⟨g, 0, none⟩) N c2)) rfl (by kernel_rfl) (by kernel_rfl) (by kernel_rfl) (fun _ _ _ h => h) (yieldsIf_load_mid (by rfl) 54 _ rfl w3.heap.size 0 (by rfl) [.int .i64 W, .int .i64 H, .slice (some ⟨g, 0, none⟩) N c2] _ (fun W4 hW4 => hW4) Try.underlying54 rfl size54) SW ?_
  go_simp
  refine wpAnyH_take (i := 1) (v := .int .i64 m) rfl (by kernel_rfl) (by kernel_rfl) (by kernel_rfl) (fun _ _ _ h => h) (Or.inl ⟨by rfl, ?_⟩) SW ?_
  · intro W4 hW4
    go_simp <;> first | done | rfl | (rw [IntKind.wrap_i64]; omega) | omega
  go_simp
  refine wpAnyH_ready (rs := [2]) (by kernel_rfl) (by simp) ?_
  refine AllReadyH.cons rfl (fun K1 hK1 => ?_) AllReadyH.nil
  go_simp
  refine (theOther_any m (by omega) _).mono ?_
  rintro e w6 ⟨rfl, hw6⟩
  subst w6
  refine hK1.out _ _ SW (fun SW => ?_)
  clear hK1 K1
  refine wpAnyH_ready (rs := [3]) (by kernel_rfl) (by simp) ?_
  refine AllReadyH.cons rfl (fun K1 hK1 => ?_) AllReadyH.nil
  go_simp
  refine (HTK.out w5.drew hW hH hN (HBW5.out.mono (Below.refl _ _).drew)).mono ?_
  rintro e w6 ⟨rfl, hBw6, hk6⟩
  have k56 : Keeps (fun k => k = g) w5 w6 := ((Keeps.refl _ w5).drew).trans hk6
  have hgn := HG.out
  have HN6 := hide (HN5.out.keeps k56 (by omega))
  have HK26 := hide (HK25.out.keeps k56 (by omega))
  have HB6 : Hid (Below w.heap.size w w6) := hide (HB5.out.trans (k56.below HB5.out.size (fun k hk e => by omega)))
  have s6 : Hid (w5.heap.size ≤ w6.heap.size) := hide k56.size
  have HBW6 : Hid (Bw w6 g N c2 (pz W H Z m p)) := hide (by rw [pz]; exact hBw6)
  refine hK1.out _ _ HN6.out.range (fun SW => ?_)
  have HPT : Hid ((gone W H (Z.set p (m : Int)) ((3 - m : Nat) : Int)).length = pt W H Z m p) := hide (by rw [pt])
  have hptb : pt W H Z m p ≤ 100 := by
    rw [pt, gone]
    exact Nat.le_trans (goneU_len (List.prefix_refl _)) (by rw [hN]; exact hN100)
  rw [HPT.out]
  clear hK1 K1 hBw6 hk6 k56 hgn HBW5 HN5 HK25 HB5 HTK HGR HPT
  obtain ⟨PT, hPT⟩ : ∃ PT, pt W H Z m p = PT := ⟨_, rfl⟩
  rw [hPT] at hptb ⊢
  have HPTE := hide hPT
  clear hPT
  refine wpAnyH_take (i := 4) (v := .int .i64 (PT : Nat)) rfl (by kernel_rfl) (by kernel_rfl) (by kernel_rfl) (fun _ _ _ h => h) (Or.inl ⟨by rfl, ?_⟩) SW ?_
  · intro W4 hW4
    go_simp <;> first | done | rfl | (rw [IntKind.wrap_i64]; omega) | omega
  go_simp
  refine wpAnyH_done (by kernel_rfl) ?_ _
  clear SW
  go_upto_region 8 with fail
  have HGP := hide (fun W4 hb => group_any p W H N c2 g 0 (pz W H Z m p) W4 hW hH hN hp (HBW6.out.mono hb).rd)
  obtain ⟨q1, q2, q3⟩ := grp_facts W H (pz W H Z m p) p (by rw [hN]; exact hp)
  have HLB := hide (fun W4 (hb : Below w6.heap.size w6 W4) (pa : Option Addr) (pc : Nat) hP => liberties_any W H N c2 g 0 (pz W H Z m p) pa pc (grp W H (pz W H Z m p) p) W4 hW hH hN q2 (by rw [hN] at q3; omega) q1 (HBW6.out.mono hb).rd hP)
  have HPK : Hid (pok W H Z m p ↔ ¬ (lib W H (pz W H Z m p) (grp W H (pz W H Z m p) p)).length = 0) := hide (by rw [pok])
  have hllb : (lib W H (pz W H Z m p) (grp W H (pz W H Z m p) p)).length ≤ 100 := by have := lib_len W H (pz W H Z m p) (grp W H (pz W H Z m p) p); rw [hN] at this; omega
  clear q1 q2 q3
  obtain ⟨ZZ, hZZ⟩ : ∃ ZZ, pz W H Z m p = ZZ := ⟨_, rfl⟩
  rw [hZZ] at HGP HLB HPK HBW6 hllb
  have HZZ := hide hZZ
  obtain ⟨GP, hGP⟩ : ∃ GP, grp W H ZZ p = GP := ⟨_, rfl⟩
  rw [hGP] at HGP HLB HPK hllb
  obtain ⟨LL, hLL⟩ : ∃ LL, lib W H ZZ GP = LL := ⟨_, rfl⟩
  rw [hLL] at HLB HPK hllb
  obtain ⟨ll, hll⟩ : ∃ ll, LL.length = ll := ⟨_, rfl⟩
  rw [hll] at HLB HPK hllb
  clear hZZ hGP hll hLL
  have HGR : Hid (∀ W4, Below w6.heap.size w6 W4 → W4.rangeAt w3.heap.size 0 [.int .i64 W, .int .i64 H, .slice (some ⟨g, 0, none⟩) N c2]) := hide (fun W4 hb => (HN6.out.below hb HN6.out.lt).range)
  refine wp_calm ?_
  refine wp_region_held (S := fun W4 => Below w6.heap.size w6 W4) (by kernel_rfl) ?_
  change wpAnyH _ _ _ _ _ _ _ _ (World.drew _)
  have SW : Below w6.heap.size w6 w6.drew := (Below.refl _ w6).drew
  refine wpAnyH_take (i := 0) (v := .agg (gdA W H (some ⟨g, 0, none⟩) N c2)) rfl (by kernel_rfl) (by kernel_rfl) (by kernel_rfl) (fun _ _ _ h => h) (yieldsIf_load_mid (by rfl) 54 _ rfl w3.heap.size 0 (by rfl) [.int .i64 W, .int .i64 H, .slice (some ⟨g, 0, none⟩) N c2] _ (fun W4 hW4 => HGR.out W4 hW4) Try.underlying54 rfl size54) SW ?_
  go_simp
  refine wpAnyH_take (i := 1) (v := .agg (gdA W H (some ⟨g, 0, none⟩) N c2)) rfl (by kernel_rfl) (by kernel_rfl) (by kernel_rfl) (fun _ _ _ h => h) (yieldsIf_load_mid (by rfl) 54 _ rfl w3.heap.size 0 (by rfl) [.int .i64 W, .int .i64 H, .slice (some ⟨g, 0, none⟩) N c2] _ (fun W4 hW4 => HGR.out W4 hW4) Try.underlying54 rfl size54) SW ?_
  go_simp
  refine wpAnyH_take (i := 2) (v := .int .i64 p) rfl (by kernel_rfl) (by kernel_rfl) (by kernel_rfl) (fun _ _ _ h => h) (Or.inl ⟨by rfl, ?_⟩) SW ?_
  · intro W4 hW4
    go_simp <;> first | done | rfl | (rw [IntKind.wrap_i64]; omega) | omega
  go_simp
  refine wpAnyH_ready (rs := [3]) (by kernel_rfl) (by simp) ?_
  refine AllReadyH.cons rfl (fun K1 hK1 => ?_) AllReadyH.nil
  go_simp
  refine (HGP.out _ SW).mono ?_
  rintro e w7 ⟨pa, pc, rfl, hO7, hb7⟩
  have B7 : Below w6.heap.size w6 w7 := SW.trans (hb7.mono (by simp))
  have HP7 := hide (Rd.of_own hO7)
  refine hK1.out _ _ B7 (fun SW => ?_)
  clear hK1 K1 hO7 hb7
  refine wpAnyH_ready (rs := [4]) (by kernel_rfl) (by simp) ?_
  refine AllReadyH.cons rfl (fun K1 hK1 => ?_) AllReadyH.nil
  go_simp
  refine (HLB.out _ SW pa pc HP7.out).mono ?_
  rintro e w8 ⟨la, lc, rfl, hRl, hb8⟩
  have B8 : Below w6.heap.size w6 w8 := SW.trans (hb8.mono SW.size)
  have hlc : ll ≤ lc := hRl.cap
  refine hK1.out _ _ B8 (fun SW => ?_)
  clear hK1 K1 hRl hb8 HP7 B7
  refine wpAnyH_take (i := 5) (v := .int .i64 (ll : Nat)) rfl (by kernel_rfl) (by kernel_rfl) (by kernel_rfl) (fun _ _ _ h => h) (Or.inl ⟨by rfl, ?_⟩) SW ?_
  · intro W4 hW4
    go_simp <;> first | done | rfl | (rw [IntKind.wrap_i64]; omega) | omega
  go_simp
  refine wpAnyH_take (i := 6) (v := .bool ((ll : Int) == 0)) rfl (by kernel_rfl) (by kernel_rfl) (by kernel_rfl) (fun _ _ _ h => h) (Or.inl ⟨by rfl, ?_⟩) SW ?_
  · intro W4 hW4
    go_simp <;> first | done | rfl | (rw [IntKind.wrap_i64]; omega) | omega
  go_simp
  refine wpAnyH_done (by kernel_rfl) ?_ _
  clear SW
  have HBW8 := hide (HBW6.out.mono B8)
  have N8 := HN6.out.below B8 HN6.out.lt
  have K8 := HK26.out.below B8 HK26.out.lt
  have HB8 : Hid (Below w.heap.size w w8) := hide (HB6.out.trans (B8.mono HB6.out.size))
  have HG8 : Hid (w.heap.size + 2 ≤ g) := hide HG.out.1
  have HW38 : Hid (w.heap.size + 2 ≤ w3.heap.size) := hide (by have := HG.out; omega)
  clear B8 HBW6 HN6 HK26 HB6 HGP HLB HGR
  by_cases hl0 : ll = 0
  · subst hl0
    have hbz : ((0 : Nat) : Int) == 0 := rfl
    go_wp2_with (first
      | (refine wpList_store_hb rfl (.tmp 6) (.tmp 44) rfl (w.heap.size + 1) rfl rfl K8 ?_; intro w9 k9 kk9))
    refine bodyPost_ret (results_hb2 rfl _ _ (w.heap.size + 1) rfl k9 rfl rfl) rfl ⟨HB8.out.trans (kk9.below HB8.out.size (fun k hk e => by omega)), .inr ⟨fun h => (HPK.out.1 h) (by first | trivial | rfl), rfl⟩⟩
  · have hbz : (((ll : Nat) : Int) == 0) = false := by simpa using hl0
    go_wp2_with (first
      | refine wpList_load_hb rfl (.tmp 9) rfl w3.heap.size rfl N8 ?_
      | (refine wpList_store_hb rfl (.tmp 6) (.tmp 45) rfl (w.heap.size + 1) rfl rfl K8 ?_; intro w9 k9 kk9))
    refine bodyPost_ret (results_hb2 rfl _ _ (w.heap.size + 1) rfl k9 rfl rfl) rfl ⟨HB8.out.trans (kk9.below HB8.out.size (fun k hk e => by omega)), .inl ⟨HPK.out.2 hl0, g, c2, by rw [HPTE.out]; rfl, by rw [HZZ.out]; exact HBW8.out.keeps kk9 (by have := HG8.out; omega), by have := HG8.out; omega⟩⟩

end Go.Proofs.Ytafiaimlmdflnaa
