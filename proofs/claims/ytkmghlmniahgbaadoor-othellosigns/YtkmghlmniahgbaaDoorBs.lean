/-
  The program's search between bounds, walked. No conditions beyond those that each theorem bears.
-/
import Derived.Test.YtkmghlmniahgbaaDoorOv
namespace Go.Proofs.YtkmghlmniahgbaaDoor
open Go.RowKit Go.Shelf

theorem results_two3 {fn : Func} {t u : Tmp} (h : fn.results = #[.tmp t, .tmp u]) (tmps : Array Value) (w : World) {a b : Value} (ha : tmps.getD t undef = a) (hb : tmps.getD u undef = b) :
    (results fn tmps).run Tryd.prog w = .ok (.tuple #[a, b]) w := by
  have ha' : tmps[t]?.getD undef = a := by simpa using ha
  have hb' : tmps[u]?.getD undef = b := by simpa using hb
  simp [results, h, ha', hb']

/-- The search at one board, so many moves deep. -/
def BsAt (W H l : Nat) (Z : List Int) (m : Nat) : Prop := ∀ (least most : Int) (w : World), -65 ≤ least → least < most → most ≤ 65 → DTab w →
  Calls Tryd.prog 43 #[.agg (brd W H Z m), .int .i64 (l : Nat), .int .i64 least, .int .i64 most] w fun e w' => ∃ r a, e = .returned (.tuple #[.int .i64 r, .int .u64 (a : Nat)]) ∧ AB W (ob W H l Z m) least most r a ∧ Below w.heap.size w w'

set_option maxRecDepth 100000 in
set_option maxHeartbeats 2000000 in
theorem bs_zero (W H : Nat) (hW : 1 ≤ W ∧ W ≤ 8) (hH : H ≤ 8) (Z : List Int) (m : Nat) : BsAt W H 0 Z m := by
  intro least most w h1 h2 h3 hT
  have hWH : W * H ≤ 64 := by have : W * H ≤ 8 * 8 := Nat.mul_le_mul hW.2 hH; omega
  have HAB : Hid (AB W (ldd W H Z m, none) least most (ldd W H Z m) 0) := hide (AB.exact (ldd_bd hWH Z m))
  rw [ob_zero]
  have HC := hide (fun W1 => lead_any (W := W) (H := H) (Z := Z) (m := m) hW hH W1)
  dsimp only [brd] at HC ⊢
  generalize so W H Z m = o at *
  generalize so W H Z (3 - m) = t at *
  generalize so W H Z 0 = e at *
  generalize ldd W H Z m = R at *
  clear hT hWH hW hH
  refine (callsIn_wide (n := 3)).1 ?_
  refine callsIn_of_wp_marks Tryd.func43 rfl trivial ?_ rfl
  simp only [Tryd.ntmps43, List.size_toArray, List.length_cons, List.length_nil, Nat.reduceAdd, Nat.reduceSub, Array.replicate_succ, Array.replicate_zero, List.push_toArray, List.append_toArray, List.nil_append, List.cons_append]
  refine wpIn_wide.2 ?_
  go_upto_region 1 with fail
  obtain ⟨w1, hw1⟩ : ∃ w1, ((w.alloc (.cells (bdA o t e) 55)).alloc (.cells #[.int .i64 0] 3)).alloc (.cells #[.int .i64 most] 3) = w1 := ⟨_, rfl⟩
  have K1 : Bd w1 w.heap.size o t e := by rw [← hw1]; exact ((Bd.new w o t e).old _).old _
  have cl1 : w1.cell? ⟨w.heap.size + 1, 0, none⟩ = some (.int .i64 0) := by
    rw [← hw1]
    have := old_cell (.cells #[.int .i64 most] 3) (new_cell (w.alloc (.cells (bdA o t e) 55)) (.int .i64 0) 3)
    rw [World.size_alloc] at this
    exact this
  have HB1 : Hid (Below w.heap.size w w1) := hide (by rw [← hw1]; exact (((Below.refl _ w).alloc (Nat.le_refl _) _).alloc (by simp) _).alloc (by simp; omega) _)
  rw [hw1]
  clear hw1
  go_wp2_with (refine wpList_load_bd rfl (.tmp 4) rfl w.heap.size rfl K1 ?_)
  refine (HC.out _).mono ?_
  rintro r w2 ⟨rfl, hb2⟩
  have HB2 := hide (HB1.out.trans (hb2.mono HB1.out.size))
  clear hb2
  go_wp2_with fail
  exact ⟨_, results_two3 rfl _ _ rfl rfl, _, _, rfl, HAB.out, HB2.out⟩

attribute [local irreducible] so mvS ob pz bln num sps
attribute [local go_sem] Oper.semAt_some wide_fn wide_fn0 wide_depth

set_option maxRecDepth 100000 in
set_option maxHeartbeats 8000000 in
theorem bs_moves (W H l : Nat) (hW : 1 ≤ W ∧ W ≤ 8) (hH : H ≤ 8) (Z : List Int) (m : Nat) (hm : m = 1 ∨ m = 2) (hl : l ≤ 5) (hs : sps W H Z m ≠ []) (ih : ∀ p, BsAt W H l (pz W H Z m p) (3 - m)) : BsAt W H (l + 1) Z m := by
  intro least most w h1 h2 h3 hT
  have HM1 := hide (fun W1 h1 => moves_any (Z := Z) hW hH hm W1 h1)
  have HMV0 : Hid (mvS W H Z m ≠ 0) := hide (fun e => hs ((mvS_zero hW hH Z m).1 e))
  have HPT : Hid (∀ x, x ∈ bln (mvS W H Z m) 64 → ∀ W1, DTab W1 → Calls Tryd.prog 52 #[.agg (brd W H Z m), .int .u64 (2 ^ x : Nat)] W1 fun e w' => e = .returned (.agg (brd W H (pz W H Z m (num W x)) (3 - m))) ∧ Below W1.heap.size W1 w') := hide (fun x hx W1 h1 => by
    obtain ⟨a1, a2, a3, _⟩ := mv_bit hW hH hx
    rw [a3]
    exact put_any hW hH hm a1 a2 W1 h1)
  have HCT : Hid (∀ x (lo hi : Int), -65 ≤ lo → lo < hi → hi ≤ 65 → ∀ W1, DTab W1 → Calls Tryd.prog 43 #[.agg (brd W H (pz W H Z m (num W x)) (3 - m)), .int .i64 (l : Nat), .int .i64 lo, .int .i64 hi] W1 fun e w' => ∃ r a, e = .returned (.tuple #[.int .i64 r, .int .u64 (a : Nat)]) ∧ AB W (ob W H l (pz W H Z m (num W x)) (3 - m)) lo hi r a ∧ Below W1.heap.size W1 w') := hide (fun x lo hi a1 a2 a3 W1 h1 => ih (num W x) lo hi W1 a1 a2 a3 h1)
  have HOB : Hid (ob W H (l + 1) Z m = ((pickB (fun x => - (ob W H l (pz W H Z m (num W x)) (3 - m)).1) (bln (mvS W H Z m) 64)).1, (pickB (fun x => - (ob W H l (pz W H Z m (num W x)) (3 - m)).1) (bln (mvS W H Z m) 64)).2.map (num W))) := hide (by
    rw [ob_own hs, ← mvS_places hW hH, pickB_map])
  have HMVL := hide (mvS_lt W H Z m)
  have HBL : Hid (∀ x, x ∈ bln (mvS W H Z m) 64 → x < 64) := hide (fun x hx => (mem_bln.1 hx).1)
  have HT := hide hT
  have h0w := hT.lt
  obtain ⟨f, hf⟩ : ∃ f : Nat → Int, (fun x => - (ob W H l (pz W H Z m (num W x)) (3 - m)).1) = f := ⟨_, rfl⟩
  have HF : Hid (∀ x, - (ob W H l (pz W H Z m (num W x)) (3 - m)).1 = f x) := hide (fun x => by rw [← hf])
  rw [hf] at HOB
  obtain ⟨s, hs'⟩ : ∃ s, ob W H (l + 1) Z m = s := ⟨_, rfl⟩
  rw [hs'] at HOB ⊢
  obtain ⟨L1, hL1⟩ : ∃ L1 : Nat, l + 1 = L1 := ⟨_, rfl⟩
  have HL1 := hide hL1
  have hl6 : (L1 : Int) ≤ 6 := by omega
  have hl0 : ((L1 : Int) == 0) = false := by rw [beq_eq_false_iff_ne]; omega
  rw [hL1]
  dsimp only [brd] at HM1 HPT HCT ⊢
  clear hf hs' hL1 ih hT hm hW hH hs
  obtain ⟨MV, hMV⟩ : ∃ MV, mvS W H Z m = MV := ⟨_, rfl⟩
  rw [hMV] at HM1 HMV0 HPT HOB HMVL HBL
  obtain ⟨o, ho⟩ : ∃ o, so W H Z m = o := ⟨_, rfl⟩
  obtain ⟨t, ht⟩ : ∃ t, so W H Z (3 - m) = t := ⟨_, rfl⟩
  obtain ⟨e, he⟩ : ∃ e, so W H Z 0 = e := ⟨_, rfl⟩
  rw [ho, ht, he] at HM1 HPT ⊢
  clear hMV ho ht he
  have hz : ((MV : Int) == 0) = false := by have := HMV0.out; rw [beq_eq_false_iff_ne]; omega
  refine (callsIn_wide (n := 3)).1 ?_
  refine callsIn_of_wp_marks Tryd.func43 rfl trivial ?_ rfl
  simp only [Tryd.ntmps43, List.size_toArray, List.length_cons, List.length_nil, Nat.reduceAdd, Nat.reduceSub, Array.replicate_succ, Array.replicate_zero, List.push_toArray, List.append_toArray, List.nil_append, List.cons_append]
  refine wpIn_wide.2 ?_
  go_upto_region 1 with fail
  obtain ⟨w1, hw1⟩ : ∃ w1, ((w.alloc (.cells (bdA o t e) 55)).alloc (.cells #[.int .i64 (L1 : Int)] 3)).alloc (.cells #[.int .i64 most] 3) = w1 := ⟨_, rfl⟩
  have K1 : Bd w1 w.heap.size o t e := by rw [← hw1]; exact ((Bd.new w o t e).old _).old _
  have cl1 : w1.cell? ⟨w.heap.size + 1, 0, none⟩ = some (.int .i64 (L1 : Nat)) := by
    rw [← hw1]
    have := old_cell (.cells #[.int .i64 most] 3) (new_cell (w.alloc (.cells (bdA o t e) 55)) (.int .i64 (L1 : Nat)) 3)
    rw [World.size_alloc] at this
    exact this
  have cm1 : w1.cell? ⟨w.heap.size + 2, 0, none⟩ = some (.int .i64 most) := by
    rw [← hw1]
    have := new_cell ((w.alloc (.cells (bdA o t e) 55)).alloc (.cells #[.int .i64 (L1 : Int)] 3)) (.int .i64 most) 3
    rw [World.size_alloc, World.size_alloc] at this
    exact this
  have HB1 : Hid (Below w.heap.size w w1) := hide (by rw [← hw1]; exact (((Below.refl _ w).alloc (Nat.le_refl _) _).alloc (by simp) _).alloc (by simp; omega) _)
  rw [hw1]
  clear hw1
  have HC1 := hide (HM1.out w1 (HT.out.mono HB1.out))
  go_wp2_with (refine wpList_load_bd rfl (.tmp 4) rfl w.heap.size rfl K1 ?_)
  refine HC1.out.mono ?_
  rintro r w2 ⟨rfl, hb2⟩
  have K2 := K1.below hb2 K1.lt
  have cl2 := (hb2.cell (p := ⟨w.heap.size + 1, 0, none⟩) (World.block_lt_of_cell? w1 _ cl1)).trans cl1
  have cm2 := (hb2.cell (p := ⟨w.heap.size + 2, 0, none⟩) (World.block_lt_of_cell? w1 _ cm1)).trans cm1
  have HBW := hide (HB1.out.trans (hb2.mono HB1.out.size))
  have HD2 := hide (HT.out.mono HBW.out)
  clear K1 cl1 cm1 HC1 hb2 HM1 HB1
  go_upto_region 7 with fail
  obtain ⟨vb, hvb⟩ : ∃ vb, w2.heap.size = vb := ⟨_, rfl⟩
  obtain ⟨w3, hw3⟩ : ∃ w3, (w2.alloc (.cells #[.int .i64 least] 3)).alloc (.cells #[.int .u64 0] 53) = w3 := ⟨_, rfl⟩
  have cv3 : w3.cell? ⟨vb, 0, none⟩ = some (.int .i64 least) := by rw [← hw3, ← hvb]; exact old_cell _ (new_cell w2 _ 3)
  have fv3 : w3.frozen? ⟨vb, 0, none⟩ = false := by
    have h1 : w3.heap[vb]? = some (.cells #[.int .i64 least] 3 (0, 0)) := by rw [← hw3, ← hvb]; exact (Below.heap_alloc _ _ _ (by simp)).trans (heap_alloc_new w2 _)
    simp [World.frozen?, h1]
  have ca3 : w3.cell? ⟨vb + 1, 0, none⟩ = some (.int .u64 (0 : Nat)) := by
    rw [← hw3, ← hvb]
    have := new_cell (w2.alloc (.cells #[.int .i64 least] 3)) (.int .u64 (0 : Nat)) 53
    rw [World.size_alloc] at this
    exact this
  have fa3 : w3.frozen? ⟨vb + 1, 0, none⟩ = false := by
    have h1 : w3.heap[vb + 1]? = some (.cells #[.int .u64 0] 53 (0, 0)) := by
      rw [← hw3, ← hvb]
      have := heap_alloc_new (w2.alloc (.cells #[.int .i64 least] 3)) (.cells #[.int .u64 0] 53)
      rw [World.size_alloc] at this
      exact this
    simp [World.frozen?, h1]
  have s3 : w3.heap.size = vb + 2 := by rw [← hw3, ← hvb]; simp
  have B3 : Below w2.heap.size w2 w3 := by rw [← hw3]; exact ((Below.refl _ w2).alloc (Nat.le_refl _) _).alloc (by simp) _
  rw [hw3, hvb]
  clear hw3
  go_wp2_with fail
  refine (each_any MV w3).mono ?_
  rintro r w4 ⟨rfl, hw4⟩
  have B4 : Below w3.heap.size w3 w4 := by rw [hw4]; exact (Below.refl _ w3).alloc (Nat.le_refl _) _
  have E4 : EaR (vb + 2) MV w4 := by rw [hw4, ← s3]; exact new_cell w3 _ 53
  have s4 : w4.heap.size = vb + 3 := by rw [hw4, World.size_alloc, s3]
  have cv4 := (B4.cell (p := ⟨vb, 0, none⟩) (by show vb < _; omega)).trans cv3
  have ca4 := (B4.cell (p := ⟨vb + 1, 0, none⟩) (by show vb + 1 < _; omega)).trans ca3
  have fv4 := (World.frozen?_of_block (w := w3) (a := ⟨vb, 0, none⟩) (B4.block vb (by omega))).trans fv3
  have fa4 := (World.frozen?_of_block (w := w3) (a := ⟨vb + 1, 0, none⟩) (B4.block (vb + 1) (by omega))).trans fa3
  have B24 : Below w2.heap.size w2 w4 := B3.trans (B4.mono B3.size)
  have HD4 : Hid (DTab w4) := hide (HD2.out.mono B24)
  have HK4 : Hid (Bd w4 w.heap.size o t e) := hide (K2.below B24 K2.lt)
  have HL4 : Hid (w4.cell? ⟨w.heap.size + 1, 0, none⟩ = some (.int .i64 (L1 : Nat))) := hide ((B24.cell (p := ⟨w.heap.size + 1, 0, none⟩) (World.block_lt_of_cell? w2 _ cl2)).trans cl2)
  have HM4 : Hid (w4.cell? ⟨w.heap.size + 2, 0, none⟩ = some (.int .i64 most)) := hide ((B24.cell (p := ⟨w.heap.size + 2, 0, none⟩) (World.block_lt_of_cell? w2 _ cm2)).trans cm2)
  have HB4 : Hid (Below w.heap.size w w4) := hide (HBW.out.trans (B24.mono (by have := HBW.out.size; omega)))
  have hnb2 : w.heap.size + 3 ≤ vb := by rw [← hvb]; exact World.block_lt_of_cell? w2 _ cm2
  rw [s3]
  clear hw4 B3 B4 B24 K2 cl2 cm2 HBW HD2 hvb s3 cv3 ca3 fv3 fa3
  go_wp2_with fail
  refine (wpIn_wide (n := 1)).1 (wp_range_q (gf := 58) (lb := #[.pointer (some ⟨vb + 2, 0, none⟩)]) (G := EaG) (xs := bln MV 64) (R := EaR (vb + 2) MV) (T := fun k => k = vb + 2) (c := 0) (by simp [Act.eval]) (enters_of Tryd.func58 (by kernel_rfl) rfl)
    (each1_seq (vb + 2) MV HMVL.out) (fun k hk => by omega) (fun A B hA hk => hk.cell hA (fun e => e rfl)) E4 (fun k => k = vb ∨ k = vb + 1) (fun k hk => by omega) (fun x args W' hG => by rw [hG]; rfl)
    (fun pre W' => ∃ (v : Int) (a : Nat), InvB f least most pre v a ∧ W'.cell? ⟨vb, 0, none⟩ = some (.int .i64 v) ∧ W'.frozen? ⟨vb, 0, none⟩ = false ∧ W'.cell? ⟨vb + 1, 0, none⟩ = some (.int .u64 (a : Nat)) ∧ W'.frozen? ⟨vb + 1, 0, none⟩ = false ∧ Keeps (fun k => k = vb ∨ k = vb + 1) w4 W')
    (fun d W' => d = .exit 0 ∧ ∃ (v : Int) (a x : Nat), x ∈ bln MV 64 ∧ most ≤ f x ∧ most ≤ v ∧ (-65 ≤ v ∧ v ≤ 65) ∧ W'.cell? ⟨vb, 0, none⟩ = some (.int .i64 v) ∧ W'.cell? ⟨vb + 1, 0, none⟩ = some (.int .u64 (a : Nat)) ∧ Keeps (fun k => k = vb ∨ k = vb + 1) w4 W') ?hI ?hIx ⟨least, 0, inv_nil h1 h2, cv4, fv4, ca4, fa4, Keeps.refl _ _⟩ ?round ?done ?stop)
  case hI =>
    rintro s A B ⟨v, a, k0, k1, k2, k3, k4, k5⟩ hk
    have hlt : vb < A.heap.size := World.block_lt_of_cell? A _ k1
    have hlt2 : vb + 1 < A.heap.size := World.block_lt_of_cell? A _ k3
    exact ⟨v, a, k0, hk.cell k1 (fun e => by dsimp only at e; omega), (hk.frozen (p := ⟨vb, 0, none⟩) hlt (fun e => by dsimp only at e; omega)).trans k2, hk.cell k3 (fun e => by dsimp only at e; omega), (hk.frozen (p := ⟨vb + 1, 0, none⟩) hlt2 (fun e => by dsimp only at e; omega)).trans k4, k5.after hk (fun i hi e => by omega)⟩
  case hIx =>
    rintro d A B ⟨k00, v, a, x, k0, k1, k2, k3, k4, k5, k6⟩ hk
    exact ⟨k00, v, a, x, k0, k1, k2, k3, hk.cell k4 (fun e => by dsimp only at e; omega), hk.cell k5 (fun e => by dsimp only at e; omega), k6.after hk (fun i hi e => by omega)⟩
  case round =>
    rintro l2 pre x args W1 hl2 ⟨rec, hrec⟩ ⟨v, a, hInv, k1, k2, k3, k4, k5⟩ hpre hG hsz
    obtain rfl : args = #[.int .u64 (2 ^ x : Nat)] := hG
    have hxm := hpre.subset (show x ∈ pre ++ [x] by simp)
    have hvm := hInv.1
    have hvl := hInv.2.1
    have HINV := hide hInv
    have HPUT := hide (HPT.out x hxm)
    have HCALL := hide (HCT.out x (-most) (-v) (by omega) (by omega) (by omega))
    have HXM := hide hxm
    have HFX := hide (HF.out x)
    obtain ⟨K2, hK2⟩ : ∃ K2, (2 ^ x : Nat) = K2 := ⟨_, rfl⟩
    have HK2E := hide hK2
    rw [hK2] at HPUT ⊢
    have HK1 := hide k1
    have HK2 := hide k2
    have HK3 := hide k3
    have HK4b := hide k4
    have HK5 := hide k5
    have hlt2 : vb + 3 < W1.heap.size := by omega
    clear hpre hK2 k1 k2 k3 k4 k5 hrec hxm hsz hInv
    gi_wp2
    refine ⟨Keeps.refl _ _, ?_⟩
    intro W3 hk3
    have cv := hk3.cell HK1.out (by show ¬ vb = l2; omega)
    have fv := (hk3.frozen (p := ⟨vb, 0, none⟩) (World.block_lt_of_cell? W1 _ HK1.out) (by show ¬ vb = l2; omega)).trans HK2.out
    have ca := hk3.cell HK3.out (by show ¬ vb + 1 = l2; omega)
    have fa := (hk3.frozen (p := ⟨vb + 1, 0, none⟩) (World.block_lt_of_cell? W1 _ HK3.out) (by show ¬ vb + 1 = l2; omega)).trans HK4b.out
    have HKK : Hid (Keeps (fun k => k = vb ∨ k = vb + 1) w4 W3) := hide (HK5.out.after hk3 (fun i hi e => by omega))
    have HD3 : Hid (DTab W3) := hide (HD4.out.keeps HKK.out (by show ¬ (0 = vb ∨ 0 = vb + 1); omega))
    have SF : Hid (∀ W5, Below W3.heap.size W3 W5 → (Bd W5 w.heap.size o t e ∧ W5.cell? ⟨w.heap.size + 1, 0, none⟩ = some (.int .i64 (L1 : Nat)) ∧ W5.cell? ⟨w.heap.size + 2, 0, none⟩ = some (.int .i64 most) ∧ W5.cell? ⟨vb, 0, none⟩ = some (.int .i64 v)) ∧ Below W3.heap.size W3 W5) := hide (fun W5 hb => by
      have h1 := HK4.out.keeps HKK.out (by show ¬ (w.heap.size = vb ∨ w.heap.size = vb + 1); omega)
      have h2 := HKK.out.cell HL4.out (by show ¬ (w.heap.size + 1 = vb ∨ w.heap.size + 1 = vb + 1); omega)
      have h3 := HKK.out.cell HM4.out (by show ¬ (w.heap.size + 2 = vb ∨ w.heap.size + 2 = vb + 1); omega)
      exact ⟨⟨h1.below hb h1.lt, (hb.cell (p := ⟨w.heap.size + 1, 0, none⟩) (World.block_lt_of_cell? W3 _ h2)).trans h2, (hb.cell (p := ⟨w.heap.size + 2, 0, none⟩) (World.block_lt_of_cell? W3 _ h3)).trans h3, (hb.cell (p := ⟨vb, 0, none⟩) (World.block_lt_of_cell? W3 _ cv)).trans cv⟩, hb⟩)
    have HCL : Hid (((L1 : Nat) : Int) - 1 = (l : Nat)) := hide (by have := HL1.out; omega)
    have HCA := hide ca
    have HFA := hide fa
    have HFV := hide fv
    clear hk3 HK1 HK2 HK3 HK4b HK5 ca fa fv
    gi_wp2_with fail
    refine wp_region_round (S := fun W5 => (Bd W5 w.heap.size o t e ∧ W5.cell? ⟨w.heap.size + 1, 0, none⟩ = some (.int .i64 (L1 : Nat)) ∧ W5.cell? ⟨w.heap.size + 2, 0, none⟩ = some (.int .i64 most) ∧ W5.cell? ⟨vb, 0, none⟩ = some (.int .i64 v)) ∧ Below W3.heap.size W3 W5) (by kernel_rfl) (by kernel_rfl) (by rintro ⟨_, _, h⟩; exact h) ?_
    have SW := SF.out W3.drew (Below.refl _ W3).drew
    refine wpAnyH_take (i := 0) (v := .agg (bdA o t e)) rfl (by kernel_rfl) (by kernel_rfl) (by kernel_rfl) (fun _ _ _ h => h) (yieldsIf_load_mid (by rfl) 55 _ rfl w.heap.size 0 (by rfl) [.int .u64 (o : Nat), .int .u64 (t : Nat), .int .u64 (e : Nat)] _ (fun W hW => hW.1.1.range) Tryd.underlying55 rfl size55) SW ?_
    go_simp
    refine wpAnyH_take (i := 1) (v := .int .u64 (K2 : Nat)) rfl (by kernel_rfl) (by kernel_rfl) (by kernel_rfl) (fun _ _ _ h => h) (Or.inl ⟨by rfl, ?_⟩) SW ?_
    · intro W4 hW4
      go_simp <;> first | done | rfl | (rw [IntKind.wrap_i64]; omega) | omega
    go_simp
    refine wpAnyH_take (i := 3) (v := .int .i64 (L1 : Nat)) rfl (by kernel_rfl) (by kernel_rfl) (by kernel_rfl) (fun _ _ _ h => h) (Or.inl ⟨by rfl, ?_⟩) SW ?_
    · intro W4 hW4
      have x0 := hW4.1.2.1
      go_simp <;> first | done | rfl | (rw [IntKind.wrap_i64]; omega) | omega
    go_simp
    refine wpAnyH_take (i := 4) (v := .int .i64 (l : Nat)) rfl (by kernel_rfl) (by kernel_rfl) (by kernel_rfl) (fun _ _ _ h => h) (Or.inl ⟨by rfl, ?_⟩) SW ?_
    · intro W4 hW4
      have hcl := HCL.out
      go_simp <;> first | done | rfl | (rw [IntKind.wrap_i64]; omega) | omega
    go_simp
    refine wpAnyH_take (i := 5) (v := .int .i64 most) rfl (by kernel_rfl) (by kernel_rfl) (by kernel_rfl) (fun _ _ _ h => h) (Or.inl ⟨by rfl, ?_⟩) SW ?_
    · intro W4 hW4
      have x0 := hW4.1.2.2.1
      go_simp <;> first | done | rfl | (rw [IntKind.wrap_i64]; omega) | omega
    go_simp
    refine wpAnyH_take (i := 6) (v := .int .i64 (-most)) rfl (by kernel_rfl) (by kernel_rfl) (by kernel_rfl) (fun _ _ _ h => h) (Or.inl ⟨by rfl, ?_⟩) SW ?_
    · intro W4 hW4
      go_simp <;> first | done | rfl | (rw [IntKind.wrap_i64]; omega) | omega
    go_simp
    refine wpAnyH_take (i := 7) (v := .int .i64 v) rfl (by kernel_rfl) (by kernel_rfl) (by kernel_rfl) (fun _ _ _ h => h) (Or.inl ⟨by rfl, ?_⟩) SW ?_
    · intro W4 hW4
      have x0 := hW4.1.2.2.2
      go_simp <;> first | done | rfl | (rw [IntKind.wrap_i64]; omega) | omega
    go_simp
    refine wpAnyH_take (i := 8) (v := .int .i64 (-v)) rfl (by kernel_rfl) (by kernel_rfl) (by kernel_rfl) (fun _ _ _ h => h) (Or.inl ⟨by rfl, ?_⟩) SW ?_
    · intro W4 hW4
      go_simp <;> first | done | rfl | (rw [IntKind.wrap_i64]; omega) | omega
    go_simp
    refine wpAnyH_ready (rs := [2]) (by kernel_rfl) (by simp) ?_
    refine AllReadyH.cons rfl (fun K1 hK1 => ?_) AllReadyH.nil
    go_simp
    refine (HPUT.out _ (HD3.out.mono SW.2)).mono ?_
    rintro r w5 ⟨rfl, hb5⟩
    have B5 := SW.2.trans (hb5.mono SW.2.size)
    refine hK1.out _ _ (SF.out w5 B5) (fun SW => ?_)
    clear hK1 K1 hb5
    go_simp
    refine wpAnyH_ready (rs := [9]) (by kernel_rfl) (by simp) ?_
    refine AllReadyH.cons rfl (fun K1 hK1 => ?_) AllReadyH.nil
    go_simp
    refine (HCALL.out _ (HD3.out.mono SW.2)).mono ?_
    rintro r0 w6 ⟨r, at', rfl, hAB, hb6⟩
    have B6 := SW.2.trans (hb6.mono SW.2.size)
    have hrb := hAB.bd
    have HAB := hide hAB
    clear hAB
    refine hK1.out _ _ (SF.out w6 B6) (fun SW => ?_)
    clear hK1 K1 hb6 B5
    go_simp
    refine wpAnyH_take (i := 10) (v := .tuple #[.int .i64 r, .int .u64 (at' : Nat)]) rfl (by kernel_rfl) (by kernel_rfl) (by kernel_rfl) (fun _ _ _ h => h) (Or.inl ⟨by rfl, ?_⟩) SW ?_
    · intro W4 hW4
      go_simp <;> first | done | rfl | (rw [IntKind.wrap_i64]; omega) | omega
    go_simp
    refine wpAnyH_take (i := 11) (v := .int .i64 r) rfl (by kernel_rfl) (by kernel_rfl) (by kernel_rfl) (fun _ _ _ h => h) (Or.inl ⟨by rfl, ?_⟩) SW ?_
    · intro W4 hW4
      go_simp <;> first | done | rfl | (rw [IntKind.wrap_i64]; omega) | omega
    go_simp
    refine wpAnyH_take (i := 12) (v := .int .u64 (at' : Nat)) rfl (by kernel_rfl) (by kernel_rfl) (by kernel_rfl) (fun _ _ _ h => h) (Or.inl ⟨by rfl, ?_⟩) SW ?_
    · intro W4 hW4
      go_simp <;> first | done | rfl | (rw [IntKind.wrap_i64]; omega) | omega
    go_simp
    refine wpAnyH_ready (rs := [13]) (by kernel_rfl) (by simp) ?_
    refine AllReadyH.cons rfl (fun K1 hK1 => ?_) AllReadyH.nil
    go_simp
    refine hK1.out _ _ SW (fun SW => ?_)
    clear hK1 K1
    go_simp
    refine wpAnyH_ready (rs := [14]) (by kernel_rfl) (by simp) ?_
    refine AllReadyH.cons rfl (fun K1 hK1 => ?_) AllReadyH.nil
    go_simp
    refine hK1.out _ _ SW (fun SW => ?_)
    clear hK1 K1
    go_simp
    refine wpAnyH_done (by kernel_rfl) ?_ _
    have HB6 := hide B6
    have cv6 := SW.1.2.2.2
    have cm6 := SW.1.2.2.1
    have ca6 := (B6.cell (p := ⟨vb + 1, 0, none⟩) (World.block_lt_of_cell? W3 _ HCA.out)).trans HCA.out
    have fv6 := (World.frozen?_of_block (w := W3) (a := ⟨vb, 0, none⟩) (B6.block vb (World.block_lt_of_cell? W3 _ cv))).trans HFV.out
    have fa6 := (World.frozen?_of_block (w := W3) (a := ⟨vb + 1, 0, none⟩) (B6.block (vb + 1) (World.block_lt_of_cell? W3 _ HCA.out))).trans HFA.out
    have HMOV := hide HAB.out.move
    rw [HFX.out] at HMOV
    clear SW B6 HPUT HCALL HAB cv
    by_cases hup : v < -r
    · have hup' : -r > v := hup
      have HFV6 : Hid (v < f x) := hide (by
        have h1 := HMOV.out.1
        by_cases e : f x ≤ v
        · have := h1 e; omega
        · omega)
      have KS : Hid (∀ (u : Value) (u' : Value), Keeps (fun k => k = vb ∨ k = vb + 1) W3 ((w6.setCell ⟨vb, 0, none⟩ u).setCell ⟨vb + 1, 0, none⟩ u')) := hide (fun u u' => ((Keeps.of_all HB6.out).setCell (X := fun k => k = vb ∨ k = vb + 1) (Or.inl rfl) u).setCell (X := fun k => k = vb ∨ k = vb + 1) (Or.inr rfl) u')
      have c1 : ∀ u u', ((w6.setCell ⟨vb, 0, none⟩ u).setCell ⟨vb + 1, 0, none⟩ u').cell? ⟨vb, 0, none⟩ = some u := fun u u' => by
        have h1 := World.cell?_setCell_same w6 ⟨vb, 0, none⟩ u (by rw [cv6])
        exact (Keeps.set1 (w6.setCell ⟨vb, 0, none⟩ u) (vb + 1) 0 u').cell h1 (by show ¬ vb = vb + 1; omega)
      have c2 : ∀ u u', ((w6.setCell ⟨vb, 0, none⟩ u).setCell ⟨vb + 1, 0, none⟩ u').cell? ⟨vb + 1, 0, none⟩ = some u' := fun u u' => by
        have h0 := (Keeps.set1 w6 vb 0 u).cell ca6 (by show ¬ vb + 1 = vb; omega)
        exact World.cell?_setCell_same _ ⟨vb + 1, 0, none⟩ u' (by rw [h0])
      have c3 : ∀ u u', ((w6.setCell ⟨vb, 0, none⟩ u).setCell ⟨vb + 1, 0, none⟩ u').cell? ⟨w.heap.size + 2, 0, none⟩ = some (.int .i64 most) := fun u u' => by
        have h0 := (Keeps.set1 w6 vb 0 u).cell cm6 (by show ¬ w.heap.size + 2 = vb; omega)
        exact (Keeps.set1 (w6.setCell ⟨vb, 0, none⟩ u) (vb + 1) 0 u').cell h0 (by show ¬ w.heap.size + 2 = vb + 1; omega)
      have HC1 := hide c1
      have HC2 := hide c2
      have HC3 := hide c3
      have HFR1 : Hid (∀ u u', ((w6.setCell ⟨vb, 0, none⟩ u).setCell ⟨vb + 1, 0, none⟩ u').frozen? ⟨vb, 0, none⟩ = false) := hide (fun u u' => by rw [World.frozen?_setCell, World.frozen?_setCell]; exact fv6)
      have HFR2 : Hid (∀ u u', ((w6.setCell ⟨vb, 0, none⟩ u).setCell ⟨vb + 1, 0, none⟩ u').frozen? ⟨vb + 1, 0, none⟩ = false) := hide (fun u u' => by rw [World.frozen?_setCell, World.frozen?_setCell]; exact fa6)
      have fa7 : ∀ u, (w6.setCell ⟨vb, 0, none⟩ u).frozen? ⟨vb + 1, 0, none⟩ = false := fun u => by rw [World.frozen?_setCell]; exact fa6
      have ca7 : ∀ u, (w6.setCell ⟨vb, 0, none⟩ u).cell? ⟨vb + 1, 0, none⟩ = some (.int .u64 (a : Nat)) := fun u => (Keeps.set1 w6 vb 0 u).cell ca6 (by show ¬ vb + 1 = vb; omega)
      clear hup
      by_cases hcut : most ≤ -r
      · have hcut' : -r ≥ most := hcut
        have HMF : Hid (most ≤ f x) := hide (by
          by_cases e : f x < most
          · have := HMOV.out.2.1 HFV6.out e; omega
          · omega)
        clear hcut
        gi_wp2_with fail
        exact ⟨KS.out _ _, rfl, -r, K2, x, HXM.out, HMF.out, by omega, by omega, HC1.out _ _, HC2.out _ _, HKK.out.trans (KS.out _ _)⟩
      · have hcut' : ¬ -r ≥ most := by omega
        have HEQ : Hid (-r = f x) := hide (by
          refine HMOV.out.2.1 HFV6.out ?_
          by_cases e : most ≤ f x
          · have := HMOV.out.2.2 e; omega
          · omega)
        have HIN : Hid (InvB f least most (pre ++ [x]) (-r) K2) := hide (by
          rw [HEQ.out, ← HK2E.out]
          exact inv_new HINV.out HFV6.out (by have := HEQ.out; omega))
        clear hcut
        gi_wp2_with fail
        exact ⟨KS.out _ _, -r, K2, HIN.out, HC1.out _ _, HFR1.out _ _, HC2.out _ _, HFR2.out _ _, HKK.out.trans (KS.out _ _)⟩
    · have hup' : ¬ -r > v := hup
      have HLE : Hid (f x ≤ v) := hide (by
        by_cases e : f x ≤ v
        · exact e
        · exfalso
          by_cases e2 : f x < most
          · have := HMOV.out.2.1 (by omega) e2; omega
          · have := HMOV.out.2.2 (by omega); omega)
      have HIN := hide (inv_keep HINV.out HLE.out)
      have hcut' : ¬ v ≥ most := by omega
      clear hup
      gi_wp2_with fail
      exact ⟨Keeps.of_all HB6.out, v, a, HIN.out, cv6, fv6, ca6, fa6, HKK.out.trans (Keeps.of_all HB6.out)⟩
  case done =>
    rintro D W5 hD ⟨v, a, k0, k1, k2, k3, k4, k5⟩ _ hK
    have HAB : Hid (AB W s least most v a) := hide (by rw [HOB.out]; exact inv_end h3 HBL.out k0)
    have HK5 := hide k5
    clear k0 k2 k4 k5
    go_wp2_with fail
    go_quiet (fail)
    go_wp2_with fail
    refine ⟨by simp, .inl ⟨_, _, rfl, run_takeDeferred (by rw [drewN_heap]; exact hK), ?_⟩⟩
    refine ⟨_, results_two3 rfl _ _ rfl rfl, v, a, rfl, HAB.out, ?_⟩
    exact HB4.out.trans ((((HK5.out.trans (Keeps.of_all (drewN_below _ _ _))).mono (Y := fun k => w.heap.size ≤ k) (fun k _ e => by omega)).put (l := D) (by omega) _).below HB4.out.size (fun k hk e => by omega))
  case stop =>
    rintro d D W5 hD ⟨rfl, v, a, x, k0, k1, k2, k3, k4, k5, k6⟩ _ hK
    have HAB : Hid (AB W s least most v a) := hide (by rw [HOB.out]; exact inv_cut h2 k3 k0 k1 k2)
    have HK5 := hide k6
    clear k0 k1 k2 k3 k6
    refine wpIn_wide.2 ?_
    go_wp2_with fail
    go_quiet (fail)
    go_wp2_with fail
    refine ⟨by simp, .inl ⟨_, _, rfl, run_takeDeferred (by rw [drewN_heap]; exact hK), ?_⟩⟩
    refine ⟨_, results_two3 rfl _ _ rfl rfl, v, a, rfl, HAB.out, ?_⟩
    exact HB4.out.trans ((((HK5.out.trans (Keeps.of_all (drewN_below _ _ _))).mono (Y := fun k => w.heap.size ≤ k) (fun k _ e => by omega)).put (l := D) (by omega) _).below HB4.out.size (fun k hk e => by omega))

end Go.Proofs.YtkmghlmniahgbaaDoor
