/-
  How many rows of so many moves there are: the program's own count, which calls itself. No conditions beyond those that each theorem bears.
-/
import Derived.Test.YtkmghlmniahgbaaDoorNu
import Derived.Test.YtkmghlmniahgbaaDoorBf
namespace Go.Proofs.YtkmghlmniahgbaaDoor
open Go.RowKit Go.Shelf

theorem Keeps.after {X Y : Nat → Prop} {a b c : World} (h : Keeps X a b) (k : Keeps Y b c) (hY : ∀ i, i < a.heap.size → Y i → X i) : Keeps X a c :=
  ⟨k.os.trans h.os, k.tape.trans h.tape, k.output.trans h.output, Nat.le_trans h.size k.size, fun i hi hx => (k.block i (Nat.lt_of_lt_of_le hi h.size) (fun e => hx (hY i hi e))).trans (h.block i hi hx)⟩

theorem sum_bd {α : Type} (f : α → Nat) (B : Nat) (h : ∀ x, f x ≤ B) : ∀ xs : List α, (xs.map f).sum ≤ xs.length * B
  | [] => by simp
  | x :: xs => by
    have := sum_bd f B h xs
    have := h x
    simp only [List.map_cons, List.sum_cons, List.length_cons, Nat.succ_mul]
    omega

theorem sum_one {α : Type} {f : α → Nat} (xs : List α) (h : ∀ x, f x = 1) : (xs.map f).sum = xs.length := by
  induction xs with
  | nil => rfl
  | cons x xs ih => simp only [List.map_cons, List.sum_cons, List.length_cons, ih, h]; omega

/-- Rows of so many moves from a board on, m to move. -/
def oc (W H : Nat) : Nat → List Int → Nat → Nat
  | 0, _, _ => 1
  | l + 1, Z, m =>
    if sps W H Z m ≠ [] then ((sps W H Z m).map fun p => oc W H l (pz W H Z m p) (3 - m)).sum
    else if sps W H Z (3 - m) ≠ [] then ((sps W H Z (3 - m)).map fun p => oc W H l (pz W H Z (3 - m) p) m).sum
    else 1

theorem oc_zero (W H : Nat) (Z : List Int) (m : Nat) : oc W H 0 Z m = 1 := by rw [oc]
theorem oc_own {W H l : Nat} {Z : List Int} {m : Nat} (h : sps W H Z m ≠ []) : oc W H (l + 1) Z m = ((sps W H Z m).map fun p => oc W H l (pz W H Z m p) (3 - m)).sum := by rw [oc, if_pos h]
theorem oc_pass {W H l : Nat} {Z : List Int} {m : Nat} (h : sps W H Z m = []) (h2 : sps W H Z (3 - m) ≠ []) : oc W H (l + 1) Z m = ((sps W H Z (3 - m)).map fun p => oc W H l (pz W H Z (3 - m) p) m).sum := by rw [oc, if_neg (by simp [h]), if_pos h2]
theorem oc_none {W H l : Nat} {Z : List Int} {m : Nat} (h : sps W H Z m = []) (h2 : sps W H Z (3 - m) = []) : oc W H (l + 1) Z m = 1 := by rw [oc, if_neg (by simp [h]), if_neg (by simp [h2])]

theorem sps_len (W H : Nat) (Z : List Int) (m : Nat) : (sps W H Z m).length ≤ W * H := Nat.le_trans (List.length_filter_le _ _) (by simp)

theorem oc_bd (W H : Nat) (hWH : W * H ≤ 64) : ∀ (l : Nat) (Z : List Int) (m : Nat), oc W H l Z m ≤ 64 ^ l
  | 0, _, _ => by rw [oc_zero]; simp
  | l + 1, Z, m => by
    have hs : ∀ (L : List Nat) (f : Nat → Nat), L.length ≤ 64 → (∀ p, f p ≤ 64 ^ l) → (L.map f).sum ≤ 64 ^ (l + 1) := by
      intro L f hL hf
      refine Nat.le_trans (sum_bd f _ hf L) ?_
      rw [Nat.pow_succ, Nat.mul_comm (64 ^ l) 64]
      exact Nat.mul_le_mul_right _ hL
    rw [oc]
    split
    · exact hs _ _ (Nat.le_trans (sps_len _ _ _ _) hWH) (fun p => oc_bd W H hWH l _ _)
    · split
      · exact hs _ _ (Nat.le_trans (sps_len _ _ _ _) hWH) (fun p => oc_bd W H hWH l _ _)
      · exact Nat.succ_le_of_lt (Nat.pow_pos (by omega))

/-- A bit of the places of a player, as a place. -/
theorem mv_bit {W H : Nat} {Z : List Int} {m i : Nat} (hW : 1 ≤ W ∧ W ≤ 8) (hH : H ≤ 8) (h : i ∈ bln (mvS W H Z m) 64) :
    num W i < W * H ∧ Z.getD (num W i) 0 = 0 ∧ 2 ^ i = bv ((num W i % W : Nat) : Int) ((num W i / W : Nat) : Int) ∧ num W i ∈ sps W H Z m := by
  obtain ⟨h1, h2⟩ := mem_bln.1 h
  have hl : lg (cl W H Z) (m : Int) ((i % 8 : Nat) : Int) ((i / 8 : Nat) : Int) = true := by rw [← mvS_bt hW.2 hH, bt_nat h1]; exact h2
  have hc := (lg_iff.1 hl).1
  have hb := cl_on (v := 0) (by omega) hc
  rw [onB_iff] at hb
  obtain ⟨e1, e2⟩ := place_of (W := W) (x := i % 8) (y := i / 8) (by omega)
  have hn : num W i < W * H := by
    unfold num
    have h1 : (i / 8 + 1) * W ≤ H * W := Nat.mul_le_mul_right W (by omega)
    rw [Nat.add_mul, Nat.one_mul, Nat.mul_comm H W] at h1
    omega
  have hm1 : num W i % W = i % 8 := e1
  have hm2 : num W i / W = i / 8 := e2
  refine ⟨hn, ?_, ?_, ?_⟩
  · rw [← (cl_at (zs := Z) (show 0 < W by omega) hn).1, hm1, hm2, hc]
  · rw [hm1, hm2, bv_pow _ _ (by omega) (by omega)]
    congr 1
    omega
  · unfold sps
    rw [List.mem_filter, List.mem_range, hm1, hm2]
    exact ⟨hn, hl⟩

/-- The program's count, so many moves deep. -/
def CtOk (W H l : Nat) : Prop := ∀ (Z : List Int) (m : Nat) (w : World), (m = 1 ∨ m = 2) → DTab w →
  Calls Tryd.prog 42 #[.agg (brd W H Z m), .int .i64 (l : Nat)] w fun e w' => e = .returned (.int .i64 (oc W H l Z m : Nat)) ∧ Below w.heap.size w w'

set_option maxHeartbeats 1000000 in
theorem ct_zero (W H : Nat) : CtOk W H 0 := by
  intro Z m w hm hT
  rw [oc_zero]
  clear hT hm
  dsimp only [brd]
  generalize so W H Z m = o
  generalize so W H Z (3 - m) = t
  generalize so W H Z 0 = e
  go_enter Tryd.func42, Tryd.ntmps42
  go_wp2_with fail
  go_ret
  exact ⟨rfl, ((Below.refl _ w).alloc (Nat.le_refl _) _).alloc (by simp) _⟩

attribute [local irreducible] so mvS oc pz bln num sps
attribute [local go_sem] Oper.semAt_some wide_fn wide_fn0 wide_depth

set_option maxRecDepth 100000 in
set_option maxHeartbeats 8000000 in
theorem ct_succ (W H l : Nat) (hW : 1 ≤ W ∧ W ≤ 8) (hH : H ≤ 8) (hl : l ≤ 5) (ih : CtOk W H l) : CtOk W H (l + 1) := by
  intro Z m w hm hT
  have hWH : W * H ≤ 64 := by have : W * H ≤ 8 * 8 := Nat.mul_le_mul hW.2 hH; omega
  have HOB : Hid (∀ Z m, oc W H l Z m ≤ 1073741824) := hide (fun Z m => Nat.le_trans (oc_bd W H hWH l Z m) (Nat.pow_le_pow_right (by omega) hl))
  have HM1 := hide (fun W1 h1 => moves_any (Z := Z) hW hH hm W1 h1)
  have hm' : 3 - m = 1 ∨ 3 - m = 2 := by omega
  have hmm : 3 - (3 - m) = m := by omega
  have HM2 := hide (fun W1 h1 => moves_any (Z := Z) (m := 3 - m) hW hH hm' W1 h1)
  have HPS := hide (fun W1 => passed_any (W := W) (H := H) (Z := Z) hm W1)
  have HZ1 := hide (mvS_zero hW hH Z m)
  have HZ2 := hide (mvS_zero hW hH Z (3 - m))
  have HPUT : Hid (∀ m', (m' = 1 ∨ m' = 2) → ∀ x, x ∈ bln (mvS W H Z m') 64 → ∀ W1, DTab W1 → Calls Tryd.prog 52 #[.agg (brd W H Z m'), .int .u64 (2 ^ x : Nat)] W1 fun e w' => e = .returned (.agg (brd W H (pz W H Z m' (num W x)) (3 - m'))) ∧ Below W1.heap.size W1 w') := hide (fun m' hm' x hx W1 h1 => by
    obtain ⟨a1, a2, a3, _⟩ := mv_bit hW hH hx
    rw [a3]
    exact put_any hW hH hm' a1 a2 W1 h1)
  have HIH : Hid (∀ m', (m' = 1 ∨ m' = 2) → ∀ x W1, DTab W1 → Calls Tryd.prog 42 #[.agg (brd W H (pz W H Z m' (num W x)) (3 - m')), .int .i64 (l : Nat)] W1 fun e w' => e = .returned (.int .i64 (oc W H l (pz W H Z m' (num W x)) (3 - m') : Nat)) ∧ Below W1.heap.size W1 w') := hide (fun m' hm' x W1 h1 => ih _ _ W1 (by omega) h1)
  have HPL := hide (fun m' => mvS_places hW hH Z m')
  have HLT := hide (mvS_lt W H Z)
  have HT := hide hT
  have h0w := hT.lt
  have HML := hide hm
  have HMM := hide hmm
  have HML2 := hide hm'
  obtain ⟨R, hR⟩ : ∃ R, oc W H (l + 1) Z m = R := ⟨_, rfl⟩
  have HRR := hide hR
  rw [hR]
  obtain ⟨L1, hL1⟩ : ∃ L1 : Nat, l + 1 = L1 := ⟨_, rfl⟩
  have HL1 := hide hL1
  have hl6 : (L1 : Int) ≤ 6 := by omega
  have hl0 : ((L1 : Int) == 0) = false := by simp; omega
  rw [hL1]
  dsimp only [brd] at HM1 HM2 HPS HPUT HIH ⊢
  clear hR hL1 ih hT hm hm' hmm hWH hW hH
  obtain ⟨o, ho⟩ : ∃ o, so W H Z m = o := ⟨_, rfl⟩
  obtain ⟨t, ht⟩ : ∃ t, so W H Z (3 - m) = t := ⟨_, rfl⟩
  obtain ⟨e, he⟩ : ∃ e, so W H Z 0 = e := ⟨_, rfl⟩
  rw [HMM.out] at HM2 HPS
  rw [ho, ht, he] at HM1 HM2 HPS ⊢
  refine (callsIn_wide (n := 3)).1 ?_
  refine callsIn_of_wp_marks Tryd.func42 rfl trivial ?_ rfl
  simp only [Tryd.ntmps42, List.size_toArray, List.length_cons, List.length_nil, Nat.reduceAdd, Nat.reduceSub, Array.replicate_succ, Array.replicate_zero, List.push_toArray, List.append_toArray, List.nil_append, List.cons_append]
  refine wpIn_wide.2 ?_
  have HOE := hide ho
  have HTE := hide ht
  have HEE := hide he
  clear ho ht he
  go_upto_region 1 with fail
  obtain ⟨w1, hw1⟩ : ∃ w1, (w.alloc (.cells (bdA o t e) 55)).alloc (.cells #[.int .i64 (L1 : Int)] 3) = w1 := ⟨_, rfl⟩
  have K1 : Bd w1 w.heap.size o t e := by rw [← hw1]; exact (Bd.new w o t e).old _
  have cl1 : w1.cell? ⟨w.heap.size + 1, 0, none⟩ = some (.int .i64 (L1 : Nat)) := by
    rw [← hw1]
    have := new_cell (w.alloc (.cells (bdA o t e) 55)) (.int .i64 (L1 : Nat)) 3
    rw [World.size_alloc] at this
    exact this
  have HB1 : Hid (Below w.heap.size w w1) := hide (by rw [← hw1]; exact ((Below.refl _ w).alloc (Nat.le_refl _) _).alloc (by simp) _)
  rw [hw1]
  clear hw1
  have HC1 := hide (HM1.out w1 (HT.out.mono HB1.out))
  go_wp2_with (refine wpList_load_bd rfl (.tmp 2) rfl w.heap.size rfl K1 ?_)
  refine HC1.out.mono ?_
  rintro r w2 ⟨rfl, hb2⟩
  have K2 := K1.below hb2 K1.lt
  have cl2 := (hb2.cell (p := ⟨w.heap.size + 1, 0, none⟩) (World.block_lt_of_cell? w1 _ cl1)).trans cl1
  have HBW := hide (HB1.out.trans (hb2.mono HB1.out.size))
  clear K1 cl1 HC1 hb2 HM1
  by_cases hs1 : sps W H Z m = []
  rotate_left
  · have HSUM : Hid (oc W H (l + 1) Z m = ((bln (mvS W H Z m) 64).map fun i => oc W H l (pz W H Z m (num W i)) (3 - m)).sum) := hide (by
      rw [oc_own hs1, ← HPL.out m, List.map_map]; rfl)
    have HPT := hide (HPUT.out m HML.out)
    have HCT := hide (fun x (_ : x ∈ bln (mvS W H Z m) 64) => HIH.out m HML.out x)
    have HMVL := hide (HLT.out m)
    have HMV0 := hide (fun e => hs1 (HZ1.out.1 e))
    obtain ⟨T, hT⟩ : ∃ T : Nat → Nat, (fun i => oc W H l (pz W H Z m (num W i)) (3 - m)) = T := ⟨_, rfl⟩
    have HTT : Hid (∀ i, oc W H l (pz W H Z m (num W i)) (3 - m) = T i) := hide (fun i => by rw [← hT])
    have HTB : Hid (∀ i, T i ≤ 1073741824) := hide (fun i => by rw [← hT]; exact HOB.out _ _)
    rw [hT] at HSUM
    have HCT := hide (fun x hx W1 h1 => (HCT.out x hx W1 h1).mono (fun _ _ h => by rw [HTT.out x] at h; exact h))
    rw [HOE.out, HTE.out, HEE.out] at HPT
    obtain ⟨MV, hMV⟩ : ∃ MV, mvS W H Z m = MV := ⟨_, rfl⟩
    rw [hMV] at HSUM HPT HCT HMVL HMV0 ⊢
    have hz : ((MV : Int) == 0) = false := by have := HMV0.out; simp; omega
    have K2b := K2
    have HD2 := hide (HT.out.mono HBW.out)
    clear hT hMV hs1 HZ1 HZ2 HM2 HPS HIH HPL HLT HOB K2 HPUT HB1
    by_cases hl1 : l = 0
    · have hb1 : ((L1 : Int) == 1) = true := by have := HL1.out; simp; omega
      have HLN : Hid ((bln MV 64).length = oc W H (l + 1) Z m) := hide (by rw [HSUM.out, sum_one _ (fun i => by rw [← HTT.out, hl1, oc_zero])])
      have HCN := hide (fun W1 => count_any MV HMVL.out W1)
      rw [HLN.out, HRR.out] at HCN
      clear HLN hl1
      go_wp2_with fail
      refine (HCN.out _).mono ?_
      rintro r wx ⟨rfl, hwx⟩
      subst wx
      go_wp2_with fail
      exact ⟨_, results_tmp rfl _ _ _, rfl, HBW.out⟩
    · have hb1 : ((L1 : Int) == 1) = false := by have := HL1.out; simp; omega
      clear hl1
      go_upto_region 12 with fail
      obtain ⟨nb, hnb⟩ : ∃ nb, w2.heap.size = nb := ⟨_, rfl⟩
      obtain ⟨w3, hw3⟩ : ∃ w3, w2.alloc (.cells #[.int .i64 0] 3) = w3 := ⟨_, rfl⟩
      have N3 : Blk w3 nb 3 [0] := by rw [← hw3, ← hnb]; exact Blk.new w2 3 [0] _ rfl
      have s3 : w3.heap.size = nb + 1 := by rw [← hw3, ← hnb]; simp
      have B3 : Below w2.heap.size w2 w3 := by rw [← hw3]; exact (Below.refl _ w2).alloc (Nat.le_refl _) _
      rw [hw3, hnb]
      clear hw3
      go_wp2_with fail
      refine (each_any MV w3).mono ?_
      rintro r w4 ⟨rfl, hw4⟩
      have B4 : Below w3.heap.size w3 w4 := by rw [hw4]; exact (Below.refl _ w3).alloc (Nat.le_refl _) _
      have E4 : EaR (nb + 1) MV w4 := by rw [hw4, ← s3]; exact new_cell w3 _ 53
      have s4 : w4.heap.size = nb + 2 := by rw [hw4, World.size_alloc, s3]
      have N4 := N3.below B4 N3.lt
      have B24 : Below w2.heap.size w2 w4 := B3.trans (B4.mono B3.size)
      have HD4 : Hid (DTab w4) := hide (HD2.out.mono B24)
      have HK4 : Hid (Bd w4 w.heap.size o t e) := hide (K2b.below B24 K2b.lt)
      have HL4 : Hid (w4.cell? ⟨w.heap.size + 1, 0, none⟩ = some (.int .i64 (L1 : Nat))) := hide ((B24.cell (p := ⟨w.heap.size + 1, 0, none⟩) (World.block_lt_of_cell? w2 _ cl2)).trans cl2)
      have HB4 : Hid (Below w.heap.size w w4) := hide (HBW.out.trans (B24.mono (by have := HBW.out.size; omega)))
      have hnb2 : w.heap.size + 2 ≤ nb := by rw [← hnb]; exact World.block_lt_of_cell? w2 _ cl2
      rw [s3]
      clear hw4 N3 B3 B4 B24 K2b cl2 HBW HD2 hnb s3
      go_wp2_with fail
      refine (wpIn_wide (n := 1)).1 (wp_range_q (gf := 58) (lb := #[.pointer (some ⟨nb + 1, 0, none⟩)]) (G := EaG) (xs := bln MV 64) (R := EaR (nb + 1) MV) (T := fun k => k = nb + 1) (c := 0) (by simp [Act.eval]) (enters_of Tryd.func58 (by kernel_rfl) rfl)
        (each1_seq (nb + 1) MV HMVL.out) (fun k hk => by omega) (fun A B hA hk => hk.cell hA (fun e => e rfl)) E4 (fun k => k = nb) (fun k hk => by omega) (fun x args W' hG => by rw [hG]; rfl)
        (fun pre W' => W'.cell? ⟨nb, 0, none⟩ = some (.int .i64 (((pre.map T).sum : Nat) : Int)) ∧ W'.frozen? ⟨nb, 0, none⟩ = false ∧ Keeps (fun k => k = nb) w4 W') (fun _ _ => False) ?hI (fun _ _ _ h _ => h) ⟨N4.cell (i := 0) (by simp), N4.frozen 0, Keeps.refl _ _⟩ ?round ?done (fun _ _ _ _ h => h.elim))
      case hI =>
        rintro s A B ⟨k1, k2, k3⟩ hk
        have hlt : nb < A.heap.size := World.block_lt_of_cell? A _ k1
        exact ⟨hk.cell k1 (fun e => by dsimp only at e; omega), (hk.frozen (p := ⟨nb, 0, none⟩) hlt (fun e => by dsimp only at e; omega)).trans k2, k3.after hk (fun i hi e => by omega)⟩
      case round =>
        rintro l2 pre x args W1 hl2 ⟨rec, hrec⟩ ⟨k1, k2, k3⟩ hpre hG hsz
        obtain rfl : args = #[.int .u64 (2 ^ x : Nat)] := hG
        have hpl : pre.length ≤ 64 := by
          have h1 := hpre.length_le
          rw [List.length_append, List.length_singleton] at h1
          have h2 := bln_len MV 64
          omega
        have hxm := hpre.subset (show x ∈ pre ++ [x] by simp)
        have hNV := sum_bd T 1073741824 HTB.out pre
        have hV := HTB.out x
        have HSM : Hid (((pre ++ [x]).map T).sum = (pre.map T).sum + T x) := hide (by simp)
        have HPUT := hide (HPT.out x hxm)
        have HCALL := hide (HCT.out x hxm)
        obtain ⟨NV, hNVe⟩ : ∃ NV, (pre.map T).sum = NV := ⟨_, rfl⟩
        rw [hNVe] at k1 hNV HSM
        obtain ⟨V, hVe⟩ : ∃ V, T x = V := ⟨_, rfl⟩
        rw [hVe] at hV HSM HCALL
        have hNV2 : NV ≤ 68719476736 := by
          have : pre.length * 1073741824 ≤ 64 * 1073741824 := Nat.mul_le_mul_right _ hpl
          omega
        obtain ⟨K2, hK2⟩ : ∃ K2, (2 ^ x : Nat) = K2 := ⟨_, rfl⟩
        rw [hK2] at HPUT ⊢
        have HK1 := hide k1
        have HK2 := hide k2
        have HK3 := hide k3
        have hlt2 : nb + 2 < W1.heap.size := by omega
        clear hNVe hVe hNV hpl hpre hK2 k1 k2 k3 hrec hxm hsz
        gi_wp2
        refine ⟨Keeps.refl _ _, ?_⟩
        intro W3 hk3
        have cn := hk3.cell HK1.out (by show ¬ nb = l2; omega)
        have fn := (hk3.frozen (p := ⟨nb, 0, none⟩) (World.block_lt_of_cell? W1 _ HK1.out) (by show ¬ nb = l2; omega)).trans HK2.out
        have HKK : Hid (Keeps (fun k => k = nb) w4 W3) := hide (HK3.out.after hk3 (fun i hi e => by omega))
        have HD3 : Hid (DTab W3) := hide (HD4.out.keeps HKK.out (by show ¬ 0 = nb; omega))
        have SF : Hid (∀ W5, Below W3.heap.size W3 W5 → Bd W5 w.heap.size o t e ∧ W5.cell? ⟨w.heap.size + 1, 0, none⟩ = some (.int .i64 (L1 : Nat))) := hide (fun W5 hb => by
          have h1 := HK4.out.keeps HKK.out (by show ¬ w.heap.size = nb; omega)
          have h2 := HKK.out.cell HL4.out (by show ¬ w.heap.size + 1 = nb; omega)
          exact ⟨h1.below hb h1.lt, (hb.cell (p := ⟨w.heap.size + 1, 0, none⟩) (World.block_lt_of_cell? W3 _ h2)).trans h2⟩)
        have SS : Hid (∀ W5 : World, (Bd W5 w.heap.size o t e ∧ W5.cell? ⟨w.heap.size + 1, 0, none⟩ = some (.int .i64 (L1 : Nat))) → ∀ v, Bd (W5.setCell ⟨nb, 0, none⟩ v) w.heap.size o t e ∧ (W5.setCell ⟨nb, 0, none⟩ v).cell? ⟨w.heap.size + 1, 0, none⟩ = some (.int .i64 (L1 : Nat))) := hide (fun W5 ⟨a1, a2⟩ v => ⟨a1.other (show w.heap.size ≠ nb by omega) 0 v, (Keeps.set1 W5 nb 0 v).cell a2 (by show ¬ w.heap.size + 1 = nb; omega)⟩)
        have FIN : Hid (∀ W6, Below W3.heap.size W3 W6 → W6.cell? ⟨nb, 0, none⟩ = some (.int .i64 (NV : Nat)) → W6.frozen? ⟨nb, 0, none⟩ = false → Keeps (fun k => k = nb) W3 (W6.setCell ⟨nb, 0, none⟩ (.int .i64 ((NV + V : Nat) : Int))) ∧ (W6.setCell ⟨nb, 0, none⟩ (.int .i64 ((NV + V : Nat) : Int))).cell? ⟨nb, 0, none⟩ = some (.int .i64 (((((pre ++ [x]).map T).sum : Nat) : Int))) ∧ (W6.setCell ⟨nb, 0, none⟩ (.int .i64 ((NV + V : Nat) : Int))).frozen? ⟨nb, 0, none⟩ = false ∧ Keeps (fun k => k = nb) w4 (W6.setCell ⟨nb, 0, none⟩ (.int .i64 ((NV + V : Nat) : Int)))) := hide (fun W6 hb h1 h2 => by
          have kk : Keeps (fun k => k = nb) W3 (W6.setCell ⟨nb, 0, none⟩ (.int .i64 ((NV + V : Nat) : Int))) := (Keeps.of_all hb).setCell (X := fun k => k = nb) rfl _
          refine ⟨kk, ?_, ?_, HKK.out.trans kk⟩
          · rw [HSM.out]; exact World.cell?_setCell_same W6 _ _ (by rw [h1])
          · rw [World.frozen?_setCell]; exact h2)
        have hfin : NV + V ≤ 70000000000 := by omega
        have HCL : Hid (((L1 : Nat) : Int) - 1 = (l : Nat)) := hide (by have := HL1.out; omega)
        clear hk3 HK1 HK2 HK3
        gi_wp2_with fail
        refine wp_region_round (S := fun W5 => Bd W5 w.heap.size o t e ∧ W5.cell? ⟨w.heap.size + 1, 0, none⟩ = some (.int .i64 (L1 : Nat))) (by kernel_rfl) (by kernel_rfl) (by rintro ⟨_, _, h⟩; exact h) ?_
        have SW := SF.out W3.drew (Below.refl _ W3).drew
        refine wpAnyH_take (i := 1) (v := .agg (bdA o t e)) rfl (by kernel_rfl) (by kernel_rfl) (by kernel_rfl) (fun _ _ _ h => h) (yieldsIf_load_mid (by rfl) 55 _ rfl w.heap.size 0 (by rfl) [.int .u64 (o : Nat), .int .u64 (t : Nat), .int .u64 (e : Nat)] _ (fun W hW => hW.1.range) Tryd.underlying55 rfl size55) SW ?_
        go_simp
        refine wpAnyH_take (i := 2) (v := .int .u64 (K2 : Nat)) rfl (by kernel_rfl) (by kernel_rfl) (by kernel_rfl) (fun _ _ _ h => h) (Or.inl ⟨by rfl, ?_⟩) SW ?_
        · intro W4 hW4
          go_simp <;> first | done | rfl | (rw [IntKind.wrap_i64]; omega) | omega
        go_simp
        refine wpAnyH_take (i := 4) (v := .int .i64 (L1 : Nat)) rfl (by kernel_rfl) (by kernel_rfl) (by kernel_rfl) (fun _ _ _ h => h) (Or.inl ⟨by rfl, ?_⟩) SW ?_
        · intro W4 hW4
          have x0 := hW4.2
          go_simp <;> first | done | rfl | (rw [IntKind.wrap_i64]; omega) | omega
        go_simp
        refine wpAnyH_take (i := 5) (v := .int .i64 (l : Nat)) rfl (by kernel_rfl) (by kernel_rfl) (by kernel_rfl) (fun _ _ _ h => h) (Or.inl ⟨by rfl, ?_⟩) SW ?_
        · intro W4 hW4
          have hcl := HCL.out
          go_simp <;> first | done | rfl | (rw [IntKind.wrap_i64]; omega) | omega
        go_simp
        have cn0 := ((Below.refl W3.heap.size W3).drew.cell (p := ⟨nb, 0, none⟩) (World.block_lt_of_cell? W3 _ cn)).trans cn
        refine wpAnyH_ready (rs := [0, 3]) (by kernel_rfl) (by simp) ?_
        refine AllReadyH.cons rfl (fun K1 hK1 => ?_) (AllReadyH.cons rfl (fun K1 hK1 => ?_) AllReadyH.nil)
        · go_simp
          refine hK1.out _ _ SW (fun SW => ?_)
          clear hK1 K1
          go_simp
          refine wpAnyH_ready (rs := [3]) (by kernel_rfl) (by simp) ?_
          refine AllReadyH.cons rfl (fun K1 hK1 => ?_) AllReadyH.nil
          go_simp
          refine (HPUT.out _ (HD3.out.mono (Below.refl _ W3).drew)).mono ?_
          rintro r w5 ⟨rfl, hb5⟩
          have B5 : Below W3.heap.size W3 w5 := (Below.refl _ _).drew.trans hb5
          have cn5 := (B5.cell (p := ⟨nb, 0, none⟩) (World.block_lt_of_cell? W3 _ cn)).trans cn
          refine hK1.out _ _ (SF.out w5 B5) (fun SW => ?_)
          clear hK1 K1 hb5
          go_simp
          refine wpAnyH_ready (rs := [6]) (by kernel_rfl) (by simp) ?_
          refine AllReadyH.cons rfl (fun K1 hK1 => ?_) AllReadyH.nil
          go_simp
          refine (HCALL.out _ (HD3.out.mono B5)).mono ?_
          rintro r w6 ⟨rfl, hb6⟩
          have B6 : Below W3.heap.size W3 w6 := B5.trans (hb6.mono B5.size)
          have cn6 := (B6.cell (p := ⟨nb, 0, none⟩) (World.block_lt_of_cell? W3 _ cn)).trans cn
          have fn6 := (World.frozen?_of_block (w := W3) (B6.block nb (World.block_lt_of_cell? W3 _ cn))).trans fn
          refine hK1.out _ _ (SF.out w6 B6) (fun SW => ?_)
          clear hK1 K1 hb6
          go_simp
          refine wpAnyH_take (i := 7) (v := .int .i64 ((NV + V : Nat) : Int)) rfl (by kernel_rfl) (by kernel_rfl) (by kernel_rfl) (fun _ _ _ h => h) (Or.inl ⟨by rfl, ?_⟩) SW ?_
          · intro W4 hW4
            go_simp <;> first | done | rfl | (rw [IntKind.wrap_i64]; omega) | omega
          go_simp
          refine wpAnyH_ready (rs := [8]) (by kernel_rfl) (by simp) ?_
          refine AllReadyH.cons rfl (fun K1 hK1 => ?_) AllReadyH.nil
          go_simp
          refine hK1.out _ _ (SS.out w6 (SF.out w6 B6) _) (fun SW => ?_)
          clear hK1 K1
          go_simp
          refine wpAnyH_done (by kernel_rfl) ?_ _
          have FF := FIN.out w6 B6 cn6 fn6
          exact FF
        · go_simp
          refine (HPUT.out _ (HD3.out.mono (Below.refl _ W3).drew)).mono ?_
          rintro r w5 ⟨rfl, hb5⟩
          have B5 : Below W3.heap.size W3 w5 := (Below.refl _ _).drew.trans hb5
          have cn5 := (B5.cell (p := ⟨nb, 0, none⟩) (World.block_lt_of_cell? W3 _ cn)).trans cn
          refine hK1.out _ _ (SF.out w5 B5) (fun SW => ?_)
          clear hK1 K1 hb5
          go_simp
          refine wpAnyH_ready (rs := [0, 6]) (by kernel_rfl) (by simp) ?_
          refine AllReadyH.cons rfl (fun K1 hK1 => ?_) (AllReadyH.cons rfl (fun K1 hK1 => ?_) AllReadyH.nil)
          · go_simp
            refine hK1.out _ _ SW (fun SW => ?_)
            clear hK1 K1
            go_simp
            refine wpAnyH_ready (rs := [6]) (by kernel_rfl) (by simp) ?_
            refine AllReadyH.cons rfl (fun K1 hK1 => ?_) AllReadyH.nil
            go_simp
            refine (HCALL.out _ (HD3.out.mono B5)).mono ?_
            rintro r w6 ⟨rfl, hb6⟩
            have B6 : Below W3.heap.size W3 w6 := B5.trans (hb6.mono B5.size)
            have cn6 := (B6.cell (p := ⟨nb, 0, none⟩) (World.block_lt_of_cell? W3 _ cn)).trans cn
            have fn6 := (World.frozen?_of_block (w := W3) (B6.block nb (World.block_lt_of_cell? W3 _ cn))).trans fn
            refine hK1.out _ _ (SF.out w6 B6) (fun SW => ?_)
            clear hK1 K1 hb6
            go_simp
            refine wpAnyH_take (i := 7) (v := .int .i64 ((NV + V : Nat) : Int)) rfl (by kernel_rfl) (by kernel_rfl) (by kernel_rfl) (fun _ _ _ h => h) (Or.inl ⟨by rfl, ?_⟩) SW ?_
            · intro W4 hW4
              go_simp <;> first | done | rfl | (rw [IntKind.wrap_i64]; omega) | omega
            go_simp
            refine wpAnyH_ready (rs := [8]) (by kernel_rfl) (by simp) ?_
            refine AllReadyH.cons rfl (fun K1 hK1 => ?_) AllReadyH.nil
            go_simp
            refine hK1.out _ _ (SS.out w6 (SF.out w6 B6) _) (fun SW => ?_)
            clear hK1 K1
            go_simp
            refine wpAnyH_done (by kernel_rfl) ?_ _
            have FF := FIN.out w6 B6 cn6 fn6
            exact FF
          · go_simp
            refine (HCALL.out _ (HD3.out.mono B5)).mono ?_
            rintro r w6 ⟨rfl, hb6⟩
            have B6 : Below W3.heap.size W3 w6 := B5.trans (hb6.mono B5.size)
            have cn6 := (B6.cell (p := ⟨nb, 0, none⟩) (World.block_lt_of_cell? W3 _ cn)).trans cn
            have fn6 := (World.frozen?_of_block (w := W3) (B6.block nb (World.block_lt_of_cell? W3 _ cn))).trans fn
            refine hK1.out _ _ (SF.out w6 B6) (fun SW => ?_)
            clear hK1 K1 hb6
            go_simp
            refine wpAnyH_ready (rs := [0]) (by kernel_rfl) (by simp) ?_
            refine AllReadyH.cons rfl (fun K1 hK1 => ?_) AllReadyH.nil
            go_simp
            refine hK1.out _ _ SW (fun SW => ?_)
            clear hK1 K1
            go_simp
            refine wpAnyH_take (i := 7) (v := .int .i64 ((NV + V : Nat) : Int)) rfl (by kernel_rfl) (by kernel_rfl) (by kernel_rfl) (fun _ _ _ h => h) (Or.inl ⟨by rfl, ?_⟩) SW ?_
            · intro W4 hW4
              go_simp <;> first | done | rfl | (rw [IntKind.wrap_i64]; omega) | omega
            go_simp
            refine wpAnyH_ready (rs := [8]) (by kernel_rfl) (by simp) ?_
            refine AllReadyH.cons rfl (fun K1 hK1 => ?_) AllReadyH.nil
            go_simp
            refine hK1.out _ _ (SS.out w6 (SF.out w6 B6) _) (fun SW => ?_)
            clear hK1 K1
            go_simp
            refine wpAnyH_done (by kernel_rfl) ?_ _
            have FF := FIN.out w6 B6 cn6 fn6
            exact FF
      case done =>
        rintro D W5 hD ⟨k1, k2, k3⟩ _ hK
        have HR5 : Hid ((((bln MV 64).map T).sum : Nat) = R) := hide (by rw [← HRR.out, HSUM.out])
        rw [HR5.out] at k1
        have HK3 := hide k3
        go_wp2
        refine ⟨by simp, .inl ⟨_, _, rfl, run_takeDeferred hK, ?_⟩⟩
        refine ⟨_, results_tmp rfl _ _ _, rfl, ?_⟩
        exact HB4.out.trans (((HK3.out.mono (Y := fun k => w.heap.size ≤ k) (fun k _ e => by omega)).put (l := D) (by omega) _).below HB4.out.size (fun k hk e => by omega))
  · have hz1 : mvS W H Z m = 0 := HZ1.out.2 hs1
    have HD2 := hide (HT.out.mono HBW.out)
    have HPA := hide (HPS.out w2)
    rw [hz1]
    have hzz : (((0 : Nat) : Int) == 0) = true := by rfl
    go_wp2_with (refine wpList_load_bd rfl (.tmp 2) rfl w.heap.size rfl K2 ?_)
    refine HPA.out.mono ?_
    rintro r w5 ⟨rfl, hb5⟩
    have K5 := K2.below hb5 K2.lt
    have cl5 := (hb5.cell (p := ⟨w.heap.size + 1, 0, none⟩) (World.block_lt_of_cell? w2 _ cl2)).trans cl2
    have HB5 := hide (HBW.out.trans (hb5.mono HBW.out.size))
    have HD5 := hide (HD2.out.mono hb5)
    clear HPA hb5 K2 cl2 HBW HD2
    go_upto_region 6 with (refine wpList_store_bd rfl (.tmp 2) (.tmp 15) rfl w.heap.size rfl rfl K5 ?_; intro w6 k6 kk6)
    have cl6 := kk6.cell cl5 (by show ¬ w.heap.size + 1 = w.heap.size; omega)
    have HB6 : Hid (Below w.heap.size w w6) := hide (HB5.out.trans ((kk6.mono (Y := fun q => w.heap.size ≤ q) (fun q _ e => by omega)).below HB5.out.size (fun q hq e => by omega)))
    have HD6 : Hid (DTab w6) := hide (HD5.out.keeps kk6 (by show ¬ 0 = w.heap.size; omega))
    have HC6 := hide (HM2.out w6 HD6.out)
    clear kk6 cl5 HB5 HD5 K5
    go_wp2_with (refine wpList_load_bd rfl (.tmp 2) rfl w.heap.size rfl k6 ?_)
    refine HC6.out.mono ?_
    rintro r w2 ⟨rfl, hb2⟩
    have K2 := k6.below hb2 k6.lt
    have cl2 := (hb2.cell (p := ⟨w.heap.size + 1, 0, none⟩) (World.block_lt_of_cell? w6 _ cl6)).trans cl6
    have HBW := hide (HB6.out.trans (hb2.mono HB6.out.size))
    have HD2 := hide (HD6.out.mono hb2)
    clear k6 cl6 HB6 HD6 HC6 hb2 HM2 hzz
    by_cases hs2 : sps W H Z (3 - m) = []
    rotate_left
    · have HSUM : Hid (oc W H (l + 1) Z m = ((bln (mvS W H Z (3 - m)) 64).map fun i => oc W H l (pz W H Z (3 - m) (num W i)) m).sum) := hide (by
        rw [oc_pass hs1 hs2, ← HPL.out (3 - m), List.map_map]; rfl)
      have HPT := hide (HPUT.out (3 - m) HML2.out)
      have HCT := hide (fun x (_ : x ∈ bln (mvS W H Z (3 - m)) 64) => HIH.out (3 - m) HML2.out x)
      rw [HMM.out] at HPT HCT
      have HMVL := hide (HLT.out (3 - m))
      have HMV0 := hide (fun e => hs2 (HZ2.out.1 e))
      obtain ⟨T, hT⟩ : ∃ T : Nat → Nat, (fun i => oc W H l (pz W H Z (3 - m) (num W i)) m) = T := ⟨_, rfl⟩
      have HTT : Hid (∀ i, oc W H l (pz W H Z (3 - m) (num W i)) m = T i) := hide (fun i => by rw [← hT])
      have HTB : Hid (∀ i, T i ≤ 1073741824) := hide (fun i => by rw [← hT]; exact HOB.out _ _)
      rw [hT] at HSUM
      have HCT := hide (fun x hx W1 h1 => (HCT.out x hx W1 h1).mono (fun _ _ h => by rw [HTT.out x] at h; exact h))
      rw [HOE.out, HTE.out, HEE.out] at HPT
      obtain ⟨MV, hMV⟩ : ∃ MV, mvS W H Z (3 - m) = MV := ⟨_, rfl⟩
      rw [hMV] at HSUM HPT HCT HMVL HMV0 ⊢
      have hz : ((MV : Int) == 0) = false := by have := HMV0.out; simp; omega
      have K2b := K2
      clear hT hMV hs1 hs2 hz1 HZ1 HZ2 HPS HIH HPL HLT HOB K2 HPUT HB1
      by_cases hl1 : l = 0
      · have hb1 : ((L1 : Int) == 1) = true := by have := HL1.out; simp; omega
        have HLN : Hid ((bln MV 64).length = oc W H (l + 1) Z m) := hide (by rw [HSUM.out, sum_one _ (fun i => by rw [← HTT.out, hl1, oc_zero])])
        have HCN := hide (fun W1 => count_any MV HMVL.out W1)
        rw [HLN.out, HRR.out] at HCN
        clear HLN hl1
        go_wp2_with fail
        refine (HCN.out _).mono ?_
        rintro r wx ⟨rfl, hwx⟩
        subst wx
        go_wp2_with fail
        exact ⟨_, results_tmp rfl _ _ _, rfl, HBW.out⟩
      · have hb1 : ((L1 : Int) == 1) = false := by have := HL1.out; simp; omega
        clear hl1
        go_upto_region 12 with fail
        obtain ⟨nb, hnb⟩ : ∃ nb, w2.heap.size = nb := ⟨_, rfl⟩
        obtain ⟨w3, hw3⟩ : ∃ w3, w2.alloc (.cells #[.int .i64 0] 3) = w3 := ⟨_, rfl⟩
        have N3 : Blk w3 nb 3 [0] := by rw [← hw3, ← hnb]; exact Blk.new w2 3 [0] _ rfl
        have s3 : w3.heap.size = nb + 1 := by rw [← hw3, ← hnb]; simp
        have B3 : Below w2.heap.size w2 w3 := by rw [← hw3]; exact (Below.refl _ w2).alloc (Nat.le_refl _) _
        rw [hw3, hnb]
        clear hw3
        go_wp2_with fail
        refine (each_any MV w3).mono ?_
        rintro r w4 ⟨rfl, hw4⟩
        have B4 : Below w3.heap.size w3 w4 := by rw [hw4]; exact (Below.refl _ w3).alloc (Nat.le_refl _) _
        have E4 : EaR (nb + 1) MV w4 := by rw [hw4, ← s3]; exact new_cell w3 _ 53
        have s4 : w4.heap.size = nb + 2 := by rw [hw4, World.size_alloc, s3]
        have N4 := N3.below B4 N3.lt
        have B24 : Below w2.heap.size w2 w4 := B3.trans (B4.mono B3.size)
        have HD4 : Hid (DTab w4) := hide (HD2.out.mono B24)
        have HK4 : Hid (Bd w4 w.heap.size t o e) := hide (K2b.below B24 K2b.lt)
        have HL4 : Hid (w4.cell? ⟨w.heap.size + 1, 0, none⟩ = some (.int .i64 (L1 : Nat))) := hide ((B24.cell (p := ⟨w.heap.size + 1, 0, none⟩) (World.block_lt_of_cell? w2 _ cl2)).trans cl2)
        have HB4 : Hid (Below w.heap.size w w4) := hide (HBW.out.trans (B24.mono (by have := HBW.out.size; omega)))
        have hnb2 : w.heap.size + 2 ≤ nb := by rw [← hnb]; exact World.block_lt_of_cell? w2 _ cl2
        rw [s3]
        clear hw4 N3 B3 B4 B24 K2b cl2 HBW HD2 hnb s3
        go_wp2_with fail
        refine (wpIn_wide (n := 1)).1 (wp_range_q (gf := 58) (lb := #[.pointer (some ⟨nb + 1, 0, none⟩)]) (G := EaG) (xs := bln MV 64) (R := EaR (nb + 1) MV) (T := fun k => k = nb + 1) (c := 0) (by simp [Act.eval]) (enters_of Tryd.func58 (by kernel_rfl) rfl)
          (each1_seq (nb + 1) MV HMVL.out) (fun k hk => by omega) (fun A B hA hk => hk.cell hA (fun e => e rfl)) E4 (fun k => k = nb) (fun k hk => by omega) (fun x args W' hG => by rw [hG]; rfl)
          (fun pre W' => W'.cell? ⟨nb, 0, none⟩ = some (.int .i64 (((pre.map T).sum : Nat) : Int)) ∧ W'.frozen? ⟨nb, 0, none⟩ = false ∧ Keeps (fun k => k = nb) w4 W') (fun _ _ => False) ?hI (fun _ _ _ h _ => h) ⟨N4.cell (i := 0) (by simp), N4.frozen 0, Keeps.refl _ _⟩ ?round ?done (fun _ _ _ _ h => h.elim))
        case hI =>
          rintro s A B ⟨k1, k2, k3⟩ hk
          have hlt : nb < A.heap.size := World.block_lt_of_cell? A _ k1
          exact ⟨hk.cell k1 (fun e => by dsimp only at e; omega), (hk.frozen (p := ⟨nb, 0, none⟩) hlt (fun e => by dsimp only at e; omega)).trans k2, k3.after hk (fun i hi e => by omega)⟩
        case round =>
          rintro l2 pre x args W1 hl2 ⟨rec, hrec⟩ ⟨k1, k2, k3⟩ hpre hG hsz
          obtain rfl : args = #[.int .u64 (2 ^ x : Nat)] := hG
          have hpl : pre.length ≤ 64 := by
            have h1 := hpre.length_le
            rw [List.length_append, List.length_singleton] at h1
            have h2 := bln_len MV 64
            omega
          have hxm := hpre.subset (show x ∈ pre ++ [x] by simp)
          have hNV := sum_bd T 1073741824 HTB.out pre
          have hV := HTB.out x
          have HSM : Hid (((pre ++ [x]).map T).sum = (pre.map T).sum + T x) := hide (by simp)
          have HPUT := hide (HPT.out x hxm)
          have HCALL := hide (HCT.out x hxm)
          obtain ⟨NV, hNVe⟩ : ∃ NV, (pre.map T).sum = NV := ⟨_, rfl⟩
          rw [hNVe] at k1 hNV HSM
          obtain ⟨V, hVe⟩ : ∃ V, T x = V := ⟨_, rfl⟩
          rw [hVe] at hV HSM HCALL
          have hNV2 : NV ≤ 68719476736 := by
            have : pre.length * 1073741824 ≤ 64 * 1073741824 := Nat.mul_le_mul_right _ hpl
            omega
          obtain ⟨K2, hK2⟩ : ∃ K2, (2 ^ x : Nat) = K2 := ⟨_, rfl⟩
          rw [hK2] at HPUT ⊢
          have HK1 := hide k1
          have HK2 := hide k2
          have HK3 := hide k3
          have hlt2 : nb + 2 < W1.heap.size := by omega
          clear hNVe hVe hNV hpl hpre hK2 k1 k2 k3 hrec hxm hsz
          gi_wp2
          refine ⟨Keeps.refl _ _, ?_⟩
          intro W3 hk3
          have cn := hk3.cell HK1.out (by show ¬ nb = l2; omega)
          have fn := (hk3.frozen (p := ⟨nb, 0, none⟩) (World.block_lt_of_cell? W1 _ HK1.out) (by show ¬ nb = l2; omega)).trans HK2.out
          have HKK : Hid (Keeps (fun k => k = nb) w4 W3) := hide (HK3.out.after hk3 (fun i hi e => by omega))
          have HD3 : Hid (DTab W3) := hide (HD4.out.keeps HKK.out (by show ¬ 0 = nb; omega))
          have SF : Hid (∀ W5, Below W3.heap.size W3 W5 → Bd W5 w.heap.size t o e ∧ W5.cell? ⟨w.heap.size + 1, 0, none⟩ = some (.int .i64 (L1 : Nat))) := hide (fun W5 hb => by
            have h1 := HK4.out.keeps HKK.out (by show ¬ w.heap.size = nb; omega)
            have h2 := HKK.out.cell HL4.out (by show ¬ w.heap.size + 1 = nb; omega)
            exact ⟨h1.below hb h1.lt, (hb.cell (p := ⟨w.heap.size + 1, 0, none⟩) (World.block_lt_of_cell? W3 _ h2)).trans h2⟩)
          have SS : Hid (∀ W5 : World, (Bd W5 w.heap.size t o e ∧ W5.cell? ⟨w.heap.size + 1, 0, none⟩ = some (.int .i64 (L1 : Nat))) → ∀ v, Bd (W5.setCell ⟨nb, 0, none⟩ v) w.heap.size t o e ∧ (W5.setCell ⟨nb, 0, none⟩ v).cell? ⟨w.heap.size + 1, 0, none⟩ = some (.int .i64 (L1 : Nat))) := hide (fun W5 ⟨a1, a2⟩ v => ⟨a1.other (show w.heap.size ≠ nb by omega) 0 v, (Keeps.set1 W5 nb 0 v).cell a2 (by show ¬ w.heap.size + 1 = nb; omega)⟩)
          have FIN : Hid (∀ W6, Below W3.heap.size W3 W6 → W6.cell? ⟨nb, 0, none⟩ = some (.int .i64 (NV : Nat)) → W6.frozen? ⟨nb, 0, none⟩ = false → Keeps (fun k => k = nb) W3 (W6.setCell ⟨nb, 0, none⟩ (.int .i64 ((NV + V : Nat) : Int))) ∧ (W6.setCell ⟨nb, 0, none⟩ (.int .i64 ((NV + V : Nat) : Int))).cell? ⟨nb, 0, none⟩ = some (.int .i64 (((((pre ++ [x]).map T).sum : Nat) : Int))) ∧ (W6.setCell ⟨nb, 0, none⟩ (.int .i64 ((NV + V : Nat) : Int))).frozen? ⟨nb, 0, none⟩ = false ∧ Keeps (fun k => k = nb) w4 (W6.setCell ⟨nb, 0, none⟩ (.int .i64 ((NV + V : Nat) : Int)))) := hide (fun W6 hb h1 h2 => by
            have kk : Keeps (fun k => k = nb) W3 (W6.setCell ⟨nb, 0, none⟩ (.int .i64 ((NV + V : Nat) : Int))) := (Keeps.of_all hb).setCell (X := fun k => k = nb) rfl _
            refine ⟨kk, ?_, ?_, HKK.out.trans kk⟩
            · rw [HSM.out]; exact World.cell?_setCell_same W6 _ _ (by rw [h1])
            · rw [World.frozen?_setCell]; exact h2)
          have hfin : NV + V ≤ 70000000000 := by omega
          have HCL : Hid (((L1 : Nat) : Int) - 1 = (l : Nat)) := hide (by have := HL1.out; omega)
          clear hk3 HK1 HK2 HK3
          gi_wp2_with fail
          refine wp_region_round (S := fun W5 => Bd W5 w.heap.size t o e ∧ W5.cell? ⟨w.heap.size + 1, 0, none⟩ = some (.int .i64 (L1 : Nat))) (by kernel_rfl) (by kernel_rfl) (by rintro ⟨_, _, h⟩; exact h) ?_
          have SW := SF.out W3.drew (Below.refl _ W3).drew
          refine wpAnyH_take (i := 1) (v := .agg (bdA t o e)) rfl (by kernel_rfl) (by kernel_rfl) (by kernel_rfl) (fun _ _ _ h => h) (yieldsIf_load_mid (by rfl) 55 _ rfl w.heap.size 0 (by rfl) [.int .u64 (t : Nat), .int .u64 (o : Nat), .int .u64 (e : Nat)] _ (fun W hW => hW.1.range) Tryd.underlying55 rfl size55) SW ?_
          go_simp
          refine wpAnyH_take (i := 2) (v := .int .u64 (K2 : Nat)) rfl (by kernel_rfl) (by kernel_rfl) (by kernel_rfl) (fun _ _ _ h => h) (Or.inl ⟨by rfl, ?_⟩) SW ?_
          · intro W4 hW4
            go_simp <;> first | done | rfl | (rw [IntKind.wrap_i64]; omega) | omega
          go_simp
          refine wpAnyH_take (i := 4) (v := .int .i64 (L1 : Nat)) rfl (by kernel_rfl) (by kernel_rfl) (by kernel_rfl) (fun _ _ _ h => h) (Or.inl ⟨by rfl, ?_⟩) SW ?_
          · intro W4 hW4
            have x0 := hW4.2
            go_simp <;> first | done | rfl | (rw [IntKind.wrap_i64]; omega) | omega
          go_simp
          refine wpAnyH_take (i := 5) (v := .int .i64 (l : Nat)) rfl (by kernel_rfl) (by kernel_rfl) (by kernel_rfl) (fun _ _ _ h => h) (Or.inl ⟨by rfl, ?_⟩) SW ?_
          · intro W4 hW4
            have hcl := HCL.out
            go_simp <;> first | done | rfl | (rw [IntKind.wrap_i64]; omega) | omega
          go_simp
          have cn0 := ((Below.refl W3.heap.size W3).drew.cell (p := ⟨nb, 0, none⟩) (World.block_lt_of_cell? W3 _ cn)).trans cn
          refine wpAnyH_ready (rs := [0, 3]) (by kernel_rfl) (by simp) ?_
          refine AllReadyH.cons rfl (fun K1 hK1 => ?_) (AllReadyH.cons rfl (fun K1 hK1 => ?_) AllReadyH.nil)
          · go_simp
            refine hK1.out _ _ SW (fun SW => ?_)
            clear hK1 K1
            go_simp
            refine wpAnyH_ready (rs := [3]) (by kernel_rfl) (by simp) ?_
            refine AllReadyH.cons rfl (fun K1 hK1 => ?_) AllReadyH.nil
            go_simp
            refine (HPUT.out _ (HD3.out.mono (Below.refl _ W3).drew)).mono ?_
            rintro r w5 ⟨rfl, hb5⟩
            have B5 : Below W3.heap.size W3 w5 := (Below.refl _ _).drew.trans hb5
            have cn5 := (B5.cell (p := ⟨nb, 0, none⟩) (World.block_lt_of_cell? W3 _ cn)).trans cn
            refine hK1.out _ _ (SF.out w5 B5) (fun SW => ?_)
            clear hK1 K1 hb5
            go_simp
            refine wpAnyH_ready (rs := [6]) (by kernel_rfl) (by simp) ?_
            refine AllReadyH.cons rfl (fun K1 hK1 => ?_) AllReadyH.nil
            go_simp
            refine (HCALL.out _ (HD3.out.mono B5)).mono ?_
            rintro r w6 ⟨rfl, hb6⟩
            have B6 : Below W3.heap.size W3 w6 := B5.trans (hb6.mono B5.size)
            have cn6 := (B6.cell (p := ⟨nb, 0, none⟩) (World.block_lt_of_cell? W3 _ cn)).trans cn
            have fn6 := (World.frozen?_of_block (w := W3) (B6.block nb (World.block_lt_of_cell? W3 _ cn))).trans fn
            refine hK1.out _ _ (SF.out w6 B6) (fun SW => ?_)
            clear hK1 K1 hb6
            go_simp
            refine wpAnyH_take (i := 7) (v := .int .i64 ((NV + V : Nat) : Int)) rfl (by kernel_rfl) (by kernel_rfl) (by kernel_rfl) (fun _ _ _ h => h) (Or.inl ⟨by rfl, ?_⟩) SW ?_
            · intro W4 hW4
              go_simp <;> first | done | rfl | (rw [IntKind.wrap_i64]; omega) | omega
            go_simp
            refine wpAnyH_ready (rs := [8]) (by kernel_rfl) (by simp) ?_
            refine AllReadyH.cons rfl (fun K1 hK1 => ?_) AllReadyH.nil
            go_simp
            refine hK1.out _ _ (SS.out w6 (SF.out w6 B6) _) (fun SW => ?_)
            clear hK1 K1
            go_simp
            refine wpAnyH_done (by kernel_rfl) ?_ _
            have FF := FIN.out w6 B6 cn6 fn6
            exact FF
          · go_simp
            refine (HPUT.out _ (HD3.out.mono (Below.refl _ W3).drew)).mono ?_
            rintro r w5 ⟨rfl, hb5⟩
            have B5 : Below W3.heap.size W3 w5 := (Below.refl _ _).drew.trans hb5
            have cn5 := (B5.cell (p := ⟨nb, 0, none⟩) (World.block_lt_of_cell? W3 _ cn)).trans cn
            refine hK1.out _ _ (SF.out w5 B5) (fun SW => ?_)
            clear hK1 K1 hb5
            go_simp
            refine wpAnyH_ready (rs := [0, 6]) (by kernel_rfl) (by simp) ?_
            refine AllReadyH.cons rfl (fun K1 hK1 => ?_) (AllReadyH.cons rfl (fun K1 hK1 => ?_) AllReadyH.nil)
            · go_simp
              refine hK1.out _ _ SW (fun SW => ?_)
              clear hK1 K1
              go_simp
              refine wpAnyH_ready (rs := [6]) (by kernel_rfl) (by simp) ?_
              refine AllReadyH.cons rfl (fun K1 hK1 => ?_) AllReadyH.nil
              go_simp
              refine (HCALL.out _ (HD3.out.mono B5)).mono ?_
              rintro r w6 ⟨rfl, hb6⟩
              have B6 : Below W3.heap.size W3 w6 := B5.trans (hb6.mono B5.size)
              have cn6 := (B6.cell (p := ⟨nb, 0, none⟩) (World.block_lt_of_cell? W3 _ cn)).trans cn
              have fn6 := (World.frozen?_of_block (w := W3) (B6.block nb (World.block_lt_of_cell? W3 _ cn))).trans fn
              refine hK1.out _ _ (SF.out w6 B6) (fun SW => ?_)
              clear hK1 K1 hb6
              go_simp
              refine wpAnyH_take (i := 7) (v := .int .i64 ((NV + V : Nat) : Int)) rfl (by kernel_rfl) (by kernel_rfl) (by kernel_rfl) (fun _ _ _ h => h) (Or.inl ⟨by rfl, ?_⟩) SW ?_
              · intro W4 hW4
                go_simp <;> first | done | rfl | (rw [IntKind.wrap_i64]; omega) | omega
              go_simp
              refine wpAnyH_ready (rs := [8]) (by kernel_rfl) (by simp) ?_
              refine AllReadyH.cons rfl (fun K1 hK1 => ?_) AllReadyH.nil
              go_simp
              refine hK1.out _ _ (SS.out w6 (SF.out w6 B6) _) (fun SW => ?_)
              clear hK1 K1
              go_simp
              refine wpAnyH_done (by kernel_rfl) ?_ _
              have FF := FIN.out w6 B6 cn6 fn6
              exact FF
            · go_simp
              refine (HCALL.out _ (HD3.out.mono B5)).mono ?_
              rintro r w6 ⟨rfl, hb6⟩
              have B6 : Below W3.heap.size W3 w6 := B5.trans (hb6.mono B5.size)
              have cn6 := (B6.cell (p := ⟨nb, 0, none⟩) (World.block_lt_of_cell? W3 _ cn)).trans cn
              have fn6 := (World.frozen?_of_block (w := W3) (B6.block nb (World.block_lt_of_cell? W3 _ cn))).trans fn
              refine hK1.out _ _ (SF.out w6 B6) (fun SW => ?_)
              clear hK1 K1 hb6
              go_simp
              refine wpAnyH_ready (rs := [0]) (by kernel_rfl) (by simp) ?_
              refine AllReadyH.cons rfl (fun K1 hK1 => ?_) AllReadyH.nil
              go_simp
              refine hK1.out _ _ SW (fun SW => ?_)
              clear hK1 K1
              go_simp
              refine wpAnyH_take (i := 7) (v := .int .i64 ((NV + V : Nat) : Int)) rfl (by kernel_rfl) (by kernel_rfl) (by kernel_rfl) (fun _ _ _ h => h) (Or.inl ⟨by rfl, ?_⟩) SW ?_
              · intro W4 hW4
                go_simp <;> first | done | rfl | (rw [IntKind.wrap_i64]; omega) | omega
              go_simp
              refine wpAnyH_ready (rs := [8]) (by kernel_rfl) (by simp) ?_
              refine AllReadyH.cons rfl (fun K1 hK1 => ?_) AllReadyH.nil
              go_simp
              refine hK1.out _ _ (SS.out w6 (SF.out w6 B6) _) (fun SW => ?_)
              clear hK1 K1
              go_simp
              refine wpAnyH_done (by kernel_rfl) ?_ _
              have FF := FIN.out w6 B6 cn6 fn6
              exact FF
        case done =>
          rintro D W5 hD ⟨k1, k2, k3⟩ _ hK
          have HR5 : Hid ((((bln MV 64).map T).sum : Nat) = R) := hide (by rw [← HRR.out, HSUM.out])
          rw [HR5.out] at k1
          have HK3 := hide k3
          go_wp2
          refine ⟨by simp, .inl ⟨_, _, rfl, run_takeDeferred hK, ?_⟩⟩
          refine ⟨_, results_tmp rfl _ _ _, rfl, ?_⟩
          exact HB4.out.trans (((HK3.out.mono (Y := fun k => w.heap.size ≤ k) (fun k _ e => by omega)).put (l := D) (by omega) _).below HB4.out.size (fun k hk e => by omega))
    · have hz2 : mvS W H Z (3 - m) = 0 := HZ2.out.2 hs2
      have HR1 : Hid (R = 1) := hide (by rw [← HRR.out, oc_none hs1 hs2])
      rw [hz2]
      have hzz : (((0 : Nat) : Int) == 0) = true := by rfl
      obtain rfl := HR1.out
      go_wp2_with fail
      exact ⟨_, results_tmp rfl _ _ _, rfl, HBW.out⟩

theorem ct_all (W H : Nat) (hW : 1 ≤ W ∧ W ≤ 8) (hH : H ≤ 8) : ∀ l, l ≤ 6 → CtOk W H l
  | 0, _ => ct_zero W H
  | l + 1, hl => ct_succ W H l hW hH (by omega) (ct_all W H hW hH l (by omega))

end Go.Proofs.YtkmghlmniahgbaaDoor
