/-
  The faces Group and Put. No conditions beyond those that each theorem bears.
-/
import Derived.Test.YtafiaimlmdflnaaPv
namespace Go.Proofs.Ytafiaimlmdflnaa
open Go.RowKit Go.Shelf

attribute [local irreducible] D4 spr rgs rgsU lib goneU gone clr grp pz pt pE

theorem results_t3 {fn : Func} {t u x : Tmp} (h : fn.results = #[.tmp t, .tmp u, .tmp x]) (tmps : Array Value) (w : World) {v1 v2 v3 : Value} (h1 : tmps.getD t undef = v1) (h2 : tmps.getD u undef = v2) (h3 : tmps.getD x undef = v3) :
    (results fn tmps).run Try.prog w = .ok (.tuple #[v1, v2, v3]) w := by
  have e1 : tmps[t]?.getD undef = v1 := by simpa using h1
  have e2 : tmps[u]?.getD undef = v2 := by simpa using h2
  have e3 : tmps[x]?.getD undef = v3 := by simpa using h3
  simp [results, h, e1, e2, e3]

set_option maxHeartbeats 4000000 in
theorem Group_state (W H : Int) (a : Option Addr) (n c : Nat) (zs : List Int) (x : Int) (w : World) (h : Rd w a n c zs) (hm : ¬ mayP W H zs) :
    Calls Try.prog 9 #[.agg (gdA W H a n c), .int .i64 x] w fun e w' => e = .returned (.tuple #[.slice none 0 0, .slice none 0 0, .int .i64 12]) ∧ Below w.heap.size w w' := by
  have B := (Below.refl w.heap.size w).alloc (Nat.le_refl _) (.cells (gdA W H a n c) 24)
  have HM := hide (May_any W H a n c zs _ (h.mono B))
  have hG := Gd.new w W H a n c
  have HB := hide B
  have HS : Hid (w.heap.size ≤ (w.alloc (.cells (gdA W H a n c) 24)).heap.size) := hide B.size
  rw [mayG_no hm] at HM
  clear B hm
  go_enter Try.func9, Try.ntmps9
  go_wp2_with (first | (refine wpList_load_gd rfl (.tmp 2) rfl w.heap.size rfl hG ?_) | fail)
  refine HM.out.mono ?_
  rintro e w2 ⟨rfl, hb2⟩
  have HB2 := hide (HB.out.trans (hb2.mono HS.out))
  clear hb2 HM hG
  go_wp2_with fail
  exact bodyPost_ret (results_t3 rfl _ _ rfl rfl rfl) rfl ⟨rfl, HB2.out⟩

set_option maxHeartbeats 4000000 in
theorem Group_range (W H : Int) (a : Option Addr) (n c : Nat) (zs : List Int) (x : Int) (w : World) (h : Rd w a n c zs) (hm : mayP W H zs) (hx : ¬ (0 ≤ x ∧ x < (n : Int))) :
    Calls Try.prog 9 #[.agg (gdA W H a n c), .int .i64 x] w fun e w' => e = .returned (.tuple #[.slice none 0 0, .slice none 0 0, .int .i64 3]) ∧ Below w.heap.size w w' := by
  have B := (Below.refl w.heap.size w).alloc (Nat.le_refl _) (.cells (gdA W H a n c) 24)
  have HM := hide (May_any W H a n c zs _ (h.mono B))
  have hG := Gd.new w W H a n c
  have HG := hide hG
  have HB := hide B
  have HS : Hid (w.heap.size ≤ (w.alloc (.cells (gdA W H a n c) 24)).heap.size) := hide B.size
  have HIP := hide (fun W' => IsPlace_any W H a n c x W')
  rw [decide_eq_false hx] at HIP
  rw [mayG_yes hm] at HM
  clear B hm hx
  go_enter Try.func9, Try.ntmps9
  go_wp2_with (first | (refine wpList_load_gd rfl (.tmp 2) rfl w.heap.size rfl hG ?_) | fail)
  refine HM.out.mono ?_
  rintro e w2 ⟨rfl, hb2⟩
  have HB2 := hide (HB.out.trans (hb2.mono HS.out))
  have hG2 := HG.out.below hb2 HG.out.lt
  clear hb2 HM hG
  go_wp2_with (first | (refine wpList_load_gd rfl (.tmp 2) rfl w.heap.size rfl hG2 ?_) | fail)
  refine (HIP.out _).mono ?_
  rintro e w3 ⟨rfl, hb3⟩
  have HB3 := hide (HB2.out.trans (hb3.mono HB2.out.size))
  clear hb3 hG2
  go_wp2_with fail
  exact bodyPost_ret (results_t3 rfl _ _ rfl rfl rfl) rfl ⟨rfl, HB3.out⟩

set_option maxHeartbeats 4000000 in
theorem Group_none (W H : Int) (cb co n c p : Nat) (zs : List Int) (w : World) (h : Rd w (some ⟨cb, co, none⟩) n c zs) (hm : mayP W H zs) (hp : p < n) (hz : zs.getD p 0 = 0) :
    Calls Try.prog 9 #[.agg (gdA W H (some ⟨cb, co, none⟩) n c), .int .i64 p] w fun e w' => e = .returned (.tuple #[.slice none 0 0, .slice none 0 0, .int .i64 10]) ∧ Below w.heap.size w w' := by
  have B := (Below.refl w.heap.size w).alloc (Nat.le_refl _) (.cells (gdA W H (some ⟨cb, co, none⟩) n c) 24)
  have HM := hide (May_any W H (some ⟨cb, co, none⟩) n c zs _ (h.mono B))
  have hG := Gd.new w W H (some ⟨cb, co, none⟩) n c
  have HG := hide hG
  have HB := hide B
  have HS : Hid (w.heap.size ≤ (w.alloc (.cells (gdA W H (some ⟨cb, co, none⟩) n c) 24)).heap.size) := hide B.size
  have HIP := hide (fun W' => IsPlace_any W H (some ⟨cb, co, none⟩) n c p W')
  have hp' : (p : Int) < (n : Int) := by omega
  rw [decide_eq_true (show 0 ≤ (p : Int) ∧ (p : Int) < n by omega)] at HIP
  rw [mayG_yes hm] at HM
  have HR := hide h
  have hcap := h.cap
  have hmx : c ≤ 9223372036854775807 := by have := h.max; unfold maxLen at this; omega
  clear B hm h
  go_enter Try.func9, Try.ntmps9
  go_wp2_with (first | (refine wpList_load_gd rfl (.tmp 2) rfl w.heap.size rfl hG ?_) | fail)
  refine HM.out.mono ?_
  rintro e w2 ⟨rfl, hb2⟩
  have HB2 := hide (HB.out.trans (hb2.mono HS.out))
  have hG2 := HG.out.below hb2 HG.out.lt
  have HG2 := hide hG2
  clear hb2 HM hG
  go_wp2_with (first | (refine wpList_load_gd rfl (.tmp 2) rfl w.heap.size rfl hG2 ?_) | fail)
  refine (HIP.out _).mono ?_
  rintro e w3 ⟨rfl, hb3⟩
  have HB3 := hide (HB2.out.trans (hb3.mono HB2.out.size))
  obtain ⟨-, -, g2⟩ := (HG2.out.below hb3 HG2.out.lt).cells
  have cz := ((HR.out.mono HB3.out).cell hp).2
  rw [hz] at cz
  clear hb3 hG2
  go_wp2_with fail
  exact bodyPost_ret (results_t3 rfl _ _ rfl rfl rfl) rfl ⟨rfl, HB3.out⟩

theorem may_nat {W H : Int} {zs : List Int} {n : Nat} (hm : mayP W H zs) (hl : zs.length = n) : ∃ A B : Nat, W = A ∧ H = B ∧ (1 ≤ A ∧ A ≤ 10) ∧ (1 ≤ B ∧ B ≤ 10) ∧ A * B = n ∧ (∀ z ∈ zs, 0 ≤ z ∧ z ≤ 2) := by
  obtain ⟨h1, h2, h3, h4, h5, h6⟩ := hm
  obtain ⟨A, rfl⟩ := Int.eq_ofNat_of_zero_le (show 0 ≤ W by omega)
  obtain ⟨B, rfl⟩ := Int.eq_ofNat_of_zero_le (show 0 ≤ H by omega)
  refine ⟨A, B, rfl, rfl, by omega, by omega, ?_, h6⟩
  rw [hl] at h5
  have : ((A * B : Nat) : Int) = (n : Int) := by rw [h5]; simp
  omega

set_option maxRecDepth 100000 in
set_option maxHeartbeats 4000000 in
theorem Group_yes (W H cb co n c p : Nat) (zs : List Int) (w : World) (h : Rd w (some ⟨cb, co, none⟩) n c zs) (hm : mayP W H zs) (hp : p < n) (hz : ¬ zs.getD p 0 = 0) :
    Calls Try.prog 9 #[.agg (gdA W H (some ⟨cb, co, none⟩) n c), .int .i64 p] w fun e w' => ∃ a d a' d', e = .returned (.tuple #[.slice a (grp W H zs p).length d, .slice a' (lib W H zs (grp W H zs p)).length d', .int .i64 0]) ∧ Rd w' a (grp W H zs p).length d (toI (grp W H zs p)) ∧ Rd w' a' (lib W H zs (grp W H zs p)).length d' (toI (lib W H zs (grp W H zs p))) ∧ Below w.heap.size w w' := by
  obtain ⟨A, B', e1, e2, hW, hH, hN, -⟩ := may_nat hm h.len
  obtain rfl : W = A := by omega
  obtain rfl : H = B' := by omega
  have B := (Below.refl w.heap.size w).alloc (Nat.le_refl _) (.cells (gdA W H (some ⟨cb, co, none⟩) n c) 24)
  have HM := hide (May_any W H (some ⟨cb, co, none⟩) n c zs _ (h.mono B))
  have hG := Gd.new w W H (some ⟨cb, co, none⟩) n c
  have HG := hide hG
  have HB := hide B
  have HS : Hid (w.heap.size ≤ (w.alloc (.cells (gdA W H (some ⟨cb, co, none⟩) n c) 24)).heap.size) := hide B.size
  have HIP := hide (fun W' => IsPlace_any W H (some ⟨cb, co, none⟩) n c p W')
  have hp' : (p : Int) < (n : Int) := by omega
  rw [decide_eq_true (show 0 ≤ (p : Int) ∧ (p : Int) < n by omega)] at HIP
  rw [mayG_yes hm] at HM
  have HR := hide h
  have hcap := h.cap
  have hmx : c ≤ 9223372036854775807 := by have := h.max; unfold maxLen at this; omega
  have HGP := hide (fun W4 hb => group_any p W H n c cb co zs W4 hW hH hN hp (h.mono hb))
  obtain ⟨q1, q2, q3⟩ := grp_facts W H zs p (by rw [hN]; exact hp)
  have hn100 : n ≤ 100 := by rw [← hN]; exact Nat.mul_le_mul hW.2 hH.2
  have HLB := hide (fun W4 (hb : Below w.heap.size w W4) (pa : Option Addr) (pc : Nat) hP => liberties_any W H n c cb co zs pa pc (grp W H zs p) W4 hW hH hN q2 (by rw [hN] at q3; omega) q1 (h.mono hb) hP)
  obtain ⟨GP, hGP⟩ : ∃ GP, grp W H zs p = GP := ⟨_, rfl⟩
  rw [hGP] at HGP HLB ⊢
  obtain ⟨LL, hLL⟩ : ∃ LL, lib W H zs GP = LL := ⟨_, rfl⟩
  rw [hLL] at HLB ⊢
  have hbn : ∀ z : Int, z = zs.getD p 0 → (z == 0) = false := fun z e => by rw [e]; simpa using hz
  clear B hm h e1 e2 hGP hLL q1 q2 q3
  go_enter Try.func9, Try.ntmps9
  go_wp2_with (first | (refine wpList_load_gd rfl (.tmp 2) rfl w.heap.size rfl hG ?_) | fail)
  refine HM.out.mono ?_
  rintro e w2 ⟨rfl, hb2⟩
  have HB2 := hide (HB.out.trans (hb2.mono HS.out))
  have hG2 := HG.out.below hb2 HG.out.lt
  have HG2 := hide hG2
  clear hb2 HM hG
  go_wp2_with (first | (refine wpList_load_gd rfl (.tmp 2) rfl w.heap.size rfl hG2 ?_) | fail)
  refine (HIP.out _).mono ?_
  rintro e w3 ⟨rfl, hb3⟩
  have HB3 := hide (HB2.out.trans (hb3.mono HB2.out.size))
  have hG3 := HG2.out.below hb3 HG2.out.lt
  obtain ⟨-, -, g2⟩ := hG3.cells
  have cz := ((HR.out.mono HB3.out).cell hp).2
  obtain ⟨z, hzz⟩ : ∃ z, zs.getD p 0 = z := ⟨_, rfl⟩
  have hne := hbn z hzz.symm
  rw [hzz] at cz
  clear hb3 hG2 hbn hz hzz
  obtain ⟨w4, hw4⟩ : ∃ w4, w3.alloc (.cells (gdA W H (some ⟨cb, co, none⟩) n c) 54) = w4 := ⟨_, rfl⟩
  have HN4 : Hid (Hb w4 w3.heap.size W H (some ⟨cb, co, none⟩) n c) := hide (by rw [← hw4]; exact Hb.new w3 W H _ n c)
  have HB4 : Hid (Below w.heap.size w w4) := hide (by rw [← hw4]; exact HB3.out.alloc HB3.out.size _)
  have HW4 := hide hw4
  clear hw4
  go_upto_region 8 with (first | (refine wpList_load_gd rfl (.tmp 2) rfl w.heap.size rfl hG3 ?_) | fail)
  rw [HW4.out]
  clear HW4 g2 cz hG3
  have hN4 := HN4.out
  go_wp2_with (first | (refine wpList_load_hb rfl (.tmp 7) rfl w3.heap.size rfl hN4 ?_) | fail)
  refine (HGP.out _ HB4.out).mono ?_
  rintro e w5 ⟨a, d, rfl, hO, hb5⟩
  have HR5 := hide (Rd.of_own hO)
  have HB5 : Hid (Below w.heap.size w w5) := hide (HB4.out.trans (hb5.mono HB4.out.size))
  have hN5 := HN4.out.below hb5 HN4.out.lt
  clear hO hb5 hN4
  go_wp2_with (first | (refine wpList_load_hb rfl (.tmp 7) rfl w3.heap.size rfl hN5 ?_) | fail)
  refine (HLB.out _ HB5.out a d HR5.out).mono ?_
  rintro e w6 ⟨a', d', rfl, hR6, hb6⟩
  have HR6 := hide hR6
  have HR5' := hide (HR5.out.mono hb6)
  have HB6 : Hid (Below w.heap.size w w6) := hide (HB5.out.trans (hb6.mono HB5.out.size))
  clear hR6 hb6 hN5
  go_wp2_with fail
  exact bodyPost_ret (results_t3 rfl _ _ rfl rfl rfl) rfl ⟨a, d, a', d', rfl, HR5'.out, HR6.out, HB6.out⟩

set_option maxHeartbeats 4000000 in
theorem Put_fault (W H : Int) (a : Option Addr) (n c : Nat) (zs : List Int) (who x : Int) (f : Nat) (w : World) (h : Rd w a n c zs) (hf : (if mayP W H zs then (if who = 1 ∨ who = 2 then 0 else 4) else 12) = (f : Int)) (hf0 : 0 < f ∧ f ≤ 12) :
    Calls Try.prog 11 #[.agg (gdA W H a n c), .int .i64 who, .int .i64 x] w fun e w' => e = .returned (.tuple #[.agg (gdA 0 0 none 0 0), .int .i64 0, .int .i64 f]) ∧ Below w.heap.size w w' := by
  obtain ⟨w1, hw1⟩ : ∃ w1, (w.alloc (.cells (gdA W H a n c) 24)).alloc (.cells (gdA 0 0 none 0 0) 24) = w1 := ⟨_, rfl⟩
  have B1 : Below w.heap.size w w1 := by rw [← hw1]; exact ((Below.refl _ w).alloc (Nat.le_refl _) _).alloc (by simp) _
  have K1 : Gd w1 w.heap.size W H a n c := by rw [← hw1]; exact (Gd.new w W H a n c).old _
  have K2 : Gd w1 (w.heap.size + 1) 0 0 none 0 0 := by
    rw [← hw1]
    have := Gd.new (w.alloc (.cells (gdA W H a n c) 24)) 0 0 none 0 0
    rwa [World.size_alloc] at this
  have HC := hide (fault_any W H a n c zs who w1 (h.mono B1))
  rw [hf] at HC
  have HK2 := hide K2
  have HB1 := hide B1
  have hne : ((f : Int) != 0) = true := by
    have : (f : Int) ≠ 0 := by omega
    simpa using this
  clear B1 K2 hf h
  go_enter Try.func11, Try.ntmps11
  go_upto_region 1 with fail
  clear hw1
  go_wp2_with (first | (refine wpList_load_gd rfl (.tmp 3) rfl w.heap.size rfl K1 ?_) | fail)
  refine HC.out.mono ?_
  rintro e w2 ⟨rfl, hb2⟩
  have K8 := HK2.out.below hb2 HK2.out.lt
  have HB2 : Hid (Below w.heap.size w w2) := hide (HB1.out.trans (hb2.mono HB1.out.size))
  clear hb2 K1 HC
  go_wp2_with (first
    | (refine wpList_store_gd rfl (.tmp 6) (.tmp 18) rfl (w.heap.size + 1) rfl rfl K8 ?_; intro w9 k9 kk9))
  exact bodyPost_ret (results_gd2 rfl _ _ (w.heap.size + 1) rfl k9 rfl rfl) rfl ⟨rfl, HB2.out.trans (kk9.below HB2.out.size (fun k hk e => by omega))⟩

set_option maxRecDepth 100000 in
set_option maxHeartbeats 4000000 in
theorem Put_yes (W H cb co N bc m : Nat) (x : Int) (zs : List Int) (w : World) (h : Rd w (some ⟨cb, co, none⟩) N bc zs) (hm : mayP W H zs) (hw : m = 1 ∨ m = 2) :
    Calls Try.prog 11 #[.agg (gdA W H (some ⟨cb, co, none⟩) N bc), .int .i64 m, .int .i64 x] w (PutIs W H N zs m x w) := by
  obtain ⟨A, B', e1, e2, hW, hH, hN, -⟩ := may_nat hm h.len
  obtain rfl : W = A := by omega
  obtain rfl : H = B' := by omega
  obtain ⟨w1, hw1⟩ : ∃ w1, (w.alloc (.cells (gdA W H (some ⟨cb, co, none⟩) N bc) 24)).alloc (.cells (gdA 0 0 none 0 0) 24) = w1 := ⟨_, rfl⟩
  have B1 : Below w.heap.size w w1 := by rw [← hw1]; exact ((Below.refl _ w).alloc (Nat.le_refl _) _).alloc (by simp) _
  have s1 : w1.heap.size = w.heap.size + 2 := by rw [← hw1]; simp
  have K1 : Gd w1 w.heap.size W H (some ⟨cb, co, none⟩) N bc := by rw [← hw1]; exact (Gd.new w W H _ N bc).old _
  have K2 : Gd w1 (w.heap.size + 1) 0 0 none 0 0 := by
    rw [← hw1]
    have := Gd.new (w.alloc (.cells (gdA W H (some ⟨cb, co, none⟩) N bc) 24)) 0 0 none 0 0
    rwa [World.size_alloc] at this
  have HC := hide (fault_any W H (some ⟨cb, co, none⟩) N bc zs m w1 (h.mono B1))
  rw [if_pos hm, if_pos (by omega)] at HC
  have HP := hide (fun W4 (hb : Below w.heap.size w W4) => put_all W H N bc cb co m x zs W4 hW hH hN hw (h.mono hb))
  have HK1 := hide K1
  have HK2 := hide K2
  have HB1 := hide B1
  have HS1 := hide s1
  have hm3 : m ≤ 2 := by omega
  have hpeb : pE W H zs m x ≤ 8 := by
    rw [pE]
    split
    · split
      · split <;> omega
      · omega
    · omega
  have hptb : pt W H zs m x.toNat ≤ 100 := by
    rw [pt, gone]
    exact Nat.le_trans (goneU_len (List.prefix_refl _)) (Nat.mul_le_mul hW.2 hH.2)
  clear B1 K2 h s1 e1 e2 hm
  go_enter Try.func11, Try.ntmps11
  go_upto_region 1 with fail
  clear hw1
  go_wp2_with (first | (refine wpList_load_gd rfl (.tmp 3) rfl w.heap.size rfl K1 ?_) | fail)
  refine HC.out.mono ?_
  rintro e w2 ⟨rfl, hb2⟩
  have K12 := HK1.out.below hb2 HK1.out.lt
  have HK22 := hide (HK2.out.below hb2 HK2.out.lt)
  have HB2 : Hid (Below w.heap.size w w2) := hide (HB1.out.trans (hb2.mono HB1.out.size))
  have HS2 : Hid (w.heap.size + 2 ≤ w2.heap.size) := hide (by have := HS1.out; have := hb2.size; omega)
  clear hb2 K1 HC
  go_wp2_with (first | (refine wpList_load_gd rfl (.tmp 3) rfl w.heap.size rfl K12 ?_) | fail)
  refine (HP.out _ HB2.out).mono ?_
  rintro e w3 ⟨hb3, h3⟩
  have K8 := HK22.out.below hb3 HK22.out.lt
  have HK8 := hide K8
  have HB3 : Hid (Below w.heap.size w w3) := hide (HB2.out.trans (hb3.mono HB2.out.size))
  have HS3 : Hid (w.heap.size + 2 ≤ w3.heap.size) := hide (Nat.le_trans HS2.out hb3.size)
  clear hb3 K12 HP K8
  rcases h3 with ⟨h1, h2, g, c2, rfl, hBw, hg⟩ | ⟨h1, rfl⟩
  · have HBW := hide hBw
    have H1 := hide h1
    have H2 := hide h2
    have HG : Hid (w.heap.size + 2 ≤ g) := hide (Nat.le_trans HS2.out hg)
    clear h1 h2 hBw hg
    obtain ⟨PT, hPT⟩ : ∃ PT, pt W H zs m x.toNat = PT := ⟨_, rfl⟩
    rw [hPT] at hptb ⊢
    have HPT := hide hPT
    clear hPT
    obtain ⟨w4, hw4⟩ : ∃ w4, w3.alloc (.cells (gdA W H (some ⟨g, 0, none⟩) N c2) 54) = w4 := ⟨_, rfl⟩
    have HN4 : Hid (Hb w4 w3.heap.size W H (some ⟨g, 0, none⟩) N c2) := hide (by rw [← hw4]; exact Hb.new w3 W H _ N c2)
    have B4 : Below w3.heap.size w3 w4 := by rw [← hw4]; exact (Below.refl _ _).alloc (Nat.le_refl _) _
    have HB4 : Hid (Below w.heap.size w w4) := hide (HB3.out.trans (B4.mono HB3.out.size))
    have K84 := HK8.out.below B4 HK8.out.lt
    have HBW4 := hide (HBW.out.mono B4)
    have HW4 := hide hw4
    clear hw4 B4
    go_upto_region 5 with fail
    rw [HW4.out]
    clear HW4
    have hr := HN4.out.range
    go_wp2_with (first
      | refine wpList_load_mid rfl 24 _ rfl w3.heap.size 0 rfl [.int .i64 W, .int .i64 H, .slice (some ⟨g, 0, none⟩) N c2] _ hr Try.underlying24 rfl size24 ?_
      | (refine wpList_store_gd rfl (.tmp 6) (.tmp 30) rfl (w.heap.size + 1) rfl rfl K84 ?_; intro w9 k9 kk9))
    exact bodyPost_ret (results_gd2 rfl _ _ (w.heap.size + 1) rfl k9 rfl rfl) rfl ⟨HB4.out.trans (kk9.below HB4.out.size (fun k hk e => by omega)), .inl ⟨H1.out, H2.out, g, c2, by rw [HPT.out]; rfl, HBW4.out.keeps kk9 (by have := HG.out; omega), by have := HG.out; omega⟩⟩
  · have H1 := hide h1
    clear h1
    obtain ⟨PE, hPE⟩ : ∃ PE, pE W H zs m x = PE := ⟨_, rfl⟩
    rw [hPE] at hpeb ⊢
    have HPE := hide hPE
    clear hPE
    obtain ⟨w4, hw4⟩ : ∃ w4, w3.alloc (.cells (gdA 0 0 none 0 0) 54) = w4 := ⟨_, rfl⟩
    have HN4 : Hid (Hb w4 w3.heap.size 0 0 none 0 0) := hide (by rw [← hw4]; exact Hb.new w3 0 0 _ 0 0)
    have B4 : Below w3.heap.size w3 w4 := by rw [← hw4]; exact (Below.refl _ _).alloc (Nat.le_refl _) _
    have HB4 : Hid (Below w.heap.size w w4) := hide (HB3.out.trans (B4.mono HB3.out.size))
    have K84 := HK8.out.below B4 HK8.out.lt
    have HW4 := hide hw4
    clear hw4 B4
    go_upto_region 5 with fail
    rw [HW4.out]
    clear HW4
    have hr := HN4.out.range
    go_wp2_with (first
      | refine wpList_load_mid rfl 24 _ rfl w3.heap.size 0 rfl [.int .i64 0, .int .i64 0, .slice none 0 0] _ hr Try.underlying24 rfl size24 ?_
      | (refine wpList_store_gd rfl (.tmp 6) (.tmp 30) rfl (w.heap.size + 1) rfl rfl K84 ?_; intro w9 k9 kk9))
    exact bodyPost_ret (results_gd2 rfl _ _ (w.heap.size + 1) rfl k9 rfl rfl) rfl ⟨HB4.out.trans (kk9.below HB4.out.size (fun k hk e => by omega)), .inr ⟨H1.out, by rw [HPE.out]; rfl⟩⟩

end Go.Proofs.Ytafiaimlmdflnaa
