/-
  A stone put: all that comes of it; the faces Group and Put. No conditions beyond those that each theorem bears.
-/
import Derived.Test.YtafiaimlmdflnaaPu
namespace Go.Proofs.Ytafiaimlmdflnaa
open Go.RowKit Go.Shelf

/-- What is told of a stone put. -/
noncomputable def pE (W H : Nat) (Z : List Int) (m : Nat) (x : Int) : Nat :=
  if 0 ≤ x ∧ x < ((W * H : Nat) : Int) then (if Z.getD x.toNat 0 = 0 then (open Classical in if pok W H Z m x.toNat then 0 else 8) else 6) else 3

attribute [local irreducible] D4 spr rgs rgsU lib goneU gone clr grp pz pt

set_option maxRecDepth 100000 in
set_option maxHeartbeats 8000000 in
theorem put_range (W H N bc cb co m : Nat) (x : Int) (w : World) (hx : ¬ (0 ≤ x ∧ x < (N : Int))) :
    Calls Try.prog 36 #[.agg (gdA W H (some ⟨cb, co, none⟩) N bc), .int .i64 m, .int .i64 x] w fun e w' => Below w.heap.size w w' ∧ e = .returned (.tuple #[.agg (gdA 0 0 none 0 0), .int .i64 0, .int .i64 3]) := by
  obtain ⟨w1, hw1⟩ : ∃ w1, (w.alloc (.cells (gdA W H (some ⟨cb, co, none⟩) N bc) 54)).alloc (.cells (gdA 0 0 none 0 0) 54) = w1 := ⟨_, rfl⟩
  have B1 : Below w.heap.size w w1 := by rw [← hw1]; exact ((Below.refl _ w).alloc (Nat.le_refl _) _).alloc (by simp) _
  have K1 : Hb w1 w.heap.size W H (some ⟨cb, co, none⟩) N bc := by rw [← hw1]; exact (Hb.new w W H _ N bc).old _
  have K2 : Hb w1 (w.heap.size + 1) 0 0 none 0 0 := by
    rw [← hw1]
    have := Hb.new (w.alloc (.cells (gdA W H (some ⟨cb, co, none⟩) N bc) 54)) 0 0 none 0 0
    rwa [World.size_alloc] at this
  have HIP := hide (IsPlace_any W H (some ⟨cb, co, none⟩) N bc x w1)
  rw [decide_eq_false hx] at HIP
  have hg1 := K1.range
  have HK2 := hide K2
  have HB1 := hide B1
  clear B1 K1 K2 hx
  go_enter Try.func36, Try.ntmps36
  go_upto_region 1 with fail
  clear hw1
  go_wp2_with (refine wpList_load_mid rfl 24 _ rfl w.heap.size 0 rfl [.int .i64 W, .int .i64 H, .slice (some ⟨cb, co, none⟩) N bc] _ hg1 Try.underlying24 rfl size24 ?_)
  refine HIP.out.mono ?_
  rintro e w2 ⟨rfl, hb2⟩
  have K8 := HK2.out.below hb2 HK2.out.lt
  have HB2 : Hid (Below w.heap.size w w2) := hide (HB1.out.trans (hb2.mono HB1.out.size))
  clear hb2 hg1 HIP
  go_wp2_with (first
    | (refine wpList_store_hb rfl (.tmp 6) (.tmp 16) rfl (w.heap.size + 1) rfl rfl K8 ?_; intro w9 k9 kk9))
  exact bodyPost_ret (results_hb2 rfl _ _ (w.heap.size + 1) rfl k9 rfl rfl) rfl ⟨HB2.out.trans (kk9.below HB2.out.size (fun k hk e => by omega)), rfl⟩

set_option maxRecDepth 100000 in
set_option maxHeartbeats 8000000 in
theorem put_twice (W H N bc cb co m p : Nat) (Z : List Int) (w : World) (hp : p < N) (hz : ¬ Z.getD p 0 = 0) (hR : Rd w (some ⟨cb, co, none⟩) N bc Z) :
    Calls Try.prog 36 #[.agg (gdA W H (some ⟨cb, co, none⟩) N bc), .int .i64 m, .int .i64 p] w fun e w' => Below w.heap.size w w' ∧ e = .returned (.tuple #[.agg (gdA 0 0 none 0 0), .int .i64 0, .int .i64 6]) := by
  have hp' : (p : Int) < (N : Int) := by omega
  have hcap := hR.cap
  have hmx : bc ≤ 9223372036854775807 := by have := hR.max; unfold maxLen at this; omega
  obtain ⟨w1, hw1⟩ : ∃ w1, (w.alloc (.cells (gdA W H (some ⟨cb, co, none⟩) N bc) 54)).alloc (.cells (gdA 0 0 none 0 0) 54) = w1 := ⟨_, rfl⟩
  have B1 : Below w.heap.size w w1 := by rw [← hw1]; exact ((Below.refl _ w).alloc (Nat.le_refl _) _).alloc (by simp) _
  have K1 : Hb w1 w.heap.size W H (some ⟨cb, co, none⟩) N bc := by rw [← hw1]; exact (Hb.new w W H _ N bc).old _
  have K2 : Hb w1 (w.heap.size + 1) 0 0 none 0 0 := by
    rw [← hw1]
    have := Hb.new (w.alloc (.cells (gdA W H (some ⟨cb, co, none⟩) N bc) 54)) 0 0 none 0 0
    rwa [World.size_alloc] at this
  have HIP := hide (IsPlace_any W H (some ⟨cb, co, none⟩) N bc p w1)
  rw [decide_eq_true (show 0 ≤ (p : Int) ∧ (p : Int) < N by omega)] at HIP
  have hg1 := K1.range
  have HK1 := hide K1
  have HK2 := hide K2
  have HB1 := hide B1
  have HR1 := hide (hR.mono B1)
  clear B1 K1 K2 hR
  go_enter Try.func36, Try.ntmps36
  go_upto_region 1 with fail
  clear hw1
  go_wp2_with (refine wpList_load_mid rfl 24 _ rfl w.heap.size 0 rfl [.int .i64 W, .int .i64 H, .slice (some ⟨cb, co, none⟩) N bc] _ hg1 Try.underlying24 rfl size24 ?_)
  refine HIP.out.mono ?_
  rintro e w2 ⟨rfl, hb2⟩
  have K8 := HK2.out.below hb2 HK2.out.lt
  have HB2 : Hid (Below w.heap.size w w2) := hide (HB1.out.trans (hb2.mono HB1.out.size))
  have cz := ((HR1.out.mono hb2).cell hp).2
  obtain ⟨-, -, g2⟩ := (HK1.out.below hb2 HK1.out.lt).cells
  obtain ⟨z, hzz⟩ : ∃ z, Z.getD p 0 = z := ⟨_, rfl⟩
  rw [hzz] at cz hz
  have hne : (z != 0) = true := by simpa using hz
  clear hb2 hg1 HIP hzz
  go_wp2_with (first
    | (refine wpList_store_hb rfl (.tmp 6) (.tmp 24) rfl (w.heap.size + 1) rfl rfl K8 ?_; intro w9 k9 kk9))
  exact bodyPost_ret (results_hb2 rfl _ _ (w.heap.size + 1) rfl k9 rfl rfl) rfl ⟨HB2.out.trans (kk9.below HB2.out.size (fun k hk e => by omega)), rfl⟩

/-- What comes of a stone put: the board behind it, or nothing. -/
def PutIs (W H N : Nat) (Z : List Int) (m : Nat) (x : Int) (w : World) (e : Ending) (w' : World) : Prop :=
  Below w.heap.size w w' ∧ ((pE W H Z m x = 0 ∧ (0 ≤ x ∧ x < (N : Int) ∧ Z.getD x.toNat 0 = 0 ∧ pok W H Z m x.toNat) ∧ ∃ cb' bc', e = .returned (.tuple #[.agg (gdA W H (some ⟨cb', 0, none⟩) N bc'), .int .i64 (pt W H Z m x.toNat : Nat), .int .i64 0]) ∧ Bw w' cb' N bc' (pz W H Z m x.toNat) ∧ w.heap.size ≤ cb') ∨ (pE W H Z m x ≠ 0 ∧ e = .returned (.tuple #[.agg (gdA 0 0 none 0 0), .int .i64 0, .int .i64 (pE W H Z m x : Nat)])))

theorem put_all (W H N bc cb co m : Nat) (x : Int) (Z : List Int) (w : World) (hW : 1 ≤ W ∧ W ≤ 10) (hH : 1 ≤ H ∧ H ≤ 10) (hN : W * H = N) (hm : m = 1 ∨ m = 2) (hR : Rd w (some ⟨cb, co, none⟩) N bc Z) :
    Calls Try.prog 36 #[.agg (gdA W H (some ⟨cb, co, none⟩) N bc), .int .i64 m, .int .i64 x] w (PutIs W H N Z m x w) := by
  by_cases hx : 0 ≤ x ∧ x < (N : Int)
  · obtain ⟨p, rfl⟩ := Int.eq_ofNat_of_zero_le hx.1
    have hp : p < N := by omega
    by_cases hz : Z.getD p 0 = 0
    · refine (put_any W H N bc cb co m p Z w hW hH hN hp hm hz hR).mono ?_
      rintro e w' ⟨hb, h⟩
      refine ⟨hb, ?_⟩
      have hpe : pE W H Z m (p : Int) = (open Classical in if pok W H Z m p then 0 else 8) := by
        unfold pE
        rw [hN, if_pos hx, Int.toNat_natCast, if_pos hz]
      rcases h with ⟨h1, cb', bc', h2, h3, h4⟩ | ⟨h1, h2⟩
      · rw [hpe, if_pos h1]
        exact .inl ⟨rfl, ⟨hx.1, hx.2, hz, h1⟩, cb', bc', h2, h3, h4⟩
      · rw [hpe, if_neg h1]
        exact .inr ⟨by omega, h2⟩
    · refine (put_twice W H N bc cb co m p Z w hp hz hR).mono ?_
      rintro e w' ⟨hb, h⟩
      have hpe : pE W H Z m (p : Int) = 6 := by
        unfold pE
        rw [hN, if_pos hx, Int.toNat_natCast, if_neg hz]
      exact ⟨hb, .inr ⟨by omega, by rw [hpe]; exact h⟩⟩
  · refine (put_range W H N bc cb co m x w hx).mono ?_
    rintro e w' ⟨hb, h⟩
    have hpe : pE W H Z m x = 3 := by
      unfold pE
      rw [hN, if_neg hx]
    exact ⟨hb, .inr ⟨by omega, by rw [hpe]; exact h⟩⟩

theorem fault_any (W H : Int) (a : Option Addr) (n c : Nat) (zs : List Int) (x : Int) (w : World) (h : Rd w a n c zs) :
    Calls Try.prog 35 #[.agg (gdA W H a n c), .int .i64 x] w fun e w' => e = .returned (.int .i64 (if mayP W H zs then (if x = 1 ∨ x = 2 then 0 else 4) else 12)) ∧ Below w.heap.size w w' := by
  have B := (Below.refl w.heap.size w).alloc (Nat.le_refl _) (.cells (gdA W H a n c) 24)
  have HM := hide (May_any W H a n c zs _ (h.mono B))
  have hG := Gd.new w W H a n c
  have HB := hide B
  have HS : Hid (w.heap.size ≤ (w.alloc (.cells (gdA W H a n c) 24)).heap.size) := hide B.size
  clear B
  by_cases hm : mayP W H zs
  · rw [mayG_yes hm] at HM
    by_cases hx : x = 1 ∨ x = 2
    · have HP := hide (fun W' => IsPlayer_any x W')
      rw [decide_eq_true hx] at HP
      rw [if_pos hm, if_pos hx]
      clear hm hx
      go_enter Try.func35, Try.ntmps35
      go_wp2_with (first | (refine wpList_load_gd rfl (.tmp 2) rfl w.heap.size rfl hG ?_) | fail)
      refine HM.out.mono ?_
      rintro e w2 ⟨rfl, hb2⟩
      have HB2 := hide (HB.out.trans (hb2.mono HS.out))
      clear hb2 HM hG
      go_wp2_with fail
      refine (HP.out _).mono ?_
      rintro e w3 ⟨rfl, hw3⟩
      subst w3
      go_wp2_with fail
      go_ret
      exact ⟨rfl, HB2.out⟩
    · have HP := hide (fun W' => IsPlayer_any x W')
      rw [decide_eq_false hx] at HP
      rw [if_pos hm, if_neg hx]
      clear hm hx
      go_enter Try.func35, Try.ntmps35
      go_wp2_with (first | (refine wpList_load_gd rfl (.tmp 2) rfl w.heap.size rfl hG ?_) | fail)
      refine HM.out.mono ?_
      rintro e w2 ⟨rfl, hb2⟩
      have HB2 := hide (HB.out.trans (hb2.mono HS.out))
      clear hb2 HM hG
      go_wp2_with fail
      refine (HP.out _).mono ?_
      rintro e w3 ⟨rfl, hw3⟩
      subst w3
      go_wp2_with fail
      go_ret
      exact ⟨rfl, HB2.out⟩
  · rw [mayG_no hm] at HM
    rw [if_neg hm]
    clear hm
    go_enter Try.func35, Try.ntmps35
    go_wp2_with (first | (refine wpList_load_gd rfl (.tmp 2) rfl w.heap.size rfl hG ?_) | fail)
    refine HM.out.mono ?_
    rintro e w2 ⟨rfl, hb2⟩
    have HB2 := hide (HB.out.trans (hb2.mono HS.out))
    clear hb2 HM hG
    go_wp2_with fail
    go_ret
    exact ⟨rfl, HB2.out⟩

end Go.Proofs.Ytafiaimlmdflnaa
