/-
  'gameroomlaw.DeckRiffles' returns true for every slice of ints that can be read, whatever in and n are, and changes nothing that was there.
-/
import Derived.Test.YtdipbbcggccgcaaRef
import Derived.Deep.RegionLaw
namespace Go.Proofs.Ytdipbbcggccgcaa
open Go.RowKit

set_option maxHeartbeats 1000000 in
theorem riffles_big (a : Option Addr) (n c : Nat) (zs : List Int) (b : Bool) (k : Int) (w : World) (h : Rd w a n c zs) (hr : n * 8 ≤ 140737488351232) (hn : 104 < n) :
    Calls Try.prog 4 #[.slice a n c, .bool b, .int .i64 k] w fun e w' => e = .returned (.bool true) ∧ Below w.heap.size w w' := by
  have hcm := h.max
  have hcn := h.cap
  unfold maxLen at hcm
  have H := hide h
  clear h
  go_enter Try.func4, Try.ntmps4
  go_wp2_with fail
  refine (ints_any a n c zs _ H.out hr).mono ?_
  rintro e w1 ⟨a1, c1, rfl, hR1, hB1⟩
  go_wp2_with fail
  refine (Riffle_no _ _ _ _ _ (.inr hn)).mono ?_
  rintro e w1' ⟨rfl, rfl⟩
  go_wp2_with fail
  refine (ints_any a n c zs _ (H.out.mono hB1) hr).mono ?_
  rintro e w2 ⟨a2, c2, rfl, hR2, hB2⟩
  go_wp2_with fail
  refine (Cut_big _ _ _ _ _ hn).mono ?_
  rintro e w2' ⟨rfl, rfl⟩
  by_cases hodd : ((n : Int) % 2 == 1) = true
  all_goals
    go_wp2_with fail
    go_ret
    exact ⟨rfl, hB1.trans (hB2.mono hB1.size)⟩


set_option maxHeartbeats 1000000 in
theorem riffles_odd_no (a : Option Addr) (n c : Nat) (zs : List Int) (b : Bool) (k : Int) (w : World) (h : Rd w a n c zs) (hr : n * 8 ≤ 140737488351232) (hn : n ≤ 104) (hodd : n % 2 = 1) (hk : k < 0 ∨ (n : Int) < k) :
    Calls Try.prog 4 #[.slice a n c, .bool b, .int .i64 k] w fun e w' => e = .returned (.bool true) ∧ Below w.heap.size w w' := by
  have H := hide h
  clear h
  have hodd' : ((n : Int) % 2 == 1) = true := by simp; omega
  go_enter Try.func4, Try.ntmps4
  go_wp2_with fail
  refine (ints_any a n c zs _ H.out hr).mono ?_
  rintro e w1 ⟨a1, c1, rfl, hR1, hB1⟩
  go_wp2_with fail
  refine (Riffle_no _ _ _ _ _ (.inl hodd)).mono ?_
  rintro e w1' ⟨rfl, rfl⟩
  go_wp2_with fail
  refine (ints_any a n c zs _ (H.out.mono hB1) hr).mono ?_
  rintro e w2 ⟨a2, c2, rfl, hR2, hB2⟩
  go_wp2_with fail
  refine (Cut_no _ _ _ _ _ hn hk).mono ?_
  rintro e w2' ⟨rfl, rfl⟩
  by_cases hk0 : k < 0
  · go_wp2_with fail
    go_ret
    exact ⟨rfl, hB1.trans (hB2.mono hB1.size)⟩
  · have hk1 : (n : Int) < k := by omega
    go_wp2_with fail
    go_ret
    exact ⟨rfl, hB1.trans (hB2.mono hB1.size)⟩

set_option maxHeartbeats 1000000 in
theorem riffles_odd_yes (a : Option Addr) (n c : Nat) (zs : List Int) (b : Bool) (k : Nat) (w : World) (h : Rd w a n c zs) (hr : n * 8 ≤ 140737488351232) (hn : n ≤ 104) (hodd : n % 2 = 1) (hk : k ≤ n) :
    Calls Try.prog 4 #[.slice a n c, .bool b, .int .i64 k] w fun e w' => e = .returned (.bool true) ∧ Below w.heap.size w w' := by
  have H := hide h
  have hcm := h.max
  have hcn := h.cap
  unfold maxLen at hcm
  clear h
  have hodd' : ((n : Int) % 2 == 1) = true := by simp; omega
  go_enter Try.func4, Try.ntmps4
  go_wp2_with fail
  refine (ints_any _ n c zs _ H.out hr).mono ?_
  rintro e w1 ⟨a1, c1, rfl, hR1, hB1⟩
  go_wp2_with fail
  refine (Riffle_no _ _ _ _ _ (.inl hodd)).mono ?_
  rintro e w1' ⟨rfl, rfl⟩
  go_wp2_with fail
  refine (ints_any _ n c zs _ (H.out.mono hB1) hr).mono ?_
  rintro e w2 ⟨a2, c2, rfl, hR2, hB2⟩
  go_wp2_with fail
  refine (Cut_yes _ _ _ zs _ _ hR2 hn hk).mono ?_
  rintro e w3 ⟨a3, c3, rfl, hR3, hB3⟩
  have HB := hide (hB1.trans ((hB2.trans (hB3.mono hB2.size)).mono hB1.size))
  have R0 := hide (H.out.mono HB.out)
  clear hR1 hB1 hR2 hB2 hB3 H
  have hkc : k ≤ c := by omega
  have RF := hide (R0.out.drew.from hk)
  have RU := hide (R0.out.drew.upto hk)
  go_wp2_with fail
  refine wp_region_any (by kernel_rfl) ?_
  change wpAny _ _ _ _ _ _ _ (World.drew _)
  refine wpAny_take (i := 0) (v := ?_) rfl (by kernel_rfl) (by kernel_rfl) (by kernel_rfl) (fun _ _ _ h => h) (Or.inl ⟨by rfl, ?_⟩) ?_
  rotate_left
  · intro w
    go_simp
    with_reducible rfl
  go_simp
  refine wpAny_take (i := 1) (v := ?_) rfl (by kernel_rfl) (by kernel_rfl) (by kernel_rfl) (fun _ _ _ h => h) (Or.inl ⟨by rfl, ?_⟩) ?_
  rotate_left
  · intro w
    go_simp
    with_reducible rfl
  go_simp
  refine wpAny_take (i := 2) (v := ?_) rfl (by kernel_rfl) (by kernel_rfl) (by kernel_rfl) (fun _ _ _ h => h) (Or.inl ⟨by rfl, ?_⟩) ?_
  rotate_left
  · intro w
    go_simp
    with_reducible rfl
  go_simp
  refine wpAny_take (i := 3) (v := ?_) rfl (by kernel_rfl) (by kernel_rfl) (by kernel_rfl) (fun _ _ _ h => h) (Or.inl ⟨by rfl, ?_⟩) ?_
  rotate_left
  · intro w
    go_simp
    with_reducible rfl
  go_simp
  refine wpAny_take (i := 4) (v := ?_) rfl (by kernel_rfl) (by kernel_rfl) (by kernel_rfl) (fun _ _ _ h => h) (Or.inl ⟨by rfl, ?_⟩) ?_
  rotate_left
  · intro w
    go_simp
    with_reducible rfl
  go_simp
  refine wpAny_take (i := 5) (v := ?_) rfl (by kernel_rfl) (by kernel_rfl) (by kernel_rfl) (fun _ _ _ h => h) (Or.inl ⟨by rfl, ?_⟩) ?_
  rotate_left
  · intro w
    go_simp
    with_reducible rfl
  go_simp
  refine wpAny_take (i := 8) (v := ?_) rfl (by kernel_rfl) (by kernel_rfl) (by kernel_rfl) (fun _ _ _ h => h) (Or.inl ⟨by rfl, ?_⟩) ?_
  rotate_left
  · intro w
    go_simp
    with_reducible rfl
  go_simp
  refine wpAny_take (i := 9) (v := ?_) rfl (by kernel_rfl) (by kernel_rfl) (by kernel_rfl) (fun _ _ _ h => h) (Or.inl ⟨by rfl, ?_⟩) ?_
  rotate_left
  · intro w
    go_simp
    with_reducible rfl
  go_simp
  refine wpAny_take (i := 6) (v := Value.slice (if c = k then a else Option.map (fun x => x.add k) a) (n - k) (c - k)) rfl (by kernel_rfl) (by kernel_rfl) (by kernel_rfl) (fun _ _ _ h => h) (Or.inl ⟨by rfl, ?_⟩) ?_
  · intro w
    go_simp
  go_simp
  refine wpAny_take (i := 10) (v := Value.slice a k c) rfl (by kernel_rfl) (by kernel_rfl) (by kernel_rfl) (fun _ _ _ h => h) (Or.inl ⟨by rfl, ?_⟩) ?_
  · intro w
    go_simp
  go_simp
  obtain ⟨af, haf⟩ : ∃ af, af = (if c = k then a else Option.map (fun x => x.add k) a) := ⟨_, rfl⟩
  rw [← haf] at RF
  rw [← haf]
  clear haf
  refine wpAny_ready (rs := [7]) (by kernel_rfl) (by simp) ?_
  refine AllReady.cons rfl (fun K hK => ?_) ?_
  rotate_left
  · exact AllReady.nil
  go_simp
  refine (ints_own af (n - k) (c - k) (zs.drop k) _ RF.out (by omega)).mono ?_
  rintro e w4 ⟨a4, c4, rfl, hO4, hB4⟩
  refine hK _ _ ?_
  clear hK K
  go_simp
  refine wpAny_ready (rs := [11]) (by kernel_rfl) (by simp) ?_
  refine AllReady.cons rfl (fun K hK => ?_) ?_
  rotate_left
  · exact AllReady.nil
  rw [if_pos (by rfl)]
  refine wp_append_rd w4 (.tmp 83) (.tmp 86) rfl w3.drew.heap.size (.slice a4 (n - k) c4) (n - k) (zs.drop k) rfl hO4 a k c (zs.take k) rfl (RU.out.mono hB4) (by omega) hB4.size ?_
  intro v5 w5 hO5 hG5
  have hB5 : Below w3.drew.heap.size w3.drew w5 := hB4.grown hG5 hB4.size (fun j hj => (hO4.lt j hj).1)
  have hex : ∃ a5 c5, v5 = .slice a5 n c5 := by
    rcases hO5.2 with ⟨hv, h0⟩ | ⟨g, cap, cur, hv, _⟩
    · exact ⟨none, 0, by rw [hv]; simp; omega⟩
    · exact ⟨_, _, by rw [hv, show n - k + k = n by omega]⟩
  obtain ⟨a5, c5, hv5⟩ := hex
  rw [show n - k + k = n by omega, hv5] at hO5
  rw [hv5]
  have hR5 := Rd.of_own hO5
  clear hO5 hO4 hG5 hv5
  refine hK _ _ ?_
  clear hK K
  go_simp
  refine wpAny_ready (rs := [12]) (by kernel_rfl) (by simp) ?_
  refine AllReady.cons rfl (fun K hK => ?_) ?_
  rotate_left
  · exact AllReady.nil
  go_simp
  refine (sameInts_any _ _ _ _ _ _ _ _ _ (hR3.mono ((Below.refl _ _).drew.trans hB5)) hR5).mono ?_
  rintro e w6 ⟨rfl, q, rfl⟩
  simp only [decide_true]
  refine hK _ _ ?_
  clear hK K
  go_simp
  refine wpAny_take (i := 13) (v := ?_) rfl (by kernel_rfl) (by kernel_rfl) (by kernel_rfl) (fun _ _ _ h => h) (Or.inl ⟨by rfl, ?_⟩) ?_
  rotate_left
  · intro w
    go_simp
    with_reducible rfl
  go_simp
  refine wpAny_take (i := 14) (v := ?_) rfl (by kernel_rfl) (by kernel_rfl) (by kernel_rfl) (fun _ _ _ h => h) (Or.inl ⟨by rfl, ?_⟩) ?_
  rotate_left
  · intro w
    go_simp
    with_reducible rfl
  go_simp
  refine wpAny_done (by kernel_rfl) ?_ _
  go_wp2_with fail
  go_ret
  exact ⟨rfl, below_drewN (HB.out.trans (((Below.refl _ _).drew.trans hB5).mono HB.out.size)) _⟩

set_option maxHeartbeats 1000000 in
theorem riffles_even_no (a : Option Addr) (n c : Nat) (zs : List Int) (b : Bool) (k : Int) (w : World) (h : Rd w a n c zs) (hr : n * 8 ≤ 140737488351232) (hn : n ≤ 104) (heven : n % 2 = 0) (hk : k < 0 ∨ (n : Int) < k) :
    Calls Try.prog 4 #[.slice a n c, .bool b, .int .i64 k] w fun e w' => e = .returned (.bool true) ∧ Below w.heap.size w w' := by
  have H := hide h
  have hcm := h.max
  have hcn := h.cap
  unfold maxLen at hcm
  clear h
  have hodd' : ((n : Int) % 2 == 1) = false := by simp; omega
  go_enter Try.func4, Try.ntmps4
  go_wp2_with fail
  refine (ints_any _ n c zs _ H.out hr).mono ?_
  rintro e w1 ⟨a1, c1, rfl, hR1, hB1⟩
  go_wp2_with fail
  refine (Riffle_yes _ _ _ zs _ _ hR1 heven hn).mono ?_
  rintro e w1' ⟨ar, cr, rfl, hRr, hBr⟩
  have hB1r := hB1.trans (hBr.mono hB1.size)
  go_wp2_with fail
  refine (ints_any _ n c zs _ (H.out.mono hB1r) hr).mono ?_
  rintro e w2 ⟨a2, c2, rfl, hR2, hB2⟩
  go_wp2_with fail
  refine (Cut_no _ _ _ _ _ hn hk).mono ?_
  rintro e w3 ⟨rfl, rfl⟩
  have hBA := hB1r.trans (hB2.mono hB1r.size)
  have hRr3 := hRr.mono hB2
  have R3 := hide (H.out.mono hBA)
  clear hR1 hB1 hR2 hBr hB1r hRr H
  have HBA := hide hBA
  have HRr := hide hRr3
  clear hBA hRr3
  go_wp2_with fail
  refine (RiffleOf_any _ _ _ zs _ _ R3.out heven hn).mono ?_
  rintro e w4 ⟨a4, c4, rfl, hR4, hB4⟩
  go_wp2_with fail
  refine (sameInts_any _ _ _ _ _ _ _ _ _ (HRr.out.mono hB4) hR4).mono ?_
  rintro e w5 ⟨rfl, q, rfl⟩
  simp only [decide_true]
  have HB4 := hide hB4
  clear hB4
  by_cases hk0 : k < 0
  · go_wp2_with fail
    go_ret
    exact ⟨rfl, below_drewN (HBA.out.trans (HB4.out.mono HBA.out.size)) _⟩
  · have hk1 : (n : Int) < k := by omega
    go_wp2_with fail
    go_ret
    exact ⟨rfl, below_drewN (HBA.out.trans (HB4.out.mono HBA.out.size)) _⟩

set_option maxHeartbeats 1000000 in
theorem riffles_even_yes (a : Option Addr) (n c : Nat) (zs : List Int) (b : Bool) (k : Nat) (w : World) (h : Rd w a n c zs) (hr : n * 8 ≤ 140737488351232) (hn : n ≤ 104) (heven : n % 2 = 0) (hk : k ≤ n) :
    Calls Try.prog 4 #[.slice a n c, .bool b, .int .i64 k] w fun e w' => e = .returned (.bool true) ∧ Below w.heap.size w w' := by
  have H := hide h
  have hcm := h.max
  have hcn := h.cap
  unfold maxLen at hcm
  clear h
  have hodd' : ((n : Int) % 2 == 1) = false := by simp; omega
  go_enter Try.func4, Try.ntmps4
  go_wp2_with fail
  refine (ints_any _ n c zs _ H.out hr).mono ?_
  rintro e w1 ⟨a1, c1, rfl, hR1, hB1⟩
  go_wp2_with fail
  refine (Riffle_yes _ _ _ zs _ _ hR1 heven hn).mono ?_
  rintro e w1' ⟨ar, cr, rfl, hRr, hBr⟩
  have hB1r := hB1.trans (hBr.mono hB1.size)
  go_wp2_with fail
  refine (ints_any _ n c zs _ (H.out.mono hB1r) hr).mono ?_
  rintro e w2 ⟨a2, c2, rfl, hR2, hB2⟩
  go_wp2_with fail
  refine (Cut_yes _ _ _ zs _ _ hR2 hn hk).mono ?_
  rintro e w3' ⟨a3, c3, rfl, hR30, hB3⟩
  have hBA := hB1r.trans ((hB2.trans (hB3.mono hB2.size)).mono hB1r.size)
  have hRr3 := hRr.mono (hB2.trans (hB3.mono hB2.size))
  have R3 := hide (H.out.mono hBA)
  clear hR1 hB1 hR2 hBr hB1r hRr H
  have HBA := hide hBA
  have HRr := hide hRr3
  clear hBA hRr3
  go_wp2_with fail
  refine (RiffleOf_any _ _ _ zs _ _ R3.out heven hn).mono ?_
  rintro e w4 ⟨a4, c4, rfl, hR4, hB4⟩
  go_wp2_with fail
  refine (sameInts_any _ _ _ _ _ _ _ _ _ (HRr.out.mono hB4) hR4).mono ?_
  rintro e w5 ⟨rfl, q, rfl⟩
  simp only [decide_true]
  have HB := hide (below_drewN (HBA.out.trans (hB4.mono HBA.out.size)) q)
  have hR3 := hR30.mono (below_drewN hB4 q)
  have R0 := hide (R3.out.mono (below_drewN hB4 q))
  clear hR30 hB3 hB2 hR4 R3 HRr HBA
  obtain ⟨w3, hw3⟩ : ∃ w3, w3 = w4.drewN q := ⟨_, rfl⟩
  rw [← hw3] at HB hR3 R0
  rw [← hw3]
  clear hw3 hB4
  have hkc : k ≤ c := by omega
  have RF := hide (R0.out.drew.from hk)
  have RU := hide (R0.out.drew.upto hk)
  go_wp2_with fail
  refine wp_region_any (by kernel_rfl) ?_
  change wpAny _ _ _ _ _ _ _ (World.drew _)
  refine wpAny_take (i := 0) (v := ?_) rfl (by kernel_rfl) (by kernel_rfl) (by kernel_rfl) (fun _ _ _ h => h) (Or.inl ⟨by rfl, ?_⟩) ?_
  rotate_left
  · intro w
    go_simp
    with_reducible rfl
  go_simp
  refine wpAny_take (i := 1) (v := ?_) rfl (by kernel_rfl) (by kernel_rfl) (by kernel_rfl) (fun _ _ _ h => h) (Or.inl ⟨by rfl, ?_⟩) ?_
  rotate_left
  · intro w
    go_simp
    with_reducible rfl
  go_simp
  refine wpAny_take (i := 2) (v := ?_) rfl (by kernel_rfl) (by kernel_rfl) (by kernel_rfl) (fun _ _ _ h => h) (Or.inl ⟨by rfl, ?_⟩) ?_
  rotate_left
  · intro w
    go_simp
    with_reducible rfl
  go_simp
  refine wpAny_take (i := 3) (v := ?_) rfl (by kernel_rfl) (by kernel_rfl) (by kernel_rfl) (fun _ _ _ h => h) (Or.inl ⟨by rfl, ?_⟩) ?_
  rotate_left
  · intro w
    go_simp
    with_reducible rfl
  go_simp
  refine wpAny_take (i := 4) (v := ?_) rfl (by kernel_rfl) (by kernel_rfl) (by kernel_rfl) (fun _ _ _ h => h) (Or.inl ⟨by rfl, ?_⟩) ?_
  rotate_left
  · intro w
    go_simp
    with_reducible rfl
  go_simp
  refine wpAny_take (i := 5) (v := ?_) rfl (by kernel_rfl) (by kernel_rfl) (by kernel_rfl) (fun _ _ _ h => h) (Or.inl ⟨by rfl, ?_⟩) ?_
  rotate_left
  · intro w
    go_simp
    with_reducible rfl
  go_simp
  refine wpAny_take (i := 8) (v := ?_) rfl (by kernel_rfl) (by kernel_rfl) (by kernel_rfl) (fun _ _ _ h => h) (Or.inl ⟨by rfl, ?_⟩) ?_
  rotate_left
  · intro w
    go_simp
    with_reducible rfl
  go_simp
  refine wpAny_take (i := 9) (v := ?_) rfl (by kernel_rfl) (by kernel_rfl) (by kernel_rfl) (fun _ _ _ h => h) (Or.inl ⟨by rfl, ?_⟩) ?_
  rotate_left
  · intro w
    go_simp
    with_reducible rfl
  go_simp
  refine wpAny_take (i := 6) (v := Value.slice (if c = k then a else Option.map (fun x => x.add k) a) (n - k) (c - k)) rfl (by kernel_rfl) (by kernel_rfl) (by kernel_rfl) (fun _ _ _ h => h) (Or.inl ⟨by rfl, ?_⟩) ?_
  · intro w
    go_simp
  go_simp
  refine wpAny_take (i := 10) (v := Value.slice a k c) rfl (by kernel_rfl) (by kernel_rfl) (by kernel_rfl) (fun _ _ _ h => h) (Or.inl ⟨by rfl, ?_⟩) ?_
  · intro w
    go_simp
  go_simp
  obtain ⟨af, haf⟩ : ∃ af, af = (if c = k then a else Option.map (fun x => x.add k) a) := ⟨_, rfl⟩
  rw [← haf] at RF
  rw [← haf]
  clear haf
  refine wpAny_ready (rs := [7]) (by kernel_rfl) (by simp) ?_
  refine AllReady.cons rfl (fun K hK => ?_) ?_
  rotate_left
  · exact AllReady.nil
  go_simp
  refine (ints_own af (n - k) (c - k) (zs.drop k) _ RF.out (by omega)).mono ?_
  rintro e w4 ⟨a4, c4, rfl, hO4, hB4⟩
  refine hK _ _ ?_
  clear hK K
  go_simp
  refine wpAny_ready (rs := [11]) (by kernel_rfl) (by simp) ?_
  refine AllReady.cons rfl (fun K hK => ?_) ?_
  rotate_left
  · exact AllReady.nil
  rw [if_pos (by rfl)]
  refine wp_append_rd w4 (.tmp 83) (.tmp 86) rfl w3.drew.heap.size (.slice a4 (n - k) c4) (n - k) (zs.drop k) rfl hO4 a k c (zs.take k) rfl (RU.out.mono hB4) (by omega) hB4.size ?_
  intro v5 w5 hO5 hG5
  have hB5 : Below w3.drew.heap.size w3.drew w5 := hB4.grown hG5 hB4.size (fun j hj => (hO4.lt j hj).1)
  have hex : ∃ a5 c5, v5 = .slice a5 n c5 := by
    rcases hO5.2 with ⟨hv, h0⟩ | ⟨g, cap, cur, hv, _⟩
    · exact ⟨none, 0, by rw [hv]; simp; omega⟩
    · exact ⟨_, _, by rw [hv, show n - k + k = n by omega]⟩
  obtain ⟨a5, c5, hv5⟩ := hex
  rw [show n - k + k = n by omega, hv5] at hO5
  rw [hv5]
  have hR5 := Rd.of_own hO5
  clear hO5 hO4 hG5 hv5
  refine hK _ _ ?_
  clear hK K
  go_simp
  refine wpAny_ready (rs := [12]) (by kernel_rfl) (by simp) ?_
  refine AllReady.cons rfl (fun K hK => ?_) ?_
  rotate_left
  · exact AllReady.nil
  go_simp
  refine (sameInts_any _ _ _ _ _ _ _ _ _ (hR3.mono ((Below.refl _ _).drew.trans hB5)) hR5).mono ?_
  rintro e w6 ⟨rfl, q, rfl⟩
  simp only [decide_true]
  refine hK _ _ ?_
  clear hK K
  go_simp
  refine wpAny_take (i := 13) (v := ?_) rfl (by kernel_rfl) (by kernel_rfl) (by kernel_rfl) (fun _ _ _ h => h) (Or.inl ⟨by rfl, ?_⟩) ?_
  rotate_left
  · intro w
    go_simp
    with_reducible rfl
  go_simp
  refine wpAny_take (i := 14) (v := ?_) rfl (by kernel_rfl) (by kernel_rfl) (by kernel_rfl) (fun _ _ _ h => h) (Or.inl ⟨by rfl, ?_⟩) ?_
  rotate_left
  · intro w
    go_simp
    with_reducible rfl
  go_simp
  refine wpAny_done (by kernel_rfl) ?_ _
  go_wp2_with fail
  go_ret
  exact ⟨rfl, below_drewN (HB.out.trans (((Below.refl _ _).drew.trans hB5).mono HB.out.size)) _⟩

theorem riffles_any (a : Option Addr) (n c : Nat) (zs : List Int) (b : Bool) (k : Int) (w : World) (h : Rd w a n c zs) (hr : n * 8 ≤ 140737488351232) :
    Calls Try.prog 4 #[.slice a n c, .bool b, .int .i64 k] w fun e w' => e = .returned (.bool true) ∧ Below w.heap.size w w' := by
  by_cases hn : 104 < n
  · exact riffles_big a n c zs b k w h hr hn
  · by_cases hk : k < 0 ∨ (n : Int) < k
    · rcases Nat.mod_two_eq_zero_or_one n with h2 | h2
      · exact riffles_even_no a n c zs b k w h hr (by omega) h2 hk
      · exact riffles_odd_no a n c zs b k w h hr (by omega) h2 hk
    · obtain ⟨q, rfl⟩ := Int.eq_ofNat_of_zero_le (show 0 ≤ k by omega)
      rcases Nat.mod_two_eq_zero_or_one n with h2 | h2
      · exact riffles_even_yes a n c zs b q w h hr (by omega) h2 (by omega)
      · exact riffles_odd_yes a n c zs b q w h hr (by omega) h2 (by omega)

end Go.Proofs.Ytdipbbcggccgcaa
