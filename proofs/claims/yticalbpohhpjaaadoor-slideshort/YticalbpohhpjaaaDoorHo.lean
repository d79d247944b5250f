/-
  The home board, as the document makes it. No conditions beyond those that each theorem bears.
-/
import Derived.Test.YticalbpohhpjaaaDoorSm
namespace Go.Proofs.YticalbpohhpjaaaDoor
open Go.RowKit

/-- The home board's numbers. -/
def homeL (n : Nat) : List Int := (List.range n).map fun i => (((i + 1) % n : Nat) : Int)

theorem homeL_length (n : Nat) : (homeL n).length = n := by simp [homeL]
theorem homeL_at (n i : Nat) (h : i < n) : (homeL n).getD i 0 = (((i + 1) % n : Nat) : Int) := by simp [homeL, List.getD, h]

theorem slice_form {w : World} {base : Nat} {v : Value} {n : Nat} {xs : List Value} (h : w.ownsRow base 3 1 v n xs) : ∃ a c, v = .slice a n c := by
  rcases h.2 with ⟨hv, h0⟩ | ⟨g, cap, cur, hv, _⟩
  · exact ⟨none, 0, by rw [hv, h0]⟩
  · exact ⟨_, _, hv⟩

theorem own_below {w w' : World} {base : Nat} {v : Value} {n : Nat} {xs : List Value} (h : w.ownsRow base 3 1 v n xs) (hb : Below w.heap.size w w') : w'.ownsRow base 3 1 v n xs :=
  own_blk h (fun g hg => hb.block g (h.lt g hg).2)

set_option maxHeartbeats 8000000 in
theorem SlideHome_any (W H n : Nat) (w : World) (hu : 2 ≤ W ∧ W ≤ 5) (hv : 2 ≤ H ∧ H ≤ 5) (hN : W * H = n) :
    Calls Tryd.prog 22 #[.int .i64 W, .int .i64 H] w fun e w' => ∃ a c, e = .returned (.agg (gdA W H a n c)) ∧ Rd w' a n c (homeL n) ∧ Below w.heap.size w w' := by
  have hb := len_bd hu hv hN
  have hWH : (W : Int) * (H : Int) = (n : Int) := by rw [← hN]; simp
  go_enter Tryd.func22, Tryd.ntmps22
  go_upto_region 2 with fail
  obtain ⟨w1, hw1⟩ : ∃ w1, (w.alloc (.cells (gdA 0 0 none 0 0) 24)).alloc (.cells (gdA W H none 0 0) 24) = w1 := ⟨_, rfl⟩
  rw [hw1]
  have B1 : Below w.heap.size w w1 := by rw [← hw1]; exact ((Below.refl _ _).alloc (Nat.le_refl _) _).alloc (by simp) _
  have K1 : Gd w1 w.heap.size 0 0 none 0 0 := by rw [← hw1]; exact (Gd.new _ _ _ _ _ _).old _
  have K2 : Gd w1 (w.heap.size + 1) W H none 0 0 := by
    rw [← hw1]
    have := Gd.new (w.alloc (.cells (gdA 0 0 none 0 0) 24)) W H none 0 0
    rw [World.size_alloc] at this
    exact this
  have hs1 : w.heap.size + 1 < w1.heap.size := by rw [← hw1]; simp
  have HB1 := hide B1
  have HZ := hide K1
  have HG := hide K2
  have HLN := hide (homeL_length n)
  have HLA : Hid (∀ i, i < n → (homeL n).getD i 0 = (((i + 1) % n : Nat) : Int)) := hide (homeL_at n)
  clear B1 K1 K2
  clear hw1
  go_wp2_with fail
  go_loopw [6] (fun v wr => ∃ (j cp : Nat) (ad : Option Addr), v = .int .i64 ((j + 1 : Nat) : Int) ∧ j ≤ n ∧ Hid (Gd wr (w.heap.size + 1) W H ad j cp) ∧ Hid (wr.ownsRow w1.heap.size 3 1 (.slice ad j cp) j (((homeL n).take j).map (Value.int .i64))) ∧ Hid (Keeps (fun k => k = w.heap.size + 1 ∨ w1.heap.size ≤ k) w1 wr)) (fun v _ => n + 1 - (intOf v).toNat)
  case atStart => exact ⟨0, 0, none, rfl, by omega, HG, hide (World.ownsRow_nil _ _ _ _), hide (Keeps.refl _ _)⟩
  case round =>
    obtain ⟨j, cp, ad, rfl, hj, hO, hL, hK⟩ := hrel
    by_cases hjn : j < n
    · have hlt' : ((j + 1 : Nat) : Int) ≤ (n : Int) := by omega
      obtain ⟨Rm, hRm⟩ : ∃ Rm, (j + 1) % n = Rm := ⟨_, rfl⟩
      have hRb : Rm < n := by rw [← hRm]; exact Nat.mod_lt _ (by omega)
      have HTS : Hid ((homeL n).take (j + 1) = (homeL n).take j ++ [(Rm : Int)]) := hide (by rw [take_snoc _ _ (by rw [HLN.out]; exact hjn), HLA.out j hjn, hRm])
      have hmt : (((j + 1 : Nat) : Int)).tmod (n : Int) = (Rm : Int) := by
        rw [Int.tmod_eq_emod_of_nonneg (by omega), ← hRm]; simp
      obtain ⟨k, hk⟩ : ∃ k : Nat, j + 1 = k := ⟨_, rfl⟩
      have HK := hide hk
      rw [hk] at hlt' hmt ⊢
      have hn0 : ¬ n = 0 := by omega
      have hkb : k ≤ 26 := by omega
      clear hk hRm
      go_upto_region 5 with fail
      have KD : Keeps (fun k => k = w.heap.size + 1 ∨ w1.heap.size ≤ k) w1 wr.drew := hK.out.drew
      have SF : Hid (∀ W4, Keeps (fun k => k = w.heap.size + 1 ∨ w1.heap.size ≤ k) w1 W4 → Keeps (fun k => k = w.heap.size + 1 ∨ w1.heap.size ≤ k) w1 W4) := hide (fun _ h => h)
      refine wp_region_held (S := fun W4 => Keeps (fun k => k = w.heap.size + 1 ∨ w1.heap.size ≤ k) w1 W4) (by kernel_rfl) ?_
      change wpAnyH _ _ _ _ _ _ _ _ (World.drew _)
      have SW := KD
      refine wpAnyH_take (i := 0) (v := .pointer (some ⟨w.heap.size + 1, 2, none⟩)) rfl (by kernel_rfl) (by kernel_rfl) (by kernel_rfl) (fun _ _ _ h => h) (Or.inl ⟨by rfl, ?_⟩) SW ?_
      · intro W4 hW4
        go_simp <;> first | done | rfl | (rw [IntKind.wrap_i64]; omega) | omega
      go_simp
      refine wpAnyH_take (i := 2) (v := .int .i64 k) rfl (by kernel_rfl) (by kernel_rfl) (by kernel_rfl) (fun _ _ _ h => h) (Or.inl ⟨by rfl, ?_⟩) SW ?_
      · intro W4 hW4
        go_simp <;> first | done | rfl | (rw [IntKind.wrap_i64]; omega) | omega
      go_simp
      refine wpAnyH_take (i := 3) (v := .int .i64 W) rfl (by kernel_rfl) (by kernel_rfl) (by kernel_rfl) (fun _ _ _ h => h) (Or.inl ⟨by rfl, ?_⟩) SW ?_
      · intro W4 hW4
        go_simp <;> first | done | rfl | (rw [IntKind.wrap_i64]; omega) | omega
      go_simp
      refine wpAnyH_take (i := 4) (v := .int .i64 H) rfl (by kernel_rfl) (by kernel_rfl) (by kernel_rfl) (fun _ _ _ h => h) (Or.inl ⟨by rfl, ?_⟩) SW ?_
      · intro W4 hW4
        go_simp <;> first | done | rfl | (rw [IntKind.wrap_i64]; omega) | omega
      go_simp
      refine wpAnyH_take (i := 5) (v := .int .i64 n) rfl (by kernel_rfl) (by kernel_rfl) (by kernel_rfl) (fun _ _ _ h => h) (Or.inl ⟨by rfl, ?_⟩) SW ?_
      · intro W4 hW4
        go_simp <;> first | done | rfl | (rw [IntKind.wrap_i64]; omega) | omega
      go_simp
      refine wpAnyH_take (i := 6) (v := .int .i64 Rm) rfl (by kernel_rfl) (by kernel_rfl) (by kernel_rfl) (fun _ _ _ h => h) (Or.inl ⟨by rfl, ?_⟩) SW ?_
      · intro W4 hW4
        go_simp <;> first | done | rfl | (rw [IntKind.wrap_i64]; omega) | omega
      go_simp
      refine wpAnyH_ready (rs := [1, 7]) (by kernel_rfl) (by simp) ?_
      refine AllReadyH.cons rfl (fun K1 hK1 => ?_) (AllReadyH.cons rfl (fun K1 hK1 => ?_) AllReadyH.nil)
      · obtain ⟨-, -, o2⟩ := ((hO.out.below (Below.refl _ wr).drew hO.out.lt)).cells
        go_simp
        refine hK1.out _ _ SW (fun SW => ?_)
        clear hK1 K1 o2
        go_simp
        refine wpAnyH_ready (rs := [7]) (by kernel_rfl) (by simp) ?_
        refine AllReadyH.cons rfl (fun K1 hK1 => ?_) AllReadyH.nil
        go_simp
        refine hK1.out _ _ (SF.out _ (KD.alloc _)) (fun SW => ?_)
        clear hK1 K1
        go_simp
        have hR1 : Rd (World.alloc wr.drew (.cells #[.int .i64 (Rm : Int)] 3)) (some ⟨wr.heap.size, 0, none⟩) 1 1 [(Rm : Int)] := Rd.of_blk (Blk.new wr.drew 3 [(Rm : Int)] _ rfl) rfl (by decide)
        have hOa := (own_below hL.out (Below.refl _ wr).drew).alloc (.cells #[.int .i64 (Rm : Int)] 3)
        have hsz : w1.heap.size ≤ (World.alloc wr.drew (.cells #[.int .i64 (Rm : Int)] 3)).heap.size := by have := hK.out.size; rw [World.size_alloc]; exact Nat.le_succ_of_le this
        refine wpAnyH_ready (rs := [8]) (by kernel_rfl) (by simp) ?_
        refine AllReadyH.cons rfl (fun K1 hK1 => ?_) AllReadyH.nil
        rw [if_pos (by rfl)]
        refine wp_append_rd _ _ _ rfl w1.heap.size _ j ((homeL n).take j) rfl hOa (some ⟨wr.heap.size, 0, none⟩) 1 1 [(Rm : Int)] rfl hR1 (by omega) hsz ?_
        intro v' w6 hO6 hg6
        obtain ⟨ad6, cp6, rfl⟩ := slice_form hO6
        have K6 : Keeps (fun k => k = w.heap.size + 1 ∨ w1.heap.size ≤ k) w1 w6 := (KD.alloc _).trans ⟨hg6.os, hg6.tape, hg6.output, hg6.size, fun i hi hx => hg6.block i hi (fun e => hx (Or.inr (by first | exact (hL.out.lt _ e).1 | exact (hL.out.lt _ e.symm).1)))⟩
        have HO6 := hide hO6
        have O6g : Gd w6 (w.heap.size + 1) W H ad j cp := (hg6.block _ (by have := hO.out.lt; simp; omega) (fun e => by have h6 : w1.heap.size ≤ w.heap.size + 1 := (by first | exact (hL.out.lt _ e).1 | exact (hL.out.lt _ e.symm).1); omega)).trans ((hO.out.below (Below.refl _ wr).drew hO.out.lt).old _)
        refine hK1.out _ _ (SF.out _ K6) (fun SW => ?_)
        clear hK1 K1 hO6 hg6 hR1 hOa
        go_simp
        refine wpAnyH_take (i := 9) (v := .pointer (some ⟨w.heap.size + 1, 2, none⟩)) rfl (by kernel_rfl) (by kernel_rfl) (by kernel_rfl) (fun _ _ _ h => h) (Or.inl ⟨by rfl, ?_⟩) SW ?_
        · intro W4 hW4
          go_simp <;> first | done | rfl | (rw [IntKind.wrap_i64]; omega) | omega
        go_simp
        refine wpAnyH_ready (rs := [10]) (by kernel_rfl) (by simp) ?_
        refine AllReadyH.cons rfl (fun K1 hK1 => ?_) AllReadyH.nil
        go_simp
        obtain ⟨-, -, o2⟩ := O6g.cells
        have o3 := O6g.frozen 2
        go_simp
        have K7 := K6.setCell (p := ⟨w.heap.size + 1, 2, none⟩) (Or.inl rfl) (.slice ad6 (j + 1) cp6)
        refine hK1.out _ _ (SF.out _ K7) (fun SW => ?_)
        clear hK1 K1
        go_simp
        refine wpAnyH_done (by kernel_rfl) ?_ _
        have HG7 := hide (O6g.setP ad6 (j + 1) cp6)
        have HL7 : Hid ((w6.setCell ⟨w.heap.size + 1, 2, none⟩ (.slice ad6 (j + 1) cp6)).ownsRow w1.heap.size 3 1 (.slice ad6 (j + 1) cp6) (j + 1) (((homeL n).take (j + 1)).map (Value.int .i64))) := hide (by rw [HTS.out]; exact own_keeps HO6.out (Keeps.set1 w6 (w.heap.size + 1) 2 _) (by omega))
        have HK7 := hide K7
        clear K7 K6 O6g SW o2 o3
        go_wp2_with fail
        exact ⟨⟨j + 1, cp6, ad6, by have := HK.out; go_num, by omega, HG7, HL7, HK7⟩, by have := HK.out; simp [intOf]; omega⟩
      · go_simp
        refine hK1.out _ _ (SF.out _ (KD.alloc _)) (fun SW => ?_)
        clear hK1 K1
        go_simp
        refine wpAnyH_ready (rs := [1]) (by kernel_rfl) (by simp) ?_
        refine AllReadyH.cons rfl (fun K1 hK1 => ?_) AllReadyH.nil
        obtain ⟨-, -, o2⟩ := (((hO.out.old (.cells #[.int .i64 (Rm : Int)] 3)).below (Below.refl _ _).drew (hO.out.old (.cells #[.int .i64 (Rm : Int)] 3)).lt)).cells
        go_simp
        refine hK1.out _ _ SW (fun SW => ?_)
        clear hK1 K1 o2
        go_simp
        have hR1 : Rd (World.alloc wr.drew (.cells #[.int .i64 (Rm : Int)] 3)) (some ⟨wr.heap.size, 0, none⟩) 1 1 [(Rm : Int)] := Rd.of_blk (Blk.new wr.drew 3 [(Rm : Int)] _ rfl) rfl (by decide)
        have hOa := (own_below hL.out (Below.refl _ wr).drew).alloc (.cells #[.int .i64 (Rm : Int)] 3)
        have hsz : w1.heap.size ≤ (World.alloc wr.drew (.cells #[.int .i64 (Rm : Int)] 3)).heap.size := by have := hK.out.size; rw [World.size_alloc]; exact Nat.le_succ_of_le this
        refine wpAnyH_ready (rs := [8]) (by kernel_rfl) (by simp) ?_
        refine AllReadyH.cons rfl (fun K1 hK1 => ?_) AllReadyH.nil
        rw [if_pos (by rfl)]
        refine wp_append_rd _ _ _ rfl w1.heap.size _ j ((homeL n).take j) rfl hOa (some ⟨wr.heap.size, 0, none⟩) 1 1 [(Rm : Int)] rfl hR1 (by omega) hsz ?_
        intro v' w6 hO6 hg6
        obtain ⟨ad6, cp6, rfl⟩ := slice_form hO6
        have K6 : Keeps (fun k => k = w.heap.size + 1 ∨ w1.heap.size ≤ k) w1 w6 := (KD.alloc _).trans ⟨hg6.os, hg6.tape, hg6.output, hg6.size, fun i hi hx => hg6.block i hi (fun e => hx (Or.inr (by first | exact (hL.out.lt _ e).1 | exact (hL.out.lt _ e.symm).1)))⟩
        have HO6 := hide hO6
        have O6g : Gd w6 (w.heap.size + 1) W H ad j cp := (hg6.block _ (by have := hO.out.lt; simp; omega) (fun e => by have h6 : w1.heap.size ≤ w.heap.size + 1 := (by first | exact (hL.out.lt _ e).1 | exact (hL.out.lt _ e.symm).1); omega)).trans ((hO.out.below (Below.refl _ wr).drew hO.out.lt).old _)
        refine hK1.out _ _ (SF.out _ K6) (fun SW => ?_)
        clear hK1 K1 hO6 hg6 hR1 hOa
        go_simp
        refine wpAnyH_take (i := 9) (v := .pointer (some ⟨w.heap.size + 1, 2, none⟩)) rfl (by kernel_rfl) (by kernel_rfl) (by kernel_rfl) (fun _ _ _ h => h) (Or.inl ⟨by rfl, ?_⟩) SW ?_
        · intro W4 hW4
          go_simp <;> first | done | rfl | (rw [IntKind.wrap_i64]; omega) | omega
        go_simp
        refine wpAnyH_ready (rs := [10]) (by kernel_rfl) (by simp) ?_
        refine AllReadyH.cons rfl (fun K1 hK1 => ?_) AllReadyH.nil
        go_simp
        obtain ⟨-, -, o2⟩ := O6g.cells
        have o3 := O6g.frozen 2
        go_simp
        have K7 := K6.setCell (p := ⟨w.heap.size + 1, 2, none⟩) (Or.inl rfl) (.slice ad6 (j + 1) cp6)
        refine hK1.out _ _ (SF.out _ K7) (fun SW => ?_)
        clear hK1 K1
        go_simp
        refine wpAnyH_done (by kernel_rfl) ?_ _
        have HG7 := hide (O6g.setP ad6 (j + 1) cp6)
        have HL7 : Hid ((w6.setCell ⟨w.heap.size + 1, 2, none⟩ (.slice ad6 (j + 1) cp6)).ownsRow w1.heap.size 3 1 (.slice ad6 (j + 1) cp6) (j + 1) (((homeL n).take (j + 1)).map (Value.int .i64))) := hide (by rw [HTS.out]; exact own_keeps HO6.out (Keeps.set1 w6 (w.heap.size + 1) 2 _) (by omega))
        have HK7 := hide K7
        clear K7 K6 O6g SW o2 o3
        go_wp2_with fail
        exact ⟨⟨j + 1, cp6, ad6, by have := HK.out; go_num, by omega, HG7, HL7, HK7⟩, by have := HK.out; simp [intOf]; omega⟩
    · obtain rfl : j = n := by omega
      have hlt' : ¬ ((j + 1 : Nat) : Int) ≤ (j : Int) := by omega
      have O' := hO.out
      have Z' := HZ.out.keeps hK.out (by omega)
      have HLt : Hid (wr.ownsRow w1.heap.size 3 1 (.slice ad j cp) j ((homeL j).map (Value.int .i64))) := hide (by have := hL.out; rwa [List.take_of_length_le (by rw [HLN.out]; exact Nat.le_refl _)] at this)
      have HBr : Hid (Below w.heap.size w wr) := hide (HB1.out.trans ((hK.out.mono (Y := fun q => w.heap.size ≤ q) (fun q _ e => by omega)).below (B := w.heap.size) HB1.out.size (fun q hq e => by omega)))
      go_wp2_with (first
        | refine wpList_load_gd rfl (.tmp 5) rfl (w.heap.size + 1) rfl O' ?_
        | (refine wpList_store_gd rfl (.tmp 4) (.tmp 27) rfl w.heap.size rfl rfl Z' ?_; intro w6 k6 kk6))
      refine bodyPost_ret (results_gd rfl _ _ w.heap.size rfl k6) rfl ⟨ad, cp, rfl, ?_, ?_⟩
      · exact Rd.of_own (own_keeps HLt.out kk6 (by omega))
      · exact HBr.out.trans ((kk6.mono (Y := fun q => w.heap.size ≤ q) (fun q _ e => by omega)).below (B := w.heap.size) HBr.out.size (fun q hq e => by omega))


end Go.Proofs.YticalbpohhpjaaaDoor
