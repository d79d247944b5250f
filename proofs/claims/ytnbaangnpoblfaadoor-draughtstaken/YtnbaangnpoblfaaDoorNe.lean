/-
  The start of the game, as the program lays it. No conditions beyond those that each theorem bears.
-/
import Derived.Test.YtnbaangnpoblfaaDoorNu
namespace Go.Proofs.YtnbaangnpoblfaaDoor
open Go.RowKit Go.Shelf

/-- The board while it is laid. -/
def nwL (k : Nat) : List Int := (List.range 33).map fun p => if 1 ≤ p ∧ p ≤ k then -1 else if 32 < p + k then 1 else 0
theorem nwL_zero : nwL 0 = zer 33 := by decide
theorem nw_a : ∀ k, k < 12 → ((nwL k).set (k + 1) (-1)).set (32 - k) 1 = nwL (k + 1) := by decide +kernel
/-- The start. -/
def st0 : List Int := nwL 12

theorem PW.drew {w3 : World} {B cb n cc : Nat} {wr : World} {Y : List Int} (h : PW w3 B cb n cc wr Y) : PW w3 B cb n cc wr.drew Y := ⟨h.k.drew, h.o⟩

theorem build24d (a : Option Addr) (n c : Nat) (t : Int) (w : World) : (Instr.build 24 #[(0, .slice a n c), (1, .int .i64 t)]).run Tryd.prog w = .ok (.agg (dgA a n c t)) w := by
  simp [Instr.build, go_sem, run_underlying Tryd.underlying24]

attribute [local go_sem] build24d
attribute [local irreducible] nwL

set_option maxRecDepth 100000 in
set_option maxHeartbeats 4000000 in
theorem New_any (w : World) : Calls Tryd.prog 12 #[] w fun e w' => ∃ a c, e = .returned (.agg (dgA a 33 c 1)) ∧ Rd w' a 33 c st0 ∧ Below w.heap.size w w' := by
  obtain ⟨w1, hw1⟩ : ∃ w1, w.alloc (.cells #[.slice none 0 0, .int .i64 0] 24) = w1 := ⟨_, rfl⟩
  have HB1 : Hid (Below w.heap.size w w1) := hide (by rw [← hw1]; exact (Below.refl _ _).alloc (Nat.le_refl _) _)
  have K1 : Dg w1 w.heap.size none 0 0 0 := by rw [← hw1]; exact Dg.new _ _ _ _ _
  obtain ⟨w2, hrun0, hO2, hg2⟩ := make_row 33 (by omega) w1
  have hrun : (Instr.makeSlice 22 (.int .i64 33) (.int .i64 33)).run Tryd.prog w1 = .ok (.slice (some ⟨w1.heap.size, 0, none⟩) 33 33) w2 := hrun0
  have B12 : Below w1.heap.size w1 w2 := (Below.refl _ w1).grown hg2 (Nat.le_refl _) (fun j hj => by cases hj)
  have hl2 : w1.heap.size < w2.heap.size := (hO2.lt _ rfl).2
  obtain ⟨w3, hw3⟩ : ∃ w3, w2.alloc (.cells #[.slice none 0 0, .int .i64 0] 24) = w3 := ⟨_, rfl⟩
  have B23 : Below w2.heap.size w2 w3 := by rw [← hw3]; exact (Below.refl _ _).alloc (Nat.le_refl _) _
  have K3 : Dg w3 w2.heap.size none 0 0 0 := by rw [← hw3]; exact Dg.new _ _ _ _ _
  have HK13 := hide ((K1.below B12 K1.lt).below B23 (by have := K1.lt; omega))
  have hl1 : w.heap.size < w1.heap.size := K1.lt
  have HB3 : Hid (Below w.heap.size w w3) := hide ((HB1.out.trans (B12.mono HB1.out.size)).trans (B23.mono (by omega)))
  have HO2 := hide hO2
  have HB23 := hide B23
  clear hrun0 hO2 hg2 B12 B23 K1
  go_enter Tryd.func12, Tryd.ntmps12
  go_upto_region 1 with fail
  clear hw1
  go_upto_region 2 with (refine wpList_store_dg rfl (.tmp 1) (.tmp 4) rfl w2.heap.size rfl rfl K3 ?_; intro w4 G4 kk4)
  clear hw3 hrun K3
  obtain ⟨gb, hgb⟩ : ∃ gb, w2.heap.size = gb := ⟨_, rfl⟩
  obtain ⟨cb, hcb⟩ : ∃ cb, w1.heap.size = cb := ⟨_, rfl⟩
  have HP4 : Hid (PW w4 cb cb 33 33 w4 (nwL 0)) := hide (by
    refine ⟨Keeps.refl _ _, ?_⟩
    rw [nwL_zero, ← hcb]
    have hbb : Below w2.heap.size w2 w4 := HB23.out.trans (kk4.below HB23.out.size (fun k hk e => by omega))
    exact HO2.out.kept (row := none) ⟨hbb.os, hbb.tape, hbb.output, hbb.size, fun i hi _ => hbb.block i hi⟩ (Or.inr (by simp [Value.ownBlock])))
  have HG4 := hide G4
  have HR4 := hide (HK13.out.keeps kk4 (by show ¬ w.heap.size = w2.heap.size; omega))
  have HB4 : Hid (Below w.heap.size w w4) := hide (HB3.out.trans (kk4.below HB3.out.size (fun k hk e => by omega)))
  rw [hgb] at HG4 hl2 ⊢
  rw [hcb] at hl1 hl2 HG4 ⊢
  clear hgb hcb G4 kk4 HO2 HB23 HK13 HB3
  go_wp2_with fail
  go_loopw [5] (fun v wr => ∃ k : Nat, v = .int .i64 k ∧ k ≤ 12 ∧ Hid (PW w4 cb cb 33 33 wr (nwL k))) (fun v _ => 12 - (intOf v).toNat)
  case atStart => exact ⟨0, rfl, by omega, HP4⟩
  case round =>
    obtain ⟨k, rfl, hk, hP⟩ := hrel
    by_cases hk2 : k < 12
    · have hk' : (k : Int) < 12 := by omega
      have HXA : Hid (((nwL k).set (k + 1) (-1)).set (32 - k) 1 = nwL (k + 1)) := hide (nw_a k hk2)
      obtain ⟨p, hp⟩ : ∃ p, k + 1 = p := ⟨_, rfl⟩
      obtain ⟨r, hr⟩ : ∃ r, 32 - k = r := ⟨_, rfl⟩
      have e1 : 1 + (k : Int) = (p : Int) := by omega
      have e2 : 32 - (k : Int) = (r : Int) := by omega
      have p33 : (p : Int) < 33 := by omega
      have r33 : (r : Int) < 33 := by omega
      have hpn : p < 33 := by omega
      have hrn : r < 33 := by omega
      rw [hp, hr] at HXA
      have HPP := hide hp
      have HPD := hide hP.out.drew
      clear hp hr
      go_upto_region 5 with fail
      refine wp_region_held (S := fun W4 => Keeps (fun q => q = cb) w4 W4) (by kernel_rfl) ?_
      change wpAnyH _ _ _ _ _ _ _ _ (World.drew _)
      have SW : Keeps (fun q => q = cb) w4 wr.drew := HPD.out.k
      generalize wr.drew = wd at *
      have HGK : Hid (∀ W4, Keeps (fun q => q = cb) w4 W4 → W4.cell? ⟨gb, 0, none⟩ = some (.slice (some ⟨cb, 0, none⟩) 33 33)) := hide (fun W4 h4 => (HG4.out.keeps h4 (by show ¬ gb = cb; omega)).cells.1)
      refine wpAnyH_take (i := 0) (v := .pointer (some ⟨gb, 0, none⟩)) rfl (by kernel_rfl) (by kernel_rfl) (by kernel_rfl) (fun _ _ _ h => h) (Or.inl ⟨by rfl, ?_⟩) SW ?_
      · intro W4 hW4
        go_simp <;> first | done | rfl | (rw [IntKind.wrap_i64]; omega) | omega
      go_simp
      refine wpAnyH_take (i := 1) (v := .slice (some ⟨cb, 0, none⟩) 33 33) rfl (by kernel_rfl) (by kernel_rfl) (by kernel_rfl) (fun _ _ _ h => h) (Or.inl ⟨by rfl, ?_⟩) SW ?_
      · intro W4 hW4
        have x0 := HGK.out W4 hW4
        go_simp <;> first | done | rfl | (rw [IntKind.wrap_i64]; omega) | omega
      go_simp
      refine wpAnyH_take (i := 2) (v := .int .i64 (k : Nat)) rfl (by kernel_rfl) (by kernel_rfl) (by kernel_rfl) (fun _ _ _ h => h) (Or.inl ⟨by rfl, ?_⟩) SW ?_
      · intro W4 hW4
        go_simp <;> first | done | rfl | (rw [IntKind.wrap_i64]; omega) | omega
      go_simp
      refine wpAnyH_take (i := 3) (v := .int .i64 (p : Nat)) rfl (by kernel_rfl) (by kernel_rfl) (by kernel_rfl) (fun _ _ _ h => h) (Or.inl ⟨by rfl, ?_⟩) SW ?_
      · intro W4 hW4
        go_simp <;> first | done | rfl | (rw [IntKind.wrap_i64]; omega) | omega
      go_simp
      refine wpAnyH_take (i := 4) (v := .pointer (some ⟨gb, 0, none⟩)) rfl (by kernel_rfl) (by kernel_rfl) (by kernel_rfl) (fun _ _ _ h => h) (Or.inl ⟨by rfl, ?_⟩) SW ?_
      · intro W4 hW4
        go_simp <;> first | done | rfl | (rw [IntKind.wrap_i64]; omega) | omega
      go_simp
      refine wpAnyH_take (i := 5) (v := .slice (some ⟨cb, 0, none⟩) 33 33) rfl (by kernel_rfl) (by kernel_rfl) (by kernel_rfl) (fun _ _ _ h => h) (Or.inl ⟨by rfl, ?_⟩) SW ?_
      · intro W4 hW4
        have x0 := HGK.out W4 hW4
        go_simp <;> first | done | rfl | (rw [IntKind.wrap_i64]; omega) | omega
      go_simp
      refine wpAnyH_take (i := 6) (v := .int .i64 (k : Nat)) rfl (by kernel_rfl) (by kernel_rfl) (by kernel_rfl) (fun _ _ _ h => h) (Or.inl ⟨by rfl, ?_⟩) SW ?_
      · intro W4 hW4
        go_simp <;> first | done | rfl | (rw [IntKind.wrap_i64]; omega) | omega
      go_simp
      refine wpAnyH_take (i := 7) (v := .int .i64 (r : Nat)) rfl (by kernel_rfl) (by kernel_rfl) (by kernel_rfl) (fun _ _ _ h => h) (Or.inl ⟨by rfl, ?_⟩) SW ?_
      · intro W4 hW4
        go_simp <;> first | done | rfl | (rw [IntKind.wrap_i64]; omega) | omega
      go_simp
      refine wpAnyH_take (i := 8) (v := .pointer (some ⟨cb, p, none⟩)) rfl (by kernel_rfl) (by kernel_rfl) (by kernel_rfl) (fun _ _ _ h => h) (Or.inl ⟨by rfl, ?_⟩) SW ?_
      · intro W4 hW4
        go_simp <;> first | done | rfl | (rw [IntKind.wrap_i64]; omega) | omega
      go_simp
      refine wpAnyH_ready (rs := [9]) (by kernel_rfl) (by simp) ?_
      refine AllReadyH.cons rfl (fun K1 hK1 => ?_) AllReadyH.nil
      go_simp
      obtain ⟨⟨v1, c1⟩, f1⟩ := HPD.out.cell (show p < 33 by omega)
      have HS1 := hide (HPD.out.set p (-1))
      go_simp
      refine hK1.out _ _ HS1.out.k (fun SW => ?_)
      clear hK1 K1 c1 f1
      go_simp
      generalize wd.setCell ⟨cb, p, none⟩ (.int .i64 (-1)) = wd2 at *
      refine wpAnyH_take (i := 10) (v := .pointer (some ⟨cb, r, none⟩)) rfl (by kernel_rfl) (by kernel_rfl) (by kernel_rfl) (fun _ _ _ h => h) (Or.inl ⟨by rfl, ?_⟩) SW ?_
      · intro W4 hW4
        go_simp <;> first | done | rfl | (rw [IntKind.wrap_i64]; omega) | omega
      go_simp
      refine wpAnyH_ready (rs := [11]) (by kernel_rfl) (by simp) ?_
      refine AllReadyH.cons rfl (fun K1 hK1 => ?_) AllReadyH.nil
      go_simp
      obtain ⟨⟨v1, c1⟩, f1⟩ := HS1.out.cell (show r < 33 by omega)
      have HS2 := hide (HS1.out.set r (1))
      go_simp
      refine hK1.out _ _ HS2.out.k (fun SW => ?_)
      clear hK1 K1 c1 f1
      go_simp
      refine wpAnyH_done (by kernel_rfl) ?_ _
      have HN := HS2
      rw [HXA.out] at HN
      clear SW
      go_wp2_with fail
      refine ⟨⟨k + 1, by go_num, by omega, ?_⟩, by simp [intOf]; omega⟩
      first | exact HN | (rw [HPP.out]; exact HN)
    · obtain rfl : k = 12 := by omega
      have G5 := HG4.out.keeps hP.out.k (show ¬ gb = cb by omega)
      have Z5 := HR4.out.keeps hP.out.k (show ¬ w.heap.size = cb by omega)
      have hs5 := hP.out.k.size
      go_wp2_with (first
        | refine wpList_load_dg rfl (.tmp 1) rfl gb rfl G5 ?_
        | (refine wpList_store_dg rfl (.tmp 0) (.tmp 19) rfl w.heap.size rfl rfl Z5 ?_; intro w7 k7 kk7))
      refine bodyPost_ret (results_dg rfl _ _ w.heap.size rfl k7) rfl ⟨_, _, rfl, ?_, ?_⟩
      · exact Rd.of_own (own_keeps hP.out.o kk7 (by omega))
      · exact HB4.out.trans (((hP.out.k.mono (Y := fun q => w.heap.size ≤ q) (fun q _ e => by omega)).trans (kk7.mono (fun q _ e => by omega))).below (B := w.heap.size) HB4.out.size (fun q hq e => by omega))

end Go.Proofs.YtnbaangnpoblfaaDoor
