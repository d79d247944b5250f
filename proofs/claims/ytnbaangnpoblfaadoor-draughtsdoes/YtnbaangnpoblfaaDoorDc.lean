/-
  DraughtsCount, walked: how many games of so many moves there are, as the document counts them. No conditions beyond those that each theorem bears.
-/
import Derived.Test.YtnbaangnpoblfaaDoorMg
import Derived.Test.YtnbaangnpoblfaaDoorRm
import Derived.Test.YtnbaangnpoblfaaDoorRj
namespace Go.Proofs.YtnbaangnpoblfaaDoor
open Go.RowKit Go.Shelf

/-- The count; sums wrap around. -/
def cntR : Nat → List Int → Nat → Int
  | 0, _, _ => 1
  | f + 1, Z, t => (wyN Z t).foldl (fun s y => IntKind.i64.wrap (s + cntR f (doR Z y.1) (3 - t))) 0
def cntK (f : Nat) (Z : List Int) (t k : Nat) : Int := ((wyN Z t).take k).foldl (fun s y => IntKind.i64.wrap (s + cntR f (doR Z y.1) (3 - t))) 0
theorem cntK_succ (f : Nat) (Z : List Int) (t k : Nat) {y : List Nat × List Nat} (hk : (wyN Z t)[k]? = some y) : cntK f Z t (k + 1) = IntKind.i64.wrap (cntK f Z t k + cntR f (doR Z y.1) (3 - t)) := by
  obtain ⟨hl, he⟩ := List.getElem?_eq_some_iff.1 hk
  unfold cntK
  rw [List.take_succ_eq_append_getElem hl, List.foldl_append, he]
  rfl

attribute [local irreducible] wyN rMv mvN toI doR cntR cntK

set_option maxRecDepth 100000 in
set_option maxHeartbeats 8000000 in
theorem DraughtsCount_succ (f : Nat) (hf6 : f ≤ 5) (ih : ∀ Z t, Mb Z (t : Nat) → ∀ a c w, Rd w a 33 c Z → Calls Tryd.prog 20 #[.agg (dgA a 33 c (t : Nat)), .int .i64 (f : Nat)] w fun e w' => e = .returned (.int .i64 (cntR f Z t)) ∧ Below w.heap.size w w')
    (Z : List Int) (t : Nat) (hM : Mb Z (t : Nat)) (a : Option Addr) (c : Nat) (w : World) (h : Rd w a 33 c Z) :
    Calls Tryd.prog 20 #[.agg (dgA a 33 c (t : Nat)), .int .i64 ((f + 1 : Nat))] w fun e w' => e = .returned (.int .i64 (cntR (f + 1) Z t)) ∧ Below w.heap.size w w' := by
  have ht : t = 1 ∨ t = 2 := by have := hM.tt; omega
  obtain ⟨w1, hw1⟩ : ∃ w1, w.alloc (.cells (dgA a 33 c (t : Nat)) 24) = w1 := ⟨_, rfl⟩
  have HB1 : Hid (Below w.heap.size w w1) := hide (by rw [← hw1]; exact (Below.refl _ _).alloc (Nat.le_refl _) _)
  have G1 : Dg w1 w.heap.size a 33 c (t : Nat) := by rw [← hw1]; exact Dg.new _ _ _ _ _
  have HR1 := hide (h.mono HB1.out)
  have HDM := hide (DraughtsMoves_any t a c Z w1 HR1.out hM (fun p hp => jumpsOn_all Z t p hM hp 13 (Nat.le_refl _)))
  have HIH := hide (fun y (hy : y ∈ wyN Z t) => ih (doR Z y.1) (3 - t) (Mb_doR hM hy))
  have HDO := hide (fun y (hy : y ∈ wyN Z t) xa xc W (hR : Rd W a 33 c Z) (hX : Rd W xa y.1.length xc (toI y.1)) => DraughtsDo_any t a c Z xa xc y.1 W hR hX (wyN_ok hM hy).two (wyN_ok hM hy).le (wyN_ok hM hy).rng ht)
  have HMV : Hid ((rMv Z t).map toI = (wyN Z t).map fun y => toI y.1) := hide (by rw [rMv_eq hM]; unfold mvN; rw [List.map_map]; rfl)
  have HZ : Hid (cntK f Z t 0 = 0) := hide (by unfold cntK; rfl)
  have HE : Hid (cntK f Z t (wyN Z t).length = cntR (f + 1) Z t) := hide (by unfold cntK; rw [List.take_length]; rw [cntR])
  have HS := hide (fun k y hk => cntK_succ f Z t k (y := y) hk)
  have HG1 := hide G1
  clear ih h hM ht
  have e0 : (((f + 1 : Nat) : Int) == 0) = false := by rw [beq_eq_false_iff_ne]; omega
  have e1 : ((f + 1 : Nat) : Int) - 1 = ((f : Nat) : Int) := by omega
  have hF6 : f + 1 ≤ 6 := by omega
  generalize f + 1 = F at *
  go_enter Tryd.func20, Tryd.ntmps20
  go_upto_region 1 with fail
  clear hw1
  go_wp2_with (refine wpList_load_dg rfl (.tmp 2) rfl w.heap.size rfl G1 ?_)
  refine HDM.out.mono ?_
  rintro e w2 ⟨v2, rfl, hF2, hb2⟩
  rw [HMV.out] at hF2
  obtain ⟨a2, c2, rfl⟩ := hF2.form
  rw [show ((wyN Z t).map fun y => toI y.1).length = (wyN Z t).length by simp] at hF2 ⊢
  have HB2 := hide (HB1.out.trans (hb2.mono HB1.out.size))
  have HG2 := hide (HG1.out.below hb2 HG1.out.lt)
  have HR2 := hide (HR1.out.mono hb2)
  have HF2 := hide hF2.fr
  have hn1 := hF2.fr.cap
  have hn2 := hF2.fr.max
  unfold maxLen at hn2
  clear hb2 hF2 G1 HG1 HB1 HR1 HDM HMV
  obtain ⟨n, hn⟩ : ∃ n, (wyN Z t).length = n := ⟨_, rfl⟩
  have HN := hide hn
  rw [hn] at HF2 HE hn1 ⊢
  clear hn
  go_wp2_with fail
  go_loopw [6, 7] (fun v6 v wr => ∃ k : Nat, v = .int .i64 (k : Nat) ∧ v6 = .int .i64 (cntK f Z t k) ∧ k ≤ n ∧ Hid (Below w2.heap.size w2 wr)) (fun _ v _ => n - (intOf v).toNat)
  case atStart => exact ⟨0, rfl, by rw [HZ.out], by omega, hide (Below.refl _ _)⟩
  case round =>
    obtain ⟨k, rfl, rfl, hk, hB⟩ := hrel
    by_cases hkn : k < n
    · have hkn' : (k : Int) < (n : Int) := by omega
      obtain ⟨y, hy⟩ : ∃ y, (wyN Z t)[k]? = some y := ⟨(wyN Z t)[k]'(by rw [HN.out]; exact hkn), List.getElem?_eq_getElem _⟩
      have hym : y ∈ wyN Z t := List.mem_of_getElem? hy
      have hgd : ((wyN Z t).map fun y => toI y.1).getD k [] = toI y.1 := by simp [List.getD, hy]
      have HSK := hide (HS.out k y hy)
      obtain ⟨bl, ol, rfl, hcl⟩ := (HF2.out.mono hB.out).cells (by omega)
      obtain ⟨ax, cx, hcx, hIx⟩ := hcl k hkn
      rw [hgd, toI_len] at hcx hIx
      have HRX := hide hIx.rd
      have HFC : Hid (∀ W4, Below wr.heap.size wr W4 → W4.cell? ⟨bl, ol + k, none⟩ = some (.slice ax y.1.length cx)) := hide (fun W4 h4 => (h4.cell (World.block_lt_of_cell? wr _ hcx)).trans hcx)
      have HGw := hide (HG2.out.below hB.out HG2.out.lt)
      have HDY := hide (fun W (hW : Below wr.heap.size wr W) => HDO.out y hym ax cx W ((HR2.out.mono hB.out).mono hW) (HRX.out.mono hW))
      have HIY := hide (HIH.out y hym)
      generalize y.1.length = ym at *
      generalize doR Z y.1 = R at *
      generalize cntR f R (3 - t) = cr at *
      generalize cntK f Z t k = ck at *
      clear hy hym hgd hcl hcx hIx
      go_upto_region 8 with fail
      refine wp_region_held (S := fun W4 => Below wr.heap.size wr W4) (by kernel_rfl) ?_
      change wpAnyH _ _ _ _ _ _ _ _ (World.drew _)
      have SW : Below wr.heap.size wr wr.drew := (Below.refl _ wr).drew
      refine wpAnyH_take (i := 0) (v := .int .i64 ck) rfl (by kernel_rfl) (by kernel_rfl) (by kernel_rfl) (fun _ _ _ h => h) (Or.inl ⟨by rfl, ?_⟩) SW ?_
      · intro W4 hW4
        go_simp <;> first | done | rfl | (rw [IntKind.wrap_i64]; omega) | omega
      go_simp
      refine wpAnyH_take (i := 1) (v := .agg (dgA a 33 c (t : Nat))) rfl (by kernel_rfl) (by kernel_rfl) (by kernel_rfl) (fun _ _ _ h => h) (yieldsIf_load_mid (by rfl) 24 _ rfl w.heap.size 0 (by rfl) [.slice a 33 c, .int .i64 (t : Nat)] _ (fun W hW => (show Vb W w.heap.size 24 [.slice a 33 c, .int .i64 (t : Nat)] from HGw.out.below hW HGw.out.lt).range) Tryd.underlying24 rfl size24) SW ?_
      go_simp
      refine wpAnyH_take (i := 2) (v := .slice (some ⟨bl, ol, none⟩) n c2) rfl (by kernel_rfl) (by kernel_rfl) (by kernel_rfl) (fun _ _ _ h => h) (Or.inl ⟨by rfl, ?_⟩) SW ?_
      · intro W4 hW4
        go_simp <;> first | done | rfl | (rw [IntKind.wrap_i64]; omega) | omega
      go_simp
      refine wpAnyH_take (i := 3) (v := .int .i64 (k : Nat)) rfl (by kernel_rfl) (by kernel_rfl) (by kernel_rfl) (fun _ _ _ h => h) (Or.inl ⟨by rfl, ?_⟩) SW ?_
      · intro W4 hW4
        go_simp <;> first | done | rfl | (rw [IntKind.wrap_i64]; omega) | omega
      go_simp
      refine wpAnyH_take (i := 4) (v := .pointer (some ⟨bl, ol + k, none⟩)) rfl (by kernel_rfl) (by kernel_rfl) (by kernel_rfl) (fun _ _ _ h => h) (Or.inl ⟨by rfl, ?_⟩) SW ?_
      · intro W4 hW4
        go_simp <;> first | done | rfl | (rw [IntKind.wrap_i64]; omega) | omega
      go_simp
      refine wpAnyH_take (i := 5) (v := .slice ax ym cx) rfl (by kernel_rfl) (by kernel_rfl) (by kernel_rfl) (fun _ _ _ h => h) (Or.inl ⟨by rfl, ?_⟩) SW ?_
      · intro W4 hW4
        have x0 := HFC.out W4 hW4
        go_simp <;> first | done | rfl | (rw [IntKind.wrap_i64]; omega) | omega
      go_simp
      refine wpAnyH_take (i := 7) (v := .int .i64 (F : Nat)) rfl (by kernel_rfl) (by kernel_rfl) (by kernel_rfl) (fun _ _ _ h => h) (Or.inl ⟨by rfl, ?_⟩) SW ?_
      · intro W4 hW4
        go_simp <;> first | done | rfl | (rw [IntKind.wrap_i64]; omega) | omega
      go_simp
      refine wpAnyH_take (i := 8) (v := .int .i64 (f : Nat)) rfl (by kernel_rfl) (by kernel_rfl) (by kernel_rfl) (fun _ _ _ h => h) (Or.inl ⟨by rfl, ?_⟩) SW ?_
      · intro W4 hW4
        go_simp <;> first | done | rfl | (rw [IntKind.wrap_i64]; omega) | omega
      go_simp
      refine wpAnyH_ready (rs := [6]) (by kernel_rfl) (by simp) ?_
      refine AllReadyH.cons rfl (fun K1 hK1 => ?_) AllReadyH.nil
      go_simp
      refine (HDY.out _ SW).mono ?_
      rintro r w5 ⟨a5, c5, rfl, hR5, hb5⟩
      have B5 := SW.trans (hb5.mono SW.size)
      have HCC := hide (HIY.out a5 c5 w5 hR5)
      refine hK1.out _ _ B5 (fun SW => ?_)
      clear hK1 K1 hb5 hR5
      go_simp
      refine wpAnyH_ready (rs := [9]) (by kernel_rfl) (by simp) ?_
      refine AllReadyH.cons rfl (fun K1 hK1 => ?_) AllReadyH.nil
      go_simp
      refine HCC.out.mono ?_
      rintro r w6 ⟨rfl, hb6⟩
      have B6 := SW.trans (hb6.mono SW.size)
      refine hK1.out _ _ B6 (fun SW => ?_)
      clear hK1 K1 hb6 HCC B5
      go_simp
      refine wpAnyH_take (i := 10) (v := .int .i64 (IntKind.i64.wrap (ck + cr))) rfl (by kernel_rfl) (by kernel_rfl) (by kernel_rfl) (fun _ _ _ h => h) (Or.inl ⟨by rfl, ?_⟩) SW ?_
      · intro W4 hW4
        go_simp <;> first | done | rfl | (rw [IntKind.wrap_i64]; omega) | omega
      go_simp
      refine wpAnyH_ready (rs := [11]) (by kernel_rfl) (by simp) ?_
      refine AllReadyH.cons rfl (fun K1 hK1 => ?_) AllReadyH.nil
      go_simp
      refine hK1.out _ _ SW (fun SW => ?_)
      clear hK1 K1
      go_simp
      refine wpAnyH_done (by kernel_rfl) ?_ _
      have HB6 := hide (hB.out.trans (SW.mono hB.out.size))
      clear SW B6
      go_wp2_with fail
      refine ⟨⟨k + 1, by go_num, by rw [HSK.out], by omega, HB6⟩, by simp [intOf]; omega⟩
    · obtain rfl : k = n := by omega
      have hkn' : ¬ (k : Int) < (k : Int) := by omega
      have HBF := hide (HB2.out.trans (hB.out.mono HB2.out.size))
      rw [HE.out]
      go_wp2_with fail
      go_ret
      exact ⟨rfl, HBF.out⟩

end Go.Proofs.YtnbaangnpoblfaaDoor
