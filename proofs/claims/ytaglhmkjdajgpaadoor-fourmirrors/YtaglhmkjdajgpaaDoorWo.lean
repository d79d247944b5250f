/-
  The well that is made of a board; who has a row in it; the best drop. No conditions beyond those that each theorem bears.
-/
import Derived.Test.YtaglhmkjdajgpaaDoorHo
import Derived.Test.YtaglhmkjdajgpaaDoorBs
namespace Go.Proofs.YtaglhmkjdajgpaaDoor
open Go.RowKit

set_option maxRecDepth 100000 in
set_option maxHeartbeats 2000000 in
theorem wellOf_no (W H : Int) (a : Option Addr) (n c : Nat) (zs : List Int) (k : Int) (w : World) (h : Rd w a n c zs) (hno : wmG W H zs = false) :
    Calls Tryd.prog 25 #[.agg (gdA W H a n c), .int .i64 k] w fun e w' => e = .returned (.tuple #[.pointer none, .int .i64 12]) ∧ Below w.heap.size w w' := by
  have HM := hide (fun w1 (hb : Below w.heap.size w w1) => May_any W H a n c zs w1 (h.mono hb))
  have HB0 : Hid (Below w.heap.size w (w.alloc (.cells (gdA W H a n c) 24))) := hide ((Below.refl _ _).alloc (Nat.le_refl _) _)
  have G0 := Gd.new w W H a n c
  by_cases hmay : mayP W H zs
  · rw [mayG_yes hmay] at HM
    have hh : hng W.toNat zs = true := by
      unfold wmG at hno
      rw [mayG_yes hmay] at hno
      simpa using hno
    obtain ⟨gW, gH, rfl, rfl, hgW, hgH, hgm, hz⟩ := may_nat hmay
    rw [Int.toNat_natCast] at hh
    rw [h.len] at hgm
    have HH := hide (fun w1 (hb : Below w.heap.size w w1) => hangs_any gW gH a n c zs hgW hgH hgm w1 (h.mono hb))
    rw [hh] at HH
    have HG0 := hide G0
    have hs1 : w.heap.size < (w.alloc (.cells (gdA gW gH a n c) 24)).heap.size := by simp
    clear h hno hmay hh hgm hz
    go_enter Tryd.func25, Tryd.ntmps25
    go_wp2_with (refine wpList_load_gd rfl (.tmp 2) rfl w.heap.size rfl G0 ?_)
    clear G0
    refine (HM.out _ HB0.out).mono ?_
    rintro e w2 ⟨rfl, hb2⟩
    have HB2 := hide (HB0.out.trans (hb2.mono HB0.out.size))
    have G2 := HG0.out.below hb2 hs1
    clear hb2 HB0 HM HG0
    go_wp2_with (refine wpList_load_gd rfl (.tmp 2) rfl w.heap.size rfl G2 ?_)
    clear G2
    refine (HH.out _ HB2.out).mono ?_
    rintro e w3 ⟨rfl, hb3⟩
    have HB3 := hide (HB2.out.trans (hb3.mono HB2.out.size))
    clear hb3 HB2 HH
    go_wp2_with fail
    go_ret2
    exact ⟨rfl, HB3.out⟩
  · rw [mayG_no hmay] at HM
    clear h hno hmay
    go_enter Tryd.func25, Tryd.ntmps25
    go_wp2_with (refine wpList_load_gd rfl (.tmp 2) rfl w.heap.size rfl G0 ?_)
    clear G0
    refine (HM.out _ HB0.out).mono ?_
    rintro e w2 ⟨rfl, hb2⟩
    have HB2 := hide (HB0.out.trans (hb2.mono HB0.out.size))
    clear hb2 HB0 HM
    go_wp2_with fail
    go_ret2
    exact ⟨rfl, HB2.out⟩

/-- A well, in plain numbers. -/
theorem wm_nat {W H : Int} {zs : List Int} (h : wmG W H zs = true) : ∃ gW gH : Nat, W = gW ∧ H = gH ∧ (1 ≤ gW ∧ gW ≤ 10) ∧ (1 ≤ gH ∧ gH ≤ 10) ∧ gW * gH = zs.length ∧ (∀ i, i < zs.length → 0 ≤ zs.getD i 0 ∧ zs.getD i 0 ≤ 2) ∧ mayP W H zs ∧ hng gW zs = false := by
  unfold wmG at h
  rw [Bool.and_eq_true] at h
  have hm : mayP W H zs := of_decide_eq_true h.1
  obtain ⟨gW, gH, rfl, rfl, h1, h2, h3, h4⟩ := may_nat hm
  exact ⟨gW, gH, rfl, rfl, h1, h2, h3, h4, hm, by simpa using h.2⟩

set_option maxRecDepth 100000 in
set_option maxHeartbeats 2000000 in
theorem wellOf_k (gW gH : Nat) (a : Option Addr) (n c : Nat) (zs : List Int) (k : Int) (w : World) (h : Rd w a n c zs) (hgW : 1 ≤ gW ∧ gW ≤ 10) (hgH : 1 ≤ gH ∧ gH ≤ 10) (hgm : gW * gH = n) (hmay : mayP gW gH zs) (hh : hng gW zs = false) (hk : ¬ (1 ≤ k ∧ k ≤ 10)) :
    Calls Tryd.prog 25 #[.agg (gdA gW gH a n c), .int .i64 k] w fun e w' => e = .returned (.tuple #[.pointer none, .int .i64 3]) ∧ Below w.heap.size w w' := by
  have HM := hide (fun w1 (hb : Below w.heap.size w w1) => May_any gW gH a n c zs w1 (h.mono hb))
  have HB0 : Hid (Below w.heap.size w (w.alloc (.cells (gdA gW gH a n c) 24))) := hide ((Below.refl _ _).alloc (Nat.le_refl _) _)
  have G0 := Gd.new w gW gH a n c
  rw [mayG_yes hmay] at HM
  have HH := hide (fun w1 (hb : Below w.heap.size w w1) => hangs_any gW gH a n c zs hgW hgH hgm w1 (h.mono hb))
  rw [hh] at HH
  have HG0 := hide G0
  have hs1 : w.heap.size < (w.alloc (.cells (gdA gW gH a n c) 24)).heap.size := by simp
  have hd : decide (1 ≤ k ∧ k ≤ 10) = false := decide_eq_false hk
  clear h hmay hh hgm hk
  go_enter Tryd.func25, Tryd.ntmps25
  go_wp2_with (refine wpList_load_gd rfl (.tmp 2) rfl w.heap.size rfl G0 ?_)
  clear G0
  refine (HM.out _ HB0.out).mono ?_
  rintro e w2 ⟨rfl, hb2⟩
  have HB2 := hide (HB0.out.trans (hb2.mono HB0.out.size))
  have G2 := HG0.out.below hb2 hs1
  clear hb2 HB0 HM HG0
  go_wp2_with (refine wpList_load_gd rfl (.tmp 2) rfl w.heap.size rfl G2 ?_)
  clear G2
  refine (HH.out _ HB2.out).mono ?_
  rintro e w3 ⟨rfl, hb3⟩
  have HB3 := hide (HB2.out.trans (hb3.mono HB2.out.size))
  clear hb3 HB2 HH
  go_wp2_with fail
  refine (isSide_any k _).mono ?_
  rintro e wx ⟨rfl, hwx⟩
  subst wx
  rw [hd]
  go_wp2_with fail
  go_ret2
  exact ⟨rfl, HB3.out⟩

attribute [local go_sem] build54

set_option maxRecDepth 100000 in
set_option maxHeartbeats 4000000 in
theorem wellOf_yes (gW gH : Nat) (a : Option Addr) (n c k : Nat) (zs : List Int) (w : World) (hT : Tab w) (h : Rd w a n c zs) (hgW : 1 ≤ gW ∧ gW ≤ 10) (hgH : 1 ≤ gH ∧ gH ≤ 10) (hgm : gW * gH = n) (hmay : mayP gW gH zs) (hh : hng gW zs = false) (hk : 1 ≤ k ∧ k ≤ 10) :
    Calls Tryd.prog 25 #[.agg (gdA gW gH a n c), .int .i64 k] w fun e w' => ∃ cc wb cb, Wp.Ok ⟨gW, gH, k, n, cc, wb, cb⟩ ∧ e = .returned (.tuple #[.pointer (some ⟨wb, 0, none⟩), .int .i64 0]) ∧ WS ⟨gW, gH, k, n, cc, wb, cb⟩ w' zs ∧ Below w.heap.size w w' ∧ w.heap.size ≤ wb ∧ w.heap.size ≤ cb := by
  have HM := hide (fun w1 (hb : Below w.heap.size w w1) => May_any gW gH a n c zs w1 (h.mono hb))
  have HB0 : Hid (Below w.heap.size w (w.alloc (.cells (gdA gW gH a n c) 24))) := hide ((Below.refl _ _).alloc (Nat.le_refl _) _)
  have G0 := Gd.new w gW gH a n c
  rw [mayG_yes hmay] at HM
  have HH := hide (fun w1 (hb : Below w.heap.size w w1) => hangs_any gW gH a n c zs hgW hgH hgm w1 (h.mono hb))
  rw [hh] at HH
  have HG0 := hide G0
  have hs1 : w.heap.size < (w.alloc (.cells (gdA gW gH a n c) 24)).heap.size := by simp
  have hd : decide (1 ≤ (k : Int) ∧ (k : Int) ≤ 10) = true := decide_eq_true (by omega)
  have hn1 : 0 < n := by
    have : 1 * 1 ≤ gW * gH := Nat.mul_le_mul hgW.1 hgH.1
    omega
  have hnq : n ≤ 100 := by
    have : gW * gH ≤ 10 * 10 := Nat.mul_le_mul hgW.2 hgH.2
    omega
  obtain ⟨b, off, rfl, hc⟩ := h.cells hn1
  have hbl : b < w.heap.size := World.block_lt_of_cell? w _ (hc 0 hn1)
  have HCL := hide (fun w1 (hb : Below w.heap.size w w1) => Tryd.slices_Clone_int b off n c zs w1 (by rw [h.len]; exact Nat.le_refl _) (by omega) (fun j hj => (hb.cell (p := ⟨b, off + j, none⟩) hbl).trans (hc j (by rw [← h.len]; exact hj))))
  have HLEN := hide h.len
  have HT := hide hT
  have hT0 := hT.lt
  have HOK : Hid (∀ cc wb cb : Nat, wb ≠ cb → cb ≠ 0 → Wp.Ok ⟨gW, gH, k, n, cc, wb, cb⟩) := hide (fun cc wb cb h1 h2 => ⟨hgW, hgH, hgm, hk, h1, h2⟩)
  clear h hmay hh hgm hk hc hT
  go_enter Tryd.func25, Tryd.ntmps25
  go_wp2_with (refine wpList_load_gd rfl (.tmp 2) rfl w.heap.size rfl G0 ?_)
  clear G0
  refine (HM.out _ HB0.out).mono ?_
  rintro e w2 ⟨rfl, hb2⟩
  have HB2 := hide (HB0.out.trans (hb2.mono HB0.out.size))
  have G2 := HG0.out.below hb2 hs1
  have HG2 := hide G2
  clear hb2 HB0 HM HG0
  go_wp2_with (refine wpList_load_gd rfl (.tmp 2) rfl w.heap.size rfl G2 ?_)
  clear G2
  refine (HH.out _ HB2.out).mono ?_
  rintro e w3 ⟨rfl, hb3⟩
  have HB3 := hide (HB2.out.trans (hb3.mono HB2.out.size))
  have HG3 := hide (HG2.out.below hb3 HG2.out.lt)
  clear hb3 HB2 HH HG2
  go_wp2_with fail
  refine (isSide_any k _).mono ?_
  rintro e wx ⟨rfl, hwx⟩
  subst wx
  rw [hd]
  obtain ⟨-, -, g3⟩ := HG3.out.cells
  go_wp2_with fail
  refine (HCL.out w3 HB3.out).mono ?_
  rintro e w4 ⟨v', rfl, hO, hnn, hb4⟩
  have h3s := HB3.out.size
  obtain ⟨cb, cc, rfl, hcb, hcbl⟩ : ∃ cb cc, v' = .slice (some ⟨cb, 0, none⟩) n cc ∧ w3.heap.size ≤ cb ∧ cb < w4.heap.size := by
    rcases hO.2 with ⟨e, e2⟩ | ⟨b, cap, cur, e, hb, h2, _⟩
    · omega
    · exact ⟨b, cap, e, hb, (Array.getElem?_eq_some_iff.1 h2).1⟩
  have HO4 : Hid (w4.ownsRow 0 3 1 (.slice (some ⟨cb, 0, none⟩) n cc) n (zs.map (Value.int .i64))) := hide (by rw [← HLEN.out, List.take_length] at hO; rw [← HLEN.out]; exact own_base hO (Nat.zero_le _))
  have HB4 := hide (HB3.out.trans (hb4.mono h3s))
  have h4s := hb4.size
  have hG3l := HG3.out.lt
  have HG4 := hide (HG3.out.below hb4 HG3.out.lt)
  clear hO hnn hb4 g3 HCL HG3
  obtain ⟨-, -, g4⟩ := HG4.out.cells
  have f4 := HG4.out.frozen 2
  go_upto_region 6 with fail
  have K5 := HG4.out.setP (some ⟨cb, 0, none⟩) n cc
  have HB5 := hide (HB4.out.setCell (p := ⟨w.heap.size, 2, none⟩) (Nat.le_refl _) (.slice (some ⟨cb, 0, none⟩) n cc))
  have HO5 := hide (own_blk HO4.out (w' := w4.setCell ⟨w.heap.size, 2, none⟩ (.slice (some ⟨cb, 0, none⟩) n cc)) (fun b e => by simp only [Value.ownBlock, Option.some.injEq] at e; rw [← e]; exact (Keeps.set1 w4 w.heap.size 2 _).block _ hcbl (by omega)))
  have hs5 : (w4.setCell ⟨w.heap.size, 2, none⟩ (.slice (some ⟨cb, 0, none⟩) n cc)).heap.size = w4.heap.size := by simp
  generalize w4.setCell ⟨w.heap.size, 2, none⟩ (.slice (some ⟨cb, 0, none⟩) n cc) = w5 at *
  clear HG4 HB4 HO4 g4 f4
  go_wp2_with (refine wpList_load_gd rfl (.tmp 2) rfl w.heap.size rfl K5 ?_)
  go_ret2
  refine ⟨cc, w4.heap.size, cb, HOK.out _ _ _ (by omega) (by omega), rfl, ⟨?_, ?_, ?_⟩, ?_, ?_, ?_⟩
  · have := heap_alloc_new w5 (.cells #[.int .i64 (gW : Int), .int .i64 (gH : Int), .slice (some ⟨cb, 0, none⟩) n cc, .int .i64 (k : Int)] 54)
    rw [hs5] at this
    exact this
  · exact own_blk HO5.out (fun b e => by simp only [Value.ownBlock, Option.some.injEq] at e; rw [← e]; exact Below.heap_alloc w5 _ _ (by omega))
  · exact HT.out.mono (HB5.out.alloc HB5.out.size _)
  · exact HB5.out.alloc HB5.out.size _
  · have := HB5.out.size; omega
  · omega

attribute [local irreducible] prt wnZ wn sg

set_option maxRecDepth 100000 in
set_option maxHeartbeats 4000000 in
theorem winner_any (g : Wp) (hg : g.Ok) (Z : List Int) (hz : Zok g.n Z) (w : World) (h : WS g w Z) :
    Calls Tryd.prog 27 #[.pointer (some ⟨g.wb, 0, none⟩)] w fun e w' => e = .returned (.int .i64 (wnZ g.W g.H g.k Z : Nat)) ∧ Below w.heap.size w w' := by
  have hmay : mayP g.W g.H Z := by
    refine ⟨by have := hg.w; omega, by have := hg.w; omega, by have := hg.h; omega, by have := hg.h; omega, ?_, ?_⟩
    · rw [hz.1, ← hg.n]; simp
    · intro z hzm
      obtain ⟨i, hi, rfl⟩ := List.getElem_of_mem hzm
      have := hz.2 i (by rw [← hz.1]; exact hi)
      simpa [List.getD, hi] using this
  have HWON := hide (fun W1 (h1 : WS g W1 Z) => Won_yes g.W g.H (some ⟨g.cb, 0, none⟩) g.n g.cc g.k Z hmay hg.k W1 h1.t h1.rd)
  have HWZ : Hid (wn (sg Z (prt g.W g.H Z g.k g.n)) = wnZ g.W g.H g.k Z) := hide (by rw [wnZ, hg.n])
  obtain ⟨WN, hWN⟩ : ∃ WN, wnZ g.W g.H g.k Z = WN := ⟨_, rfl⟩
  rw [hWN] at HWZ ⊢
  have HS := hide h
  clear hWN h hmay hz hg
  go_enter Tryd.func27, Tryd.ntmps27
  go_upto_region 1 with fail
  refine wp_region_held (S := fun W4 => WS g W4 Z) (by kernel_rfl) ?_
  change wpAnyH _ _ _ _ _ _ _ _ (World.drew _)
  have SW : WS g w.drew Z := HS.out.grow (Below.refl _ w).drew
  refine wpAnyH_take (i := 0) (v := .pointer (some ⟨g.wb, 0, none⟩)) rfl (by kernel_rfl) (by kernel_rfl) (by kernel_rfl) (fun _ _ _ h => h) (Or.inl ⟨by rfl, ?_⟩) SW ?_
  · intro W4 hW4
    go_simp <;> first | done | rfl | (rw [IntKind.wrap_i64]; omega) | omega
  go_simp
  refine wpAnyH_take (i := 1) (v := .pointer (some ⟨g.wb, 0, none⟩)) rfl (by kernel_rfl) (by kernel_rfl) (by kernel_rfl) (fun _ _ _ h => h) (Or.inl ⟨by rfl, ?_⟩) SW ?_
  · intro W4 hW4
    go_simp <;> first | done | rfl | (rw [IntKind.wrap_i64]; omega) | omega
  go_simp
  refine wpAnyH_take (i := 2) (v := .pointer (some ⟨g.wb, 0, none⟩)) rfl (by kernel_rfl) (by kernel_rfl) (by kernel_rfl) (fun _ _ _ h => h) (Or.inl ⟨by rfl, ?_⟩) SW ?_
  · intro W4 hW4
    go_simp <;> first | done | rfl | (rw [IntKind.wrap_i64]; omega) | omega
  go_simp
  refine wpAnyH_take (i := 3) (v := .agg (gdA g.W g.H (some ⟨g.cb, 0, none⟩) g.n g.cc)) rfl (by kernel_rfl) (by kernel_rfl) (by kernel_rfl) (fun _ _ _ h => h) (yieldsIf_load_mid (by rfl) 24 _ rfl g.wb 0 (by rfl) [.int .i64 g.W, .int .i64 g.H, .slice (some ⟨g.cb, 0, none⟩) g.n g.cc] _ (fun W hW => hW.range) Tryd.underlying24 rfl size24) SW ?_
  go_simp
  refine wpAnyH_take (i := 4) (v := .pointer (some ⟨g.wb, 0, none⟩)) rfl (by kernel_rfl) (by kernel_rfl) (by kernel_rfl) (fun _ _ _ h => h) (Or.inl ⟨by rfl, ?_⟩) SW ?_
  · intro W4 hW4
    go_simp <;> first | done | rfl | (rw [IntKind.wrap_i64]; omega) | omega
  go_simp
  refine wpAnyH_take (i := 5) (v := .pointer (some ⟨g.wb, 0, none⟩)) rfl (by kernel_rfl) (by kernel_rfl) (by kernel_rfl) (fun _ _ _ h => h) (Or.inl ⟨by rfl, ?_⟩) SW ?_
  · intro W4 hW4
    go_simp <;> first | done | rfl | (rw [IntKind.wrap_i64]; omega) | omega
  go_simp
  refine wpAnyH_take (i := 6) (v := .pointer (some ⟨g.wb, 3, none⟩)) rfl (by kernel_rfl) (by kernel_rfl) (by kernel_rfl) (fun _ _ _ h => h) (Or.inl ⟨by rfl, ?_⟩) SW ?_
  · intro W4 hW4
    go_simp <;> first | done | rfl | (rw [IntKind.wrap_i64]; omega) | omega
  go_simp
  refine wpAnyH_take (i := 7) (v := .int .i64 (g.k : Nat)) rfl (by kernel_rfl) (by kernel_rfl) (by kernel_rfl) (fun _ _ _ h => h) (Or.inl ⟨by rfl, ?_⟩) SW ?_
  · intro W4 hW4
    obtain ⟨f0, f1, f2, f3⟩ := hW4.fields
    go_simp <;> first | done | rfl | (rw [IntKind.wrap_i64]; omega) | omega
  go_simp
  refine wpAnyH_ready (rs := [8]) (by kernel_rfl) (by simp) ?_
  refine AllReadyH.cons rfl (fun K1 hK1 => ?_) AllReadyH.nil
  go_simp
  refine (HWON.out _ SW).mono ?_
  rintro e w5 ⟨a', c', rfl, -, hb5⟩
  have B5 : Below w.heap.size w w5 := (Below.refl _ w).drew.trans hb5
  refine hK1.out _ _ (SW.grow hb5) (fun SW => ?_)
  clear hK1 K1 hb5
  rw [HWZ.out]
  go_simp
  refine wpAnyH_take (i := 9) (v := (.tuple #[.int .i64 (WN : Nat), .slice a' (prt g.W g.H Z g.k g.n).length c', .int .i64 0])) rfl (by kernel_rfl) (by kernel_rfl) (by kernel_rfl) (fun _ _ _ h => h) (Or.inl ⟨by rfl, ?_⟩) SW ?_
  · intro W4 hW4
    go_simp <;> first | done | rfl | (rw [IntKind.wrap_i64]; omega) | omega
  go_simp
  refine wpAnyH_take (i := 10) (v := .int .i64 (WN : Nat)) rfl (by kernel_rfl) (by kernel_rfl) (by kernel_rfl) (fun _ _ _ h => h) (Or.inl ⟨by rfl, ?_⟩) SW ?_
  · intro W4 hW4
    go_simp <;> first | done | rfl | (rw [IntKind.wrap_i64]; omega) | omega
  go_simp
  refine wpAnyH_take (i := 11) (v := .slice a' (prt g.W g.H Z g.k g.n).length c') rfl (by kernel_rfl) (by kernel_rfl) (by kernel_rfl) (fun _ _ _ h => h) (Or.inl ⟨by rfl, ?_⟩) SW ?_
  · intro W4 hW4
    go_simp <;> first | done | rfl | (rw [IntKind.wrap_i64]; omega) | omega
  go_simp
  refine wpAnyH_take (i := 12) (v := .int .i64 0) rfl (by kernel_rfl) (by kernel_rfl) (by kernel_rfl) (fun _ _ _ h => h) (Or.inl ⟨by rfl, ?_⟩) SW ?_
  · intro W4 hW4
    go_simp <;> first | done | rfl | (rw [IntKind.wrap_i64]; omega) | omega
  go_simp
  refine wpAnyH_take (i := 13) (v := .int .i64 (WN : Nat)) rfl (by kernel_rfl) (by kernel_rfl) (by kernel_rfl) (fun _ _ _ h => h) (Or.inl ⟨by rfl, ?_⟩) SW ?_
  · intro W4 hW4
    go_simp <;> first | done | rfl | (rw [IntKind.wrap_i64]; omega) | omega
  go_simp
  refine wpAnyH_take (i := 14) (v := .slice a' (prt g.W g.H Z g.k g.n).length c') rfl (by kernel_rfl) (by kernel_rfl) (by kernel_rfl) (fun _ _ _ h => h) (Or.inl ⟨by rfl, ?_⟩) SW ?_
  · intro W4 hW4
    go_simp <;> first | done | rfl | (rw [IntKind.wrap_i64]; omega) | omega
  go_simp
  refine wpAnyH_take (i := 15) (v := .int .i64 0) rfl (by kernel_rfl) (by kernel_rfl) (by kernel_rfl) (fun _ _ _ h => h) (Or.inl ⟨by rfl, ?_⟩) SW ?_
  · intro W4 hW4
    go_simp <;> first | done | rfl | (rw [IntKind.wrap_i64]; omega) | omega
  go_simp
  refine wpAnyH_done (by kernel_rfl) ?_ _
  clear SW
  go_wp2_with fail
  go_ret
  exact ⟨rfl, B5⟩

end Go.Proofs.YtaglhmkjdajgpaaDoor
