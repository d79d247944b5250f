/-
  The law on boards turned around, walked. No conditions beyond those that each theorem bears.
-/
import Derived.Test.YtmdnoiebodaikaaValue
import Derived.Test.YtmdnoiebodaikaaTMath
import Derived.Test.YtmdnoiebodaikaaNewsLaw
namespace Go.Proofs.Ytmdnoiebodaikaa
open Go.RowKit

theorem own_keepsM {w w' : World} {base n : Nat} {v : Value} {xs : List Value} {y : Nat} (h : w.ownsRow base 3 1 v n xs) (hk : Keeps (fun k => k = y) w w') {ad : Option Addr} {m d : Nat} {t : Int} (hy : Mn w y ad m d t) : w'.ownsRow base 3 1 v n xs := by
  refine ⟨h.1, ?_⟩
  rcases h.2 with h2 | ⟨g, cap, cur, hv, hb, hg, r⟩
  · exact .inl h2
  · refine .inr ⟨g, cap, cur, hv, hb, (hk.block g (Array.getElem?_eq_some_iff.1 hg).1 (fun e => ?_)).trans hg, r⟩
    subst e
    have hy' : w.heap[g]? = some (.cells (mA ad m d t) 24 (0, 0)) := hy
    rw [hg] at hy'
    simp at hy'

theorem val_one : val 1 0 [1, 0, 1, 0] = (0, 0) := by decide +kernel

theorem fit_one : Fit 1 [1, 0, 1, 0] := by
  refine ⟨fun i hi => ?_, by decide +kernel⟩
  rcases (show i = 0 ∨ i = 1 ∨ i = 2 ∨ i = 3 by omega) with rfl | rfl | rfl | rfl <;> decide

set_option maxRecDepth 100000 in
set_option maxHeartbeats 4000000 in
theorem turns_state (a : Option Addr) (n c : Nat) (t : Int) (S : List Int) (w : World) (hR : Rd w a n c S) (ht1 : -9223372036854775808 ≤ t) (ht2 : t ≤ 9223372036854775807) (hm : Hid (mayB S t = false)) :
    Calls Try.prog 7 #[.agg (mA a n c t)] w fun e w' => e = .returned (.bool true) ∧ Below w.heap.size w w' := by
  obtain ⟨w0, hw0⟩ : ∃ w0, w.alloc (Obj.cells (mA a n c t) 24) = w0 := ⟨_, rfl⟩
  have M0 : Mn w0 w.heap.size a n c t := by rw [← hw0]; exact Mn.new w _ n c t
  have B0 : Below w.heap.size w w0 := by rw [← hw0]; exact (Below.refl _ w).alloc (Nat.le_refl _) _
  obtain ⟨b, hbe⟩ : ∃ b, w.heap.size = b := ⟨_, rfl⟩
  rw [hbe] at M0
  have HM0 := hide M0
  have HB0 := hide B0
  have HR := hide hR
  clear M0 B0 hR
  have BQ : Blk (w0.alloc (Obj.cells #[.int .i64 1, .int .i64 0, .int .i64 1, .int .i64 0] 3)) w0.heap.size 3 [1, 0, 1, 0] := Blk.new w0 3 [1, 0, 1, 0] _ rfl
  have HRQ := hide (BQ.rd (n := 4) rfl (by unfold maxLen; omega))
  have AB := (Below.refl w0.heap.size w0).alloc (Nat.le_refl _) (Obj.cells #[.int .i64 1, .int .i64 0, .int .i64 1, .int .i64 0] 3)
  have HM1 := hide (HM0.out.below AB HM0.out.lt)
  have HB1 := hide (HB0.out.trans (AB.mono HB0.out.size))
  have HQM : Hid (mayB [1, 0, 1, 0] ((0 : Nat) : Int) = true) := hide (by decide +kernel)
  have HQF : Hid (Fit 1 [1, 0, 1, 0]) := hide fit_one
  have HQI : Hid (inAll 1 [1, 0, 1, 0] ≤ 4) := hide (by decide +kernel)
  clear AB BQ HM0 HB0
  go_enter Try.func7, Try.ntmps7
  go_wp2_with fail
  refine (Value_ok _ 4 4 1 0 [1, 0, 1, 0] _ HRQ.out rfl rfl (by omega) (by omega) HQF.out HQM HQI).mono ?_
  rintro e w2 ⟨rfl, hw⟩
  rw [val_one]
  have HM2 := hide (HM1.out.below hw HM1.out.lt)
  have HB2 := hide (HB1.out.trans (hw.mono HB1.out.size))
  clear hw HM1 HB1 HRQ
  go_wp2_with (first | refine wpList_load_mn rfl _ rfl b rfl HM2.out ?_)
  refine (Value_state a n c t S _ (HR.out.mono HB2.out) ht1 ht2 hm).mono ?_
  rintro e w3 ⟨rfl, hw⟩
  have HM3 := hide (HM2.out.below hw HM2.out.lt)
  have HB3 := hide (HB2.out.trans (hw.mono HB2.out.size))
  clear hw HM2 HB2
  go_wp2_with (first | refine wpList_load_mn rfl _ rfl b rfl HM3.out ?_)
  refine (May_any _ n c t S _ (HR.out.mono HB3.out) ht1 ht2).mono ?_
  rintro e w4 ⟨rfl, hw⟩
  rw [hm.out]
  have HM4 := hide (HM3.out.below hw HM3.out.lt)
  have HB4 := hide (HB3.out.trans (hw.mono HB3.out.size))
  clear hw HM3 HB3
  go_wp2
  go_ret
  exact ⟨rfl, by first | exact HB4.out | (rw [← hbe]; exact HB4.out)⟩

set_option maxRecDepth 100000 in
set_option maxHeartbeats 4000000 in
theorem turns_size (sb off n c p u : Nat) (S : List Int) (w : World) (hR : Rd w (some ⟨sb, off, none⟩) n c S) (hn : Hid (n = 2 * (p + 1))) (hlh : Hid (S.length = 2 * (p + 1))) (hp1 : 1 ≤ p) (hp : p ≤ 6) (hu : u ≤ 1) (hf : Fit p S) (hm : Hid (mayB S (u : Int) = true)) (hq : Hid (4 < inAll p S)) :
    Calls Try.prog 7 #[.agg (mA (some ⟨sb, off, none⟩) n c u)] w fun e w' => e = .returned (.bool true) ∧ Below w.heap.size w w' := by
  obtain ⟨w0, hw0⟩ : ∃ w0, w.alloc (Obj.cells (mA (some ⟨sb, off, none⟩) n c u) 24) = w0 := ⟨_, rfl⟩
  have M0 : Mn w0 w.heap.size (some ⟨sb, off, none⟩) n c u := by rw [← hw0]; exact Mn.new w _ n c u
  have B0 : Below w.heap.size w w0 := by rw [← hw0]; exact (Below.refl _ w).alloc (Nat.le_refl _) _
  obtain ⟨b, hbe⟩ : ∃ b, w.heap.size = b := ⟨_, rfl⟩
  rw [hbe] at M0
  have HM0 := hide M0
  have HB0 := hide B0
  have HR := hide hR
  clear M0 B0 hR
  have BQ : Blk (w0.alloc (Obj.cells #[.int .i64 1, .int .i64 0, .int .i64 1, .int .i64 0] 3)) w0.heap.size 3 [1, 0, 1, 0] := Blk.new w0 3 [1, 0, 1, 0] _ rfl
  have HRQ := hide (BQ.rd (n := 4) rfl (by unfold maxLen; omega))
  have AB := (Below.refl w0.heap.size w0).alloc (Nat.le_refl _) (Obj.cells #[.int .i64 1, .int .i64 0, .int .i64 1, .int .i64 0] 3)
  have HM1 := hide (HM0.out.below AB HM0.out.lt)
  have HB1 := hide (HB0.out.trans (AB.mono HB0.out.size))
  have HQM : Hid (mayB [1, 0, 1, 0] ((0 : Nat) : Int) = true) := hide (by decide +kernel)
  have HQF : Hid (Fit 1 [1, 0, 1, 0]) := hide fit_one
  have HQI : Hid (inAll 1 [1, 0, 1, 0] ≤ 4) := hide (by decide +kernel)
  clear AB BQ HM0 HB0
  go_enter Try.func7, Try.ntmps7
  go_wp2_with fail
  refine (Value_ok _ 4 4 1 0 [1, 0, 1, 0] _ HRQ.out rfl rfl (by omega) (by omega) HQF.out HQM HQI).mono ?_
  rintro e w2 ⟨rfl, hw⟩
  rw [val_one]
  have HM2 := hide (HM1.out.below hw HM1.out.lt)
  have HB2 := hide (HB1.out.trans (hw.mono HB1.out.size))
  clear hw HM1 HB1 HRQ
  go_wp2_with (first | refine wpList_load_mn rfl _ rfl b rfl HM2.out ?_)
  refine (Value_size _ n c p u S _ (HR.out.mono HB2.out) hn hlh hp hu hf hm hq).mono ?_
  rintro e w3 ⟨rfl, hw⟩
  have HM3 := hide (HM2.out.below hw HM2.out.lt)
  have HB3 := hide (HB2.out.trans (hw.mono HB2.out.size))
  clear hw HM2 HB2
  go_wp2_with (first | refine wpList_load_mn rfl _ rfl b rfl HM3.out ?_)
  refine (May_any _ n c u S _ (HR.out.mono HB3.out) (by omega) (by omega)).mono ?_
  rintro e w4 ⟨rfl, hw⟩
  rw [hm.out]
  have HM4 := hide (HM3.out.below hw HM3.out.lt)
  have HB4 := hide (HB3.out.trans (hw.mono HB3.out.size))
  clear hw HM3 HB3
  have HCN : Hid (n ≤ c) := hide HR.out.cap
  have hcm := HR.out.max
  unfold maxLen at hcm
  obtain ⟨h, hh⟩ : ∃ h, p + 1 = h := ⟨_, rfl⟩
  have hn' := hn.out
  have hq2 : (n : Int) / 2 = (h : Int) := by omega
  have hnh : n - h = h := by omega
  have HHH : Hid (h + h = n) := hide (by omega)
  have HH : Hid (h = p + 1) := hide hh.symm
  have hh7 : h ≤ 7 := by omega
  have hh1 : 1 ≤ h := by omega
  have hhn : h ≤ n := by omega
  have hcn := HCN.out
  have hhc : ¬ c = h := by omega
  have hhc2 : h ≤ c := by omega
  obtain ⟨v, hv⟩ : ∃ v, 1 - u = v := ⟨_, rfl⟩
  have hvi : 1 - (u : Int) = (v : Int) := by omega
  have HVE : Hid (1 - u = v) := hide hv
  have hv1 : v ≤ 1 := by omega
  have HRF : Hid (∀ W, Below w.heap.size w W → Rd W (some ⟨sb, off + h, none⟩) h (c - h) (S.drop h)) := hide (fun W hW => by
    have := (HR.out.mono hW).from (k := h) (by omega)
    rw [if_neg hhc, hnh] at this
    simpa [Addr.add_lit] using this)
  have HRU : Hid (∀ W, Below w.heap.size w W → Rd W (some ⟨sb, off, none⟩) h c (S.take h)) := hide (fun W hW => (HR.out.mono hW).upto (k := h) (by omega))
  have x0 := HM4.out.seeds
  clear hh hn' hv HCN
  have hhi : (h : Int) ≤ (n : Int) := by omega
  have hhi2 : (h : Int) ≤ (c : Int) := by omega
  have hnci : (n : Int) ≤ (c : Int) := by omega
  go_upto_region 8 with fail
  go_cut [9] (fun x wc => ∃ (y : Nat) (a' : Option Addr) (c' : Nat), x = .pointer (some ⟨y, 0, none⟩) ∧ Hid (Mn wc y a' n c' v) ∧ Hid (Rd wc a' n c' (rot p S)) ∧ Hid (Below w.heap.size w wc))
  case first =>
    have HMc := HM4
    have HBd := HB4
    clear HM4 HB4 x0
    refine wp_region_held (S := fun W => Mn W b (some ⟨sb, off, none⟩) n c u) (by kernel_rfl) ?_
    change wpAnyH _ _ _ _ _ _ _ _ (World.drew _)
    obtain ⟨V0, hV0⟩ : ∃ V0, World.drew w4 = V0 := ⟨_, rfl⟩
    have SW : Mn V0 b (some ⟨sb, off, none⟩) n c u := by rw [← hV0]; exact HMc.out
    have HBc : Hid (Below w.heap.size w V0) := hide (by rw [← hV0]; exact HBd.out.drew)
    rw [hV0]
    clear hV0 HMc HBd
    refine wpAnyH_take (i := 0) (v := .pointer (some ⟨b, 0, none⟩)) rfl (by kernel_rfl) (by kernel_rfl) (by kernel_rfl) (fun _ _ _ h => h) (Or.inl ⟨by rfl, ?_⟩) SW ?_
    · intro W hW
      go_simp <;> first | done | rfl | (rw [IntKind.wrap_i64]; omega) | (intro hh; exfalso; omega) | omega
    go_simp
    refine wpAnyH_take (i := 1) (v := .slice (some ⟨sb, off, none⟩) n c) rfl (by kernel_rfl) (by kernel_rfl) (by kernel_rfl) (fun _ _ _ h => h) (Or.inl ⟨by rfl, ?_⟩) SW ?_
    · intro W hW
      have hcell := hW.seeds
      go_simp <;> first | done | rfl | (rw [IntKind.wrap_i64]; omega) | (intro hh; exfalso; omega) | omega
    go_simp
    refine wpAnyH_take (i := 2) (v := .int .i64 h) rfl (by kernel_rfl) (by kernel_rfl) (by kernel_rfl) (fun _ _ _ h => h) (Or.inl ⟨by rfl, ?_⟩) SW ?_
    · intro W hW
      go_simp <;> first | done | rfl | (rw [IntKind.wrap_i64]; omega) | (intro hh; exfalso; omega) | omega
    go_simp
    refine wpAnyH_take (i := 3) (v := .slice (some ⟨sb, off + h, none⟩) h (c - h)) rfl (by kernel_rfl) (by kernel_rfl) (by kernel_rfl) (fun _ _ _ h => h) (Or.inl ⟨by rfl, ?_⟩) SW ?_
    · intro W hW
      go_simp <;> first | done | rfl | (rw [IntKind.wrap_i64]; omega) | (intro hh; exfalso; omega) | omega
    go_simp
    refine wpAnyH_take (i := 5) (v := .pointer (some ⟨b, 0, none⟩)) rfl (by kernel_rfl) (by kernel_rfl) (by kernel_rfl) (fun _ _ _ h => h) (Or.inl ⟨by rfl, ?_⟩) SW ?_
    · intro W hW
      go_simp <;> first | done | rfl | (rw [IntKind.wrap_i64]; omega) | (intro hh; exfalso; omega) | omega
    go_simp
    refine wpAnyH_take (i := 6) (v := .slice (some ⟨sb, off, none⟩) n c) rfl (by kernel_rfl) (by kernel_rfl) (by kernel_rfl) (fun _ _ _ h => h) (Or.inl ⟨by rfl, ?_⟩) SW ?_
    · intro W hW
      have hcell := hW.seeds
      go_simp <;> first | done | rfl | (rw [IntKind.wrap_i64]; omega) | (intro hh; exfalso; omega) | omega
    go_simp
    refine wpAnyH_take (i := 7) (v := .int .i64 h) rfl (by kernel_rfl) (by kernel_rfl) (by kernel_rfl) (fun _ _ _ h => h) (Or.inl ⟨by rfl, ?_⟩) SW ?_
    · intro W hW
      go_simp <;> first | done | rfl | (rw [IntKind.wrap_i64]; omega) | (intro hh; exfalso; omega) | omega
    go_simp
    refine wpAnyH_take (i := 8) (v := .slice (some ⟨sb, off, none⟩) h c) rfl (by kernel_rfl) (by kernel_rfl) (by kernel_rfl) (fun _ _ _ h => h) (Or.inl ⟨by rfl, ?_⟩) SW ?_
    · intro W hW
      go_simp <;> first | done | rfl | (rw [IntKind.wrap_i64]; omega) | (intro hh; exfalso; omega) | omega
    go_simp
    refine wpAnyH_take (i := 10) (v := .pointer (some ⟨b, 1, none⟩)) rfl (by kernel_rfl) (by kernel_rfl) (by kernel_rfl) (fun _ _ _ h => h) (Or.inl ⟨by rfl, ?_⟩) SW ?_
    · intro W hW
      go_simp <;> first | done | rfl | (rw [IntKind.wrap_i64]; omega) | (intro hh; exfalso; omega) | omega
    go_simp
    refine wpAnyH_take (i := 11) (v := .int .i64 u) rfl (by kernel_rfl) (by kernel_rfl) (by kernel_rfl) (fun _ _ _ h => h) (Or.inl ⟨by rfl, ?_⟩) SW ?_
    · intro W hW
      have hcell := hW.turn
      go_simp <;> first | done | rfl | (rw [IntKind.wrap_i64]; omega) | (intro hh; exfalso; omega) | omega
    go_simp
    refine wpAnyH_take (i := 12) (v := .int .i64 v) rfl (by kernel_rfl) (by kernel_rfl) (by kernel_rfl) (fun _ _ _ h => h) (Or.inl ⟨by rfl, ?_⟩) SW ?_
    · intro W hW
      go_simp <;> first | done | rfl | (rw [IntKind.wrap_i64]; omega) | (intro hh; exfalso; omega) | omega
    go_simp
    refine wpAnyH_ready (rs := [4, 14]) (by kernel_rfl) (by simp) ?_
    refine AllReadyH.cons rfl (fun K1 hK1 => ?_) ?_
    · go_simp
      refine (kInts_own _ h (c - h) (S.drop h) V0 (HRF.out _ HBc.out) (by omega)).mono ?_
      rintro e W1 ⟨a4, c4, rfl, hown, hw⟩
      have hbg := SW.lt
      have hwg := HBc.out.size
      refine hK1.out _ _ (SW.below hw SW.lt) (fun SW1 => ?_)
      clear hK1 K1 SW
      have SW := SW1
      clear SW1
      have HBn := hide (HBc.out.trans (hw.mono HBc.out.size))
      have HSZ : Hid (V0.heap.size ≤ W1.heap.size) := hide hw.size
      have HOc := hide hown
      have HLO : Hid (∀ k, Value.ownBlock (.slice a4 h c4) = some k → b < k ∧ w.heap.size ≤ k) := hide (fun k hk => ⟨by have := (hown.lt k hk).1; omega, by have := (hown.lt k hk).1; omega⟩)
      clear HBc hw hown hbg hwg
      have HBc := HBn
      clear HBn
      go_simp
      refine wpAnyH_ready (rs := [9, 14]) (by kernel_rfl) (by simp) ?_
      refine AllReadyH.cons rfl (fun K1 hK1 => ?_) ?_
      · rw [if_pos (by rfl)]
        refine wp_append_rd W1 _ _ rfl V0.heap.size _ h (S.drop h) rfl HOc.out _ h c (S.take h) rfl (HRU.out _ HBc.out) (by omega) HSZ.out ?_
        intro v' W2 hO' hG'
        have hOn : W2.ownsRow V0.heap.size 3 1 v' n ((rot p S).map (Value.int .i64)) := by
          have e1 : S.drop h ++ S.take h = rot p S := by rw [HH.out]; rfl
          rw [e1, HHH.out] at hO'
          exact hO'
        obtain ⟨a', c', hv'⟩ := slice_form hOn
        rw [hv'] at hOn ⊢
        have hkp : Keeps (fun k => Value.ownBlock (.slice a4 h c4) = some k) W1 W2 := ⟨hG'.os, hG'.tape, hG'.output, hG'.size, fun i hi hx => hG'.block i hi (fun e => hx e.symm)⟩
        refine hK1.out _ _ (SW.keeps hkp (fun e => by have := (HLO.out b e).1; omega)) (fun SW1 => ?_)
        clear hK1 K1 SW
        have SW := SW1
        clear SW1
        have HBn := hide (HBc.out.grown hG' HBc.out.size (fun k hk => (HLO.out k hk).2))
        have HRX := hide hOn
        clear HBc HOc hO' hG' hv' hOn hkp HSZ
        have HBc := HBn
        clear HBn
        go_simp
        refine wpAnyH_take (i := 13) (v := .agg #[.slice a' n c', .int .i64 v]) rfl (by kernel_rfl) (by kernel_rfl) (by kernel_rfl) (fun _ _ _ h => h) (Or.inl ⟨by rfl, ?_⟩) SW ?_
        · intro W hW
          go_simp <;> first | done | rfl | (rw [IntKind.wrap_i64]; omega) | (intro hh; exfalso; omega) | omega
        go_simp
        refine wpAnyH_ready (rs := [14]) (by kernel_rfl) (by simp) ?_
        refine AllReadyH.cons rfl (fun K1 hK1 => ?_) AllReadyH.nil
        go_simp
        refine hK1.out _ _ (SW.old _) (fun SW1 => ?_)
        have HYn := Mn.new W2 none 0 0 0
        have AB := (Below.refl W2.heap.size W2).alloc (Nat.le_refl _) (Obj.cells #[.slice none 0 0, .int .i64 0] 24)
        have HBn := HBc.out.trans (AB.mono HBc.out.size)
        have hby := SW.lt
        have HRXn := HRX.out.alloc (Obj.cells #[.slice none 0 0, .int .i64 0] 24)
        clear HRX
        clear hK1 K1 SW HBc AB
        go_simp
        obtain ⟨y, hy⟩ : ∃ y, W2.heap.size = y := ⟨_, rfl⟩
        obtain ⟨W3, hW3⟩ : ∃ W3, W2.alloc (Obj.cells #[.slice none 0 0, .int .i64 0] 24) = W3 := ⟨_, rfl⟩
        have SW := SW1
        clear SW1
        rw [hW3] at SW HBn ⊢
        have HYm : Mn W3 y none 0 0 0 := by rw [← hW3, ← hy]; exact HYn
        have HYc := hide HYm
        have HBc := hide HBn
        rw [hW3] at HRXn
        have HRX := hide HRXn
        clear HRXn
        have hby' : b < y := by omega
        rw [hy]
        clear hW3 HYn HBn HYm hy hby
        refine wpAnyH_ready (rs := [15]) (by kernel_rfl) (by simp) ?_
        refine AllReadyH.cons rfl (fun K1 hK1 => ?_) AllReadyH.nil
        rw [if_pos (by rfl)]
        have hb' : W3.heap[y]? = _ := HYc.out
        refine wp_store_row 24 _ _ rfl y (mA a' n c' v) rfl rfl 24 _ hb' size24 rfl (by simp [Value.oneCell']) ?_
        have hk2 : Keeps (fun k => k = y) W3 (W3.setRow y (mA a' n c' v)) := ⟨rfl, rfl, rfl, by simp [World.setRow], fun k _ hk => by simp [World.setRow, Array.getElem?_modify, show ¬ y = k from fun e => hk e.symm]⟩
        have hm2 : Mn (W3.setRow y (mA a' n c' v)) y a' n c' v := by simp [Mn, World.setRow, Array.getElem?_modify, hb']
        refine hK1.out _ _ (SW.keeps hk2 (by omega)) (fun _ => ?_)
        clear hK1 K1
        refine wpAnyH_done (by kernel_rfl) ?_ _
        go_wp2_with fail
        go_meet
        case rel =>
          exact ⟨y, a', c', rfl, hm2, Rd.of_own (own_keepsM HRX.out hk2 HYc.out), HBc.out.trans (hk2.below HBc.out.size (fun k hk e => by omega))⟩
      refine AllReadyH.cons rfl (fun K1 hK1 => ?_) AllReadyH.nil
      go_simp
      refine hK1.out _ _ (SW.old _) (fun SW1 => ?_)
      have HYn := Mn.new W1 none 0 0 0
      have AB := (Below.refl W1.heap.size W1).alloc (Nat.le_refl _) (Obj.cells #[.slice none 0 0, .int .i64 0] 24)
      have HBn := HBc.out.trans (AB.mono HBc.out.size)
      have hby := SW.lt
      have HOn := HOc.out.alloc (Obj.cells #[.slice none 0 0, .int .i64 0] 24)
      have HNE0 : ∀ j, Value.ownBlock (.slice a4 h c4) = some j → j ≠ W1.heap.size := fun j hj e => by have := (HOc.out.lt j hj).2; omega
      have hszn := Nat.le_trans HSZ.out AB.size
      clear HOc HSZ
      clear hK1 K1 SW HBc AB
      go_simp
      obtain ⟨y, hy⟩ : ∃ y, W1.heap.size = y := ⟨_, rfl⟩
      obtain ⟨W3, hW3⟩ : ∃ W3, W1.alloc (Obj.cells #[.slice none 0 0, .int .i64 0] 24) = W3 := ⟨_, rfl⟩
      have SW := SW1
      clear SW1
      rw [hW3] at SW HBn ⊢
      have HYm : Mn W3 y none 0 0 0 := by rw [← hW3, ← hy]; exact HYn
      have HYc := hide HYm
      have HBc := hide HBn
      rw [hW3] at HOn hszn
      rw [hy] at HNE0
      have HOc := hide HOn
      have HNE := hide HNE0
      have HSZ := hide hszn
      clear HOn HNE0 hszn
      have hby' : b < y := by omega
      rw [hy]
      clear hW3 HYn HBn HYm hy hby
      refine wpAnyH_ready (rs := [9]) (by kernel_rfl) (by simp) ?_
      refine AllReadyH.cons rfl (fun K1 hK1 => ?_) AllReadyH.nil
      rw [if_pos (by rfl)]
      refine wp_append_rd W3 _ _ rfl V0.heap.size _ h (S.drop h) rfl HOc.out _ h c (S.take h) rfl (HRU.out _ HBc.out) (by omega) HSZ.out ?_
      intro v' W2 hO' hG'
      have hOn : W2.ownsRow V0.heap.size 3 1 v' n ((rot p S).map (Value.int .i64)) := by
        have e1 : S.drop h ++ S.take h = rot p S := by rw [HH.out]; rfl
        rw [e1, HHH.out] at hO'
        exact hO'
      obtain ⟨a', c', hv'⟩ := slice_form hOn
      rw [hv'] at hOn ⊢
      have hkp : Keeps (fun k => Value.ownBlock (.slice a4 h c4) = some k) W3 W2 := ⟨hG'.os, hG'.tape, hG'.output, hG'.size, fun i hi hx => hG'.block i hi (fun e => hx e.symm)⟩
      refine hK1.out _ _ (SW.keeps hkp (fun e => by have := (HLO.out b e).1; omega)) (fun SW1 => ?_)
      clear hK1 K1 SW
      have SW := SW1
      clear SW1
      have HBn := hide (HBc.out.grown hG' HBc.out.size (fun k hk => (HLO.out k hk).2))
      have HYn := hide (HYc.out.keeps hkp (fun e => HNE.out y e rfl))
      clear HYc HNE
      have HYc := HYn
      clear HYn
      have HRX := hide hOn
      clear HBc HOc hO' hG' hv' hOn hkp HSZ
      have HBc := HBn
      clear HBn
      go_simp
      refine wpAnyH_take (i := 13) (v := .agg #[.slice a' n c', .int .i64 v]) rfl (by kernel_rfl) (by kernel_rfl) (by kernel_rfl) (fun _ _ _ h => h) (Or.inl ⟨by rfl, ?_⟩) SW ?_
      · intro W hW
        go_simp <;> first | done | rfl | (rw [IntKind.wrap_i64]; omega) | (intro hh; exfalso; omega) | omega
      go_simp
      refine wpAnyH_ready (rs := [15]) (by kernel_rfl) (by simp) ?_
      refine AllReadyH.cons rfl (fun K1 hK1 => ?_) AllReadyH.nil
      rw [if_pos (by rfl)]
      have hb' : W2.heap[y]? = _ := HYc.out
      refine wp_store_row 24 _ _ rfl y (mA a' n c' v) rfl rfl 24 _ hb' size24 rfl (by simp [Value.oneCell']) ?_
      have hk2 : Keeps (fun k => k = y) W2 (W2.setRow y (mA a' n c' v)) := ⟨rfl, rfl, rfl, by simp [World.setRow], fun k _ hk => by simp [World.setRow, Array.getElem?_modify, show ¬ y = k from fun e => hk e.symm]⟩
      have hm2 : Mn (W2.setRow y (mA a' n c' v)) y a' n c' v := by simp [Mn, World.setRow, Array.getElem?_modify, hb']
      refine hK1.out _ _ (SW.keeps hk2 (by omega)) (fun _ => ?_)
      clear hK1 K1
      refine wpAnyH_done (by kernel_rfl) ?_ _
      go_wp2_with fail
      go_meet
      case rel =>
        exact ⟨y, a', c', rfl, hm2, Rd.of_own (own_keepsM HRX.out hk2 HYc.out), HBc.out.trans (hk2.below HBc.out.size (fun k hk e => by omega))⟩
    refine AllReadyH.cons rfl (fun K1 hK1 => ?_) AllReadyH.nil
    go_simp
    refine hK1.out _ _ (SW.old _) (fun SW1 => ?_)
    have HYn := Mn.new V0 none 0 0 0
    have AB := (Below.refl V0.heap.size V0).alloc (Nat.le_refl _) (Obj.cells #[.slice none 0 0, .int .i64 0] 24)
    have HBn := HBc.out.trans (AB.mono HBc.out.size)
    have hby := SW.lt
    clear hK1 K1 SW HBc AB
    go_simp
    obtain ⟨y, hy⟩ : ∃ y, V0.heap.size = y := ⟨_, rfl⟩
    obtain ⟨W3, hW3⟩ : ∃ W3, V0.alloc (Obj.cells #[.slice none 0 0, .int .i64 0] 24) = W3 := ⟨_, rfl⟩
    have SW := SW1
    clear SW1
    rw [hW3] at SW HBn ⊢
    have HYm : Mn W3 y none 0 0 0 := by rw [← hW3, ← hy]; exact HYn
    have HYc := hide HYm
    have HBc := hide HBn
    have hby' : b < y := by omega
    rw [hy]
    clear hW3 HYn HBn HYm hy hby
    refine wpAnyH_ready (rs := [4]) (by kernel_rfl) (by simp) ?_
    refine AllReadyH.cons rfl (fun K1 hK1 => ?_) AllReadyH.nil
    go_simp
    refine (kInts_own _ h (c - h) (S.drop h) W3 (HRF.out _ HBc.out) (by omega)).mono ?_
    rintro e W1 ⟨a4, c4, rfl, hown, hw⟩
    have hbg := SW.lt
    have hwg := HBc.out.size
    refine hK1.out _ _ (SW.below hw SW.lt) (fun SW1 => ?_)
    clear hK1 K1 SW
    have SW := SW1
    clear SW1
    have HBn := hide (HBc.out.trans (hw.mono HBc.out.size))
    have HSZ : Hid (W3.heap.size ≤ W1.heap.size) := hide hw.size
    have HYn := hide (HYc.out.below hw HYc.out.lt)
    have hyg := HYc.out.lt
    have HNE : Hid (∀ j, Value.ownBlock (.slice a4 h c4) = some j → j ≠ y) := hide (fun j hj e => by have := (hown.lt j hj).1; omega)
    clear HYc
    have HYc := HYn
    clear HYn hyg
    have HOc := hide hown
    have HLO : Hid (∀ k, Value.ownBlock (.slice a4 h c4) = some k → b < k ∧ w.heap.size ≤ k) := hide (fun k hk => ⟨by have := (hown.lt k hk).1; omega, by have := (hown.lt k hk).1; omega⟩)
    clear HBc hw hown hbg hwg
    have HBc := HBn
    clear HBn
    go_simp
    refine wpAnyH_ready (rs := [9]) (by kernel_rfl) (by simp) ?_
    refine AllReadyH.cons rfl (fun K1 hK1 => ?_) AllReadyH.nil
    rw [if_pos (by rfl)]
    refine wp_append_rd W1 _ _ rfl W3.heap.size _ h (S.drop h) rfl HOc.out _ h c (S.take h) rfl (HRU.out _ HBc.out) (by omega) HSZ.out ?_
    intro v' W2 hO' hG'
    have hOn : W2.ownsRow W3.heap.size 3 1 v' n ((rot p S).map (Value.int .i64)) := by
      have e1 : S.drop h ++ S.take h = rot p S := by rw [HH.out]; rfl
      rw [e1, HHH.out] at hO'
      exact hO'
    obtain ⟨a', c', hv'⟩ := slice_form hOn
    rw [hv'] at hOn ⊢
    have hkp : Keeps (fun k => Value.ownBlock (.slice a4 h c4) = some k) W1 W2 := ⟨hG'.os, hG'.tape, hG'.output, hG'.size, fun i hi hx => hG'.block i hi (fun e => hx e.symm)⟩
    refine hK1.out _ _ (SW.keeps hkp (fun e => by have := (HLO.out b e).1; omega)) (fun SW1 => ?_)
    clear hK1 K1 SW
    have SW := SW1
    clear SW1
    have HBn := hide (HBc.out.grown hG' HBc.out.size (fun k hk => (HLO.out k hk).2))
    have HYn := hide (HYc.out.keeps hkp (fun e => HNE.out y e rfl))
    clear HYc HNE
    have HYc := HYn
    clear HYn
    have HRX := hide hOn
    clear HBc HOc hO' hG' hv' hOn hkp HSZ
    have HBc := HBn
    clear HBn
    go_simp
    refine wpAnyH_take (i := 13) (v := .agg #[.slice a' n c', .int .i64 v]) rfl (by kernel_rfl) (by kernel_rfl) (by kernel_rfl) (fun _ _ _ h => h) (Or.inl ⟨by rfl, ?_⟩) SW ?_
    · intro W hW
      go_simp <;> first | done | rfl | (rw [IntKind.wrap_i64]; omega) | (intro hh; exfalso; omega) | omega
    go_simp
    refine wpAnyH_ready (rs := [15]) (by kernel_rfl) (by simp) ?_
    refine AllReadyH.cons rfl (fun K1 hK1 => ?_) AllReadyH.nil
    rw [if_pos (by rfl)]
    have hb' : W2.heap[y]? = _ := HYc.out
    refine wp_store_row 24 _ _ rfl y (mA a' n c' v) rfl rfl 24 _ hb' size24 rfl (by simp [Value.oneCell']) ?_
    have hk2 : Keeps (fun k => k = y) W2 (W2.setRow y (mA a' n c' v)) := ⟨rfl, rfl, rfl, by simp [World.setRow], fun k _ hk => by simp [World.setRow, Array.getElem?_modify, show ¬ y = k from fun e => hk e.symm]⟩
    have hm2 : Mn (W2.setRow y (mA a' n c' v)) y a' n c' v := by simp [Mn, World.setRow, Array.getElem?_modify, hb']
    refine hK1.out _ _ (SW.keeps hk2 (by omega)) (fun _ => ?_)
    clear hK1 K1
    refine wpAnyH_done (by kernel_rfl) ?_ _
    go_wp2_with fail
    go_meet
    case rel =>
      exact ⟨y, a', c', rfl, hm2, Rd.of_own (own_keepsM HRX.out hk2 HYc.out), HBc.out.trans (hk2.below HBc.out.size (fun k hk e => by omega))⟩
  case rest =>
    obtain ⟨y, a', c', rfl, HMY, HRY, HBY⟩ := hcut
    clear HM4 HB4 x0
    have HRL : Hid ((rot p S).length = 2 * (p + 1)) := hide (rot_length hlh.out)
    have HRM : Hid (mayB (rot p S) (v : Int) = true) := hide (may_mk hp1 hp hv1 HRL.out (hf.rot hlh.out))
    have HRI : Hid (inAll p (rot p S) = inAll p S) := hide (by unfold inAll; rw [inP_tau0 hlh.out, inP_tau1 hlh.out]; omega)
    have HRFT : Hid (Fit p (rot p S)) := hide (hf.rot hlh.out)
    go_wp2_with (first | refine wpList_load_mn rfl _ rfl y rfl HMY.out ?_)
    refine (Value_size a' n c' p v (rot p S) _ HRY.out hn HRL hp hv1 HRFT.out HRM (by rw [HRI.out]; exact hq)).mono ?_
    rintro e w6 ⟨rfl, hw⟩
    have HB6 := hide (HBY.out.trans (hw.mono HBY.out.size))
    clear hw
    go_wp2
    go_ret
    exact ⟨rfl, by first | exact HB6.out | (rw [← hbe]; exact HB6.out)⟩

set_option maxRecDepth 100000 in
set_option maxHeartbeats 4000000 in
theorem turns_ok (sb off n c p u : Nat) (S : List Int) (w : World) (hR : Rd w (some ⟨sb, off, none⟩) n c S) (hn : Hid (n = 2 * (p + 1))) (hlh : Hid (S.length = 2 * (p + 1))) (hp1 : 1 ≤ p) (hp : p ≤ 6) (hu : u ≤ 1) (hf : Fit p S) (hm : Hid (mayB S (u : Int) = true)) (hq : Hid (inAll p S ≤ 4)) :
    Calls Try.prog 7 #[.agg (mA (some ⟨sb, off, none⟩) n c u)] w fun e w' => e = .returned (.bool true) ∧ Below w.heap.size w w' := by
  obtain ⟨vx, vy, hvv⟩ : ∃ vx vy, val p u S = (vx, vy) := ⟨_, _, rfl⟩
  have HVV := hide hvv
  have HVB : Hid (-1000 ≤ vx ∧ vx ≤ 1000) := hide (by
    have := val_bd hp (ms p S + 1) u S (Nat.lt_succ_self _) hu (by have := hlh.out; omega) hf
    rw [hvv] at this
    exact this)
  clear hvv
  obtain ⟨w0, hw0⟩ : ∃ w0, w.alloc (Obj.cells (mA (some ⟨sb, off, none⟩) n c u) 24) = w0 := ⟨_, rfl⟩
  have M0 : Mn w0 w.heap.size (some ⟨sb, off, none⟩) n c u := by rw [← hw0]; exact Mn.new w _ n c u
  have B0 : Below w.heap.size w w0 := by rw [← hw0]; exact (Below.refl _ w).alloc (Nat.le_refl _) _
  obtain ⟨b, hbe⟩ : ∃ b, w.heap.size = b := ⟨_, rfl⟩
  rw [hbe] at M0
  have HM0 := hide M0
  have HB0 := hide B0
  have HR := hide hR
  clear M0 B0 hR
  have BQ : Blk (w0.alloc (Obj.cells #[.int .i64 1, .int .i64 0, .int .i64 1, .int .i64 0] 3)) w0.heap.size 3 [1, 0, 1, 0] := Blk.new w0 3 [1, 0, 1, 0] _ rfl
  have HRQ := hide (BQ.rd (n := 4) rfl (by unfold maxLen; omega))
  have AB := (Below.refl w0.heap.size w0).alloc (Nat.le_refl _) (Obj.cells #[.int .i64 1, .int .i64 0, .int .i64 1, .int .i64 0] 3)
  have HM1 := hide (HM0.out.below AB HM0.out.lt)
  have HB1 := hide (HB0.out.trans (AB.mono HB0.out.size))
  have HQM : Hid (mayB [1, 0, 1, 0] ((0 : Nat) : Int) = true) := hide (by decide +kernel)
  have HQF : Hid (Fit 1 [1, 0, 1, 0]) := hide fit_one
  have HQI : Hid (inAll 1 [1, 0, 1, 0] ≤ 4) := hide (by decide +kernel)
  clear AB BQ HM0 HB0
  go_enter Try.func7, Try.ntmps7
  go_wp2_with fail
  refine (Value_ok _ 4 4 1 0 [1, 0, 1, 0] _ HRQ.out rfl rfl (by omega) (by omega) HQF.out HQM HQI).mono ?_
  rintro e w2 ⟨rfl, hw⟩
  rw [val_one]
  have HM2 := hide (HM1.out.below hw HM1.out.lt)
  have HB2 := hide (HB1.out.trans (hw.mono HB1.out.size))
  clear hw HM1 HB1 HRQ
  go_wp2_with (first | refine wpList_load_mn rfl _ rfl b rfl HM2.out ?_)
  refine (Value_ok _ n c p u S _ (HR.out.mono HB2.out) hn hlh hp hu hf hm hq).mono ?_
  rintro e w3 ⟨rfl, hw⟩
  rw [HVV.out]
  have HM3 := hide (HM2.out.below hw HM2.out.lt)
  have HB3 := hide (HB2.out.trans (hw.mono HB2.out.size))
  clear hw HM2 HB2
  go_wp2_with (first | refine wpList_load_mn rfl _ rfl b rfl HM3.out ?_)
  refine (May_any _ n c u S _ (HR.out.mono HB3.out) (by omega) (by omega)).mono ?_
  rintro e w4 ⟨rfl, hw⟩
  rw [hm.out]
  have HM4 := hide (HM3.out.below hw HM3.out.lt)
  have HB4 := hide (HB3.out.trans (hw.mono HB3.out.size))
  clear hw HM3 HB3
  have HCN : Hid (n ≤ c) := hide HR.out.cap
  have hcm := HR.out.max
  unfold maxLen at hcm
  obtain ⟨h, hh⟩ : ∃ h, p + 1 = h := ⟨_, rfl⟩
  have hn' := hn.out
  have hq2 : (n : Int) / 2 = (h : Int) := by omega
  have hnh : n - h = h := by omega
  have HHH : Hid (h + h = n) := hide (by omega)
  have HH : Hid (h = p + 1) := hide hh.symm
  have hh7 : h ≤ 7 := by omega
  have hh1 : 1 ≤ h := by omega
  have hhn : h ≤ n := by omega
  have hcn := HCN.out
  have hhc : ¬ c = h := by omega
  have hhc2 : h ≤ c := by omega
  obtain ⟨v, hv⟩ : ∃ v, 1 - u = v := ⟨_, rfl⟩
  have hvi : 1 - (u : Int) = (v : Int) := by omega
  have HVE : Hid (1 - u = v) := hide hv
  have hv1 : v ≤ 1 := by omega
  have HRF : Hid (∀ W, Below w.heap.size w W → Rd W (some ⟨sb, off + h, none⟩) h (c - h) (S.drop h)) := hide (fun W hW => by
    have := (HR.out.mono hW).from (k := h) (by omega)
    rw [if_neg hhc, hnh] at this
    simpa [Addr.add_lit] using this)
  have HRU : Hid (∀ W, Below w.heap.size w W → Rd W (some ⟨sb, off, none⟩) h c (S.take h)) := hide (fun W hW => (HR.out.mono hW).upto (k := h) (by omega))
  have x0 := HM4.out.seeds
  clear hh hn' hv HCN
  have hhi : (h : Int) ≤ (n : Int) := by omega
  have hhi2 : (h : Int) ≤ (c : Int) := by omega
  have hnci : (n : Int) ≤ (c : Int) := by omega
  go_upto_region 8 with fail
  go_cut [9] (fun x wc => ∃ (y : Nat) (a' : Option Addr) (c' : Nat), x = .pointer (some ⟨y, 0, none⟩) ∧ Hid (Mn wc y a' n c' v) ∧ Hid (Rd wc a' n c' (rot p S)) ∧ Hid (Below w.heap.size w wc))
  case first =>
    have HMc := HM4
    have HBd := HB4
    clear HM4 HB4 x0
    refine wp_region_held (S := fun W => Mn W b (some ⟨sb, off, none⟩) n c u) (by kernel_rfl) ?_
    change wpAnyH _ _ _ _ _ _ _ _ (World.drew _)
    obtain ⟨V0, hV0⟩ : ∃ V0, World.drew w4 = V0 := ⟨_, rfl⟩
    have SW : Mn V0 b (some ⟨sb, off, none⟩) n c u := by rw [← hV0]; exact HMc.out
    have HBc : Hid (Below w.heap.size w V0) := hide (by rw [← hV0]; exact HBd.out.drew)
    rw [hV0]
    clear hV0 HMc HBd
    refine wpAnyH_take (i := 0) (v := .pointer (some ⟨b, 0, none⟩)) rfl (by kernel_rfl) (by kernel_rfl) (by kernel_rfl) (fun _ _ _ h => h) (Or.inl ⟨by rfl, ?_⟩) SW ?_
    · intro W hW
      go_simp <;> first | done | rfl | (rw [IntKind.wrap_i64]; omega) | (intro hh; exfalso; omega) | omega
    go_simp
    refine wpAnyH_take (i := 1) (v := .slice (some ⟨sb, off, none⟩) n c) rfl (by kernel_rfl) (by kernel_rfl) (by kernel_rfl) (fun _ _ _ h => h) (Or.inl ⟨by rfl, ?_⟩) SW ?_
    · intro W hW
      have hcell := hW.seeds
      go_simp <;> first | done | rfl | (rw [IntKind.wrap_i64]; omega) | (intro hh; exfalso; omega) | omega
    go_simp
    refine wpAnyH_take (i := 2) (v := .int .i64 h) rfl (by kernel_rfl) (by kernel_rfl) (by kernel_rfl) (fun _ _ _ h => h) (Or.inl ⟨by rfl, ?_⟩) SW ?_
    · intro W hW
      go_simp <;> first | done | rfl | (rw [IntKind.wrap_i64]; omega) | (intro hh; exfalso; omega) | omega
    go_simp
    refine wpAnyH_take (i := 3) (v := .slice (some ⟨sb, off + h, none⟩) h (c - h)) rfl (by kernel_rfl) (by kernel_rfl) (by kernel_rfl) (fun _ _ _ h => h) (Or.inl ⟨by rfl, ?_⟩) SW ?_
    · intro W hW
      go_simp <;> first | done | rfl | (rw [IntKind.wrap_i64]; omega) | (intro hh; exfalso; omega) | omega
    go_simp
    refine wpAnyH_take (i := 5) (v := .pointer (some ⟨b, 0, none⟩)) rfl (by kernel_rfl) (by kernel_rfl) (by kernel_rfl) (fun _ _ _ h => h) (Or.inl ⟨by rfl, ?_⟩) SW ?_
    · intro W hW
      go_simp <;> first | done | rfl | (rw [IntKind.wrap_i64]; omega) | (intro hh; exfalso; omega) | omega
    go_simp
    refine wpAnyH_take (i := 6) (v := .slice (some ⟨sb, off, none⟩) n c) rfl (by kernel_rfl) (by kernel_rfl) (by kernel_rfl) (fun _ _ _ h => h) (Or.inl ⟨by rfl, ?_⟩) SW ?_
    · intro W hW
      have hcell := hW.seeds
      go_simp <;> first | done | rfl | (rw [IntKind.wrap_i64]; omega) | (intro hh; exfalso; omega) | omega
    go_simp
    refine wpAnyH_take (i := 7) (v := .int .i64 h) rfl (by kernel_rfl) (by kernel_rfl) (by kernel_rfl) (fun _ _ _ h => h) (Or.inl ⟨by rfl, ?_⟩) SW ?_
    · intro W hW
      go_simp <;> first | done | rfl | (rw [IntKind.wrap_i64]; omega) | (intro hh; exfalso; omega) | omega
    go_simp
    refine wpAnyH_take (i := 8) (v := .slice (some ⟨sb, off, none⟩) h c) rfl (by kernel_rfl) (by kernel_rfl) (by kernel_rfl) (fun _ _ _ h => h) (Or.inl ⟨by rfl, ?_⟩) SW ?_
    · intro W hW
      go_simp <;> first | done | rfl | (rw [IntKind.wrap_i64]; omega) | (intro hh; exfalso; omega) | omega
    go_simp
    refine wpAnyH_take (i := 10) (v := .pointer (some ⟨b, 1, none⟩)) rfl (by kernel_rfl) (by kernel_rfl) (by kernel_rfl) (fun _ _ _ h => h) (Or.inl ⟨by rfl, ?_⟩) SW ?_
    · intro W hW
      go_simp <;> first | done | rfl | (rw [IntKind.wrap_i64]; omega) | (intro hh; exfalso; omega) | omega
    go_simp
    refine wpAnyH_take (i := 11) (v := .int .i64 u) rfl (by kernel_rfl) (by kernel_rfl) (by kernel_rfl) (fun _ _ _ h => h) (Or.inl ⟨by rfl, ?_⟩) SW ?_
    · intro W hW
      have hcell := hW.turn
      go_simp <;> first | done | rfl | (rw [IntKind.wrap_i64]; omega) | (intro hh; exfalso; omega) | omega
    go_simp
    refine wpAnyH_take (i := 12) (v := .int .i64 v) rfl (by kernel_rfl) (by kernel_rfl) (by kernel_rfl) (fun _ _ _ h => h) (Or.inl ⟨by rfl, ?_⟩) SW ?_
    · intro W hW
      go_simp <;> first | done | rfl | (rw [IntKind.wrap_i64]; omega) | (intro hh; exfalso; omega) | omega
    go_simp
    refine wpAnyH_ready (rs := [4, 14]) (by kernel_rfl) (by simp) ?_
    refine AllReadyH.cons rfl (fun K1 hK1 => ?_) ?_
    · go_simp
      refine (kInts_own _ h (c - h) (S.drop h) V0 (HRF.out _ HBc.out) (by omega)).mono ?_
      rintro e W1 ⟨a4, c4, rfl, hown, hw⟩
      have hbg := SW.lt
      have hwg := HBc.out.size
      refine hK1.out _ _ (SW.below hw SW.lt) (fun SW1 => ?_)
      clear hK1 K1 SW
      have SW := SW1
      clear SW1
      have HBn := hide (HBc.out.trans (hw.mono HBc.out.size))
      have HSZ : Hid (V0.heap.size ≤ W1.heap.size) := hide hw.size
      have HOc := hide hown
      have HLO : Hid (∀ k, Value.ownBlock (.slice a4 h c4) = some k → b < k ∧ w.heap.size ≤ k) := hide (fun k hk => ⟨by have := (hown.lt k hk).1; omega, by have := (hown.lt k hk).1; omega⟩)
      clear HBc hw hown hbg hwg
      have HBc := HBn
      clear HBn
      go_simp
      refine wpAnyH_ready (rs := [9, 14]) (by kernel_rfl) (by simp) ?_
      refine AllReadyH.cons rfl (fun K1 hK1 => ?_) ?_
      · rw [if_pos (by rfl)]
        refine wp_append_rd W1 _ _ rfl V0.heap.size _ h (S.drop h) rfl HOc.out _ h c (S.take h) rfl (HRU.out _ HBc.out) (by omega) HSZ.out ?_
        intro v' W2 hO' hG'
        have hOn : W2.ownsRow V0.heap.size 3 1 v' n ((rot p S).map (Value.int .i64)) := by
          have e1 : S.drop h ++ S.take h = rot p S := by rw [HH.out]; rfl
          rw [e1, HHH.out] at hO'
          exact hO'
        obtain ⟨a', c', hv'⟩ := slice_form hOn
        rw [hv'] at hOn ⊢
        have hkp : Keeps (fun k => Value.ownBlock (.slice a4 h c4) = some k) W1 W2 := ⟨hG'.os, hG'.tape, hG'.output, hG'.size, fun i hi hx => hG'.block i hi (fun e => hx e.symm)⟩
        refine hK1.out _ _ (SW.keeps hkp (fun e => by have := (HLO.out b e).1; omega)) (fun SW1 => ?_)
        clear hK1 K1 SW
        have SW := SW1
        clear SW1
        have HBn := hide (HBc.out.grown hG' HBc.out.size (fun k hk => (HLO.out k hk).2))
        have HRX := hide hOn
        clear HBc HOc hO' hG' hv' hOn hkp HSZ
        have HBc := HBn
        clear HBn
        go_simp
        refine wpAnyH_take (i := 13) (v := .agg #[.slice a' n c', .int .i64 v]) rfl (by kernel_rfl) (by kernel_rfl) (by kernel_rfl) (fun _ _ _ h => h) (Or.inl ⟨by rfl, ?_⟩) SW ?_
        · intro W hW
          go_simp <;> first | done | rfl | (rw [IntKind.wrap_i64]; omega) | (intro hh; exfalso; omega) | omega
        go_simp
        refine wpAnyH_ready (rs := [14]) (by kernel_rfl) (by simp) ?_
        refine AllReadyH.cons rfl (fun K1 hK1 => ?_) AllReadyH.nil
        go_simp
        refine hK1.out _ _ (SW.old _) (fun SW1 => ?_)
        have HYn := Mn.new W2 none 0 0 0
        have AB := (Below.refl W2.heap.size W2).alloc (Nat.le_refl _) (Obj.cells #[.slice none 0 0, .int .i64 0] 24)
        have HBn := HBc.out.trans (AB.mono HBc.out.size)
        have hby := SW.lt
        have HRXn := HRX.out.alloc (Obj.cells #[.slice none 0 0, .int .i64 0] 24)
        clear HRX
        clear hK1 K1 SW HBc AB
        go_simp
        obtain ⟨y, hy⟩ : ∃ y, W2.heap.size = y := ⟨_, rfl⟩
        obtain ⟨W3, hW3⟩ : ∃ W3, W2.alloc (Obj.cells #[.slice none 0 0, .int .i64 0] 24) = W3 := ⟨_, rfl⟩
        have SW := SW1
        clear SW1
        rw [hW3] at SW HBn ⊢
        have HYm : Mn W3 y none 0 0 0 := by rw [← hW3, ← hy]; exact HYn
        have HYc := hide HYm
        have HBc := hide HBn
        rw [hW3] at HRXn
        have HRX := hide HRXn
        clear HRXn
        have hby' : b < y := by omega
        rw [hy]
        clear hW3 HYn HBn HYm hy hby
        refine wpAnyH_ready (rs := [15]) (by kernel_rfl) (by simp) ?_
        refine AllReadyH.cons rfl (fun K1 hK1 => ?_) AllReadyH.nil
        rw [if_pos (by rfl)]
        have hb' : W3.heap[y]? = _ := HYc.out
        refine wp_store_row 24 _ _ rfl y (mA a' n c' v) rfl rfl 24 _ hb' size24 rfl (by simp [Value.oneCell']) ?_
        have hk2 : Keeps (fun k => k = y) W3 (W3.setRow y (mA a' n c' v)) := ⟨rfl, rfl, rfl, by simp [World.setRow], fun k _ hk => by simp [World.setRow, Array.getElem?_modify, show ¬ y = k from fun e => hk e.symm]⟩
        have hm2 : Mn (W3.setRow y (mA a' n c' v)) y a' n c' v := by simp [Mn, World.setRow, Array.getElem?_modify, hb']
        refine hK1.out _ _ (SW.keeps hk2 (by omega)) (fun _ => ?_)
        clear hK1 K1
        refine wpAnyH_done (by kernel_rfl) ?_ _
        go_wp2_with fail
        go_meet
        case rel =>
          exact ⟨y, a', c', rfl, hm2, Rd.of_own (own_keepsM HRX.out hk2 HYc.out), HBc.out.trans (hk2.below HBc.out.size (fun k hk e => by omega))⟩
      refine AllReadyH.cons rfl (fun K1 hK1 => ?_) AllReadyH.nil
      go_simp
      refine hK1.out _ _ (SW.old _) (fun SW1 => ?_)
      have HYn := Mn.new W1 none 0 0 0
      have AB := (Below.refl W1.heap.size W1).alloc (Nat.le_refl _) (Obj.cells #[.slice none 0 0, .int .i64 0] 24)
      have HBn := HBc.out.trans (AB.mono HBc.out.size)
      have hby := SW.lt
      have HOn := HOc.out.alloc (Obj.cells #[.slice none 0 0, .int .i64 0] 24)
      have HNE0 : ∀ j, Value.ownBlock (.slice a4 h c4) = some j → j ≠ W1.heap.size := fun j hj e => by have := (HOc.out.lt j hj).2; omega
      have hszn := Nat.le_trans HSZ.out AB.size
      clear HOc HSZ
      clear hK1 K1 SW HBc AB
      go_simp
      obtain ⟨y, hy⟩ : ∃ y, W1.heap.size = y := ⟨_, rfl⟩
      obtain ⟨W3, hW3⟩ : ∃ W3, W1.alloc (Obj.cells #[.slice none 0 0, .int .i64 0] 24) = W3 := ⟨_, rfl⟩
      have SW := SW1
      clear SW1
      rw [hW3] at SW HBn ⊢
      have HYm : Mn W3 y none 0 0 0 := by rw [← hW3, ← hy]; exact HYn
      have HYc := hide HYm
      have HBc := hide HBn
      rw [hW3] at HOn hszn
      rw [hy] at HNE0
      have HOc := hide HOn
      have HNE := hide HNE0
      have HSZ := hide hszn
      clear HOn HNE0 hszn
      have hby' : b < y := by omega
      rw [hy]
      clear hW3 HYn HBn HYm hy hby
      refine wpAnyH_ready (rs := [9]) (by kernel_rfl) (by simp) ?_
      refine AllReadyH.cons rfl (fun K1 hK1 => ?_) AllReadyH.nil
      rw [if_pos (by rfl)]
      refine wp_append_rd W3 _ _ rfl V0.heap.size _ h (S.drop h) rfl HOc.out _ h c (S.take h) rfl (HRU.out _ HBc.out) (by omega) HSZ.out ?_
      intro v' W2 hO' hG'
      have hOn : W2.ownsRow V0.heap.size 3 1 v' n ((rot p S).map (Value.int .i64)) := by
        have e1 : S.drop h ++ S.take h = rot p S := by rw [HH.out]; rfl
        rw [e1, HHH.out] at hO'
        exact hO'
      obtain ⟨a', c', hv'⟩ := slice_form hOn
      rw [hv'] at hOn ⊢
      have hkp : Keeps (fun k => Value.ownBlock (.slice a4 h c4) = some k) W3 W2 := ⟨hG'.os, hG'.tape, hG'.output, hG'.size, fun i hi hx => hG'.block i hi (fun e => hx e.symm)⟩
      refine hK1.out _ _ (SW.keeps hkp (fun e => by have := (HLO.out b e).1; omega)) (fun SW1 => ?_)
      clear hK1 K1 SW
      have SW := SW1
      clear SW1
      have HBn := hide (HBc.out.grown hG' HBc.out.size (fun k hk => (HLO.out k hk).2))
      have HYn := hide (HYc.out.keeps hkp (fun e => HNE.out y e rfl))
      clear HYc HNE
      have HYc := HYn
      clear HYn
      have HRX := hide hOn
      clear HBc HOc hO' hG' hv' hOn hkp HSZ
      have HBc := HBn
      clear HBn
      go_simp
      refine wpAnyH_take (i := 13) (v := .agg #[.slice a' n c', .int .i64 v]) rfl (by kernel_rfl) (by kernel_rfl) (by kernel_rfl) (fun _ _ _ h => h) (Or.inl ⟨by rfl, ?_⟩) SW ?_
      · intro W hW
        go_simp <;> first | done | rfl | (rw [IntKind.wrap_i64]; omega) | (intro hh; exfalso; omega) | omega
      go_simp
      refine wpAnyH_ready (rs := [15]) (by kernel_rfl) (by simp) ?_
      refine AllReadyH.cons rfl (fun K1 hK1 => ?_) AllReadyH.nil
      rw [if_pos (by rfl)]
      have hb' : W2.heap[y]? = _ := HYc.out
      refine wp_store_row 24 _ _ rfl y (mA a' n c' v) rfl rfl 24 _ hb' size24 rfl (by simp [Value.oneCell']) ?_
      have hk2 : Keeps (fun k => k = y) W2 (W2.setRow y (mA a' n c' v)) := ⟨rfl, rfl, rfl, by simp [World.setRow], fun k _ hk => by simp [World.setRow, Array.getElem?_modify, show ¬ y = k from fun e => hk e.symm]⟩
      have hm2 : Mn (W2.setRow y (mA a' n c' v)) y a' n c' v := by simp [Mn, World.setRow, Array.getElem?_modify, hb']
      refine hK1.out _ _ (SW.keeps hk2 (by omega)) (fun _ => ?_)
      clear hK1 K1
      refine wpAnyH_done (by kernel_rfl) ?_ _
      go_wp2_with fail
      go_meet
      case rel =>
        exact ⟨y, a', c', rfl, hm2, Rd.of_own (own_keepsM HRX.out hk2 HYc.out), HBc.out.trans (hk2.below HBc.out.size (fun k hk e => by omega))⟩
    refine AllReadyH.cons rfl (fun K1 hK1 => ?_) AllReadyH.nil
    go_simp
    refine hK1.out _ _ (SW.old _) (fun SW1 => ?_)
    have HYn := Mn.new V0 none 0 0 0
    have AB := (Below.refl V0.heap.size V0).alloc (Nat.le_refl _) (Obj.cells #[.slice none 0 0, .int .i64 0] 24)
    have HBn := HBc.out.trans (AB.mono HBc.out.size)
    have hby := SW.lt
    clear hK1 K1 SW HBc AB
    go_simp
    obtain ⟨y, hy⟩ : ∃ y, V0.heap.size = y := ⟨_, rfl⟩
    obtain ⟨W3, hW3⟩ : ∃ W3, V0.alloc (Obj.cells #[.slice none 0 0, .int .i64 0] 24) = W3 := ⟨_, rfl⟩
    have SW := SW1
    clear SW1
    rw [hW3] at SW HBn ⊢
    have HYm : Mn W3 y none 0 0 0 := by rw [← hW3, ← hy]; exact HYn
    have HYc := hide HYm
    have HBc := hide HBn
    have hby' : b < y := by omega
    rw [hy]
    clear hW3 HYn HBn HYm hy hby
    refine wpAnyH_ready (rs := [4]) (by kernel_rfl) (by simp) ?_
    refine AllReadyH.cons rfl (fun K1 hK1 => ?_) AllReadyH.nil
    go_simp
    refine (kInts_own _ h (c - h) (S.drop h) W3 (HRF.out _ HBc.out) (by omega)).mono ?_
    rintro e W1 ⟨a4, c4, rfl, hown, hw⟩
    have hbg := SW.lt
    have hwg := HBc.out.size
    refine hK1.out _ _ (SW.below hw SW.lt) (fun SW1 => ?_)
    clear hK1 K1 SW
    have SW := SW1
    clear SW1
    have HBn := hide (HBc.out.trans (hw.mono HBc.out.size))
    have HSZ : Hid (W3.heap.size ≤ W1.heap.size) := hide hw.size
    have HYn := hide (HYc.out.below hw HYc.out.lt)
    have hyg := HYc.out.lt
    have HNE : Hid (∀ j, Value.ownBlock (.slice a4 h c4) = some j → j ≠ y) := hide (fun j hj e => by have := (hown.lt j hj).1; omega)
    clear HYc
    have HYc := HYn
    clear HYn hyg
    have HOc := hide hown
    have HLO : Hid (∀ k, Value.ownBlock (.slice a4 h c4) = some k → b < k ∧ w.heap.size ≤ k) := hide (fun k hk => ⟨by have := (hown.lt k hk).1; omega, by have := (hown.lt k hk).1; omega⟩)
    clear HBc hw hown hbg hwg
    have HBc := HBn
    clear HBn
    go_simp
    refine wpAnyH_ready (rs := [9]) (by kernel_rfl) (by simp) ?_
    refine AllReadyH.cons rfl (fun K1 hK1 => ?_) AllReadyH.nil
    rw [if_pos (by rfl)]
    refine wp_append_rd W1 _ _ rfl W3.heap.size _ h (S.drop h) rfl HOc.out _ h c (S.take h) rfl (HRU.out _ HBc.out) (by omega) HSZ.out ?_
    intro v' W2 hO' hG'
    have hOn : W2.ownsRow W3.heap.size 3 1 v' n ((rot p S).map (Value.int .i64)) := by
      have e1 : S.drop h ++ S.take h = rot p S := by rw [HH.out]; rfl
      rw [e1, HHH.out] at hO'
      exact hO'
    obtain ⟨a', c', hv'⟩ := slice_form hOn
    rw [hv'] at hOn ⊢
    have hkp : Keeps (fun k => Value.ownBlock (.slice a4 h c4) = some k) W1 W2 := ⟨hG'.os, hG'.tape, hG'.output, hG'.size, fun i hi hx => hG'.block i hi (fun e => hx e.symm)⟩
    refine hK1.out _ _ (SW.keeps hkp (fun e => by have := (HLO.out b e).1; omega)) (fun SW1 => ?_)
    clear hK1 K1 SW
    have SW := SW1
    clear SW1
    have HBn := hide (HBc.out.grown hG' HBc.out.size (fun k hk => (HLO.out k hk).2))
    have HYn := hide (HYc.out.keeps hkp (fun e => HNE.out y e rfl))
    clear HYc HNE
    have HYc := HYn
    clear HYn
    have HRX := hide hOn
    clear HBc HOc hO' hG' hv' hOn hkp HSZ
    have HBc := HBn
    clear HBn
    go_simp
    refine wpAnyH_take (i := 13) (v := .agg #[.slice a' n c', .int .i64 v]) rfl (by kernel_rfl) (by kernel_rfl) (by kernel_rfl) (fun _ _ _ h => h) (Or.inl ⟨by rfl, ?_⟩) SW ?_
    · intro W hW
      go_simp <;> first | done | rfl | (rw [IntKind.wrap_i64]; omega) | (intro hh; exfalso; omega) | omega
    go_simp
    refine wpAnyH_ready (rs := [15]) (by kernel_rfl) (by simp) ?_
    refine AllReadyH.cons rfl (fun K1 hK1 => ?_) AllReadyH.nil
    rw [if_pos (by rfl)]
    have hb' : W2.heap[y]? = _ := HYc.out
    refine wp_store_row 24 _ _ rfl y (mA a' n c' v) rfl rfl 24 _ hb' size24 rfl (by simp [Value.oneCell']) ?_
    have hk2 : Keeps (fun k => k = y) W2 (W2.setRow y (mA a' n c' v)) := ⟨rfl, rfl, rfl, by simp [World.setRow], fun k _ hk => by simp [World.setRow, Array.getElem?_modify, show ¬ y = k from fun e => hk e.symm]⟩
    have hm2 : Mn (W2.setRow y (mA a' n c' v)) y a' n c' v := by simp [Mn, World.setRow, Array.getElem?_modify, hb']
    refine hK1.out _ _ (SW.keeps hk2 (by omega)) (fun _ => ?_)
    clear hK1 K1
    refine wpAnyH_done (by kernel_rfl) ?_ _
    go_wp2_with fail
    go_meet
    case rel =>
      exact ⟨y, a', c', rfl, hm2, Rd.of_own (own_keepsM HRX.out hk2 HYc.out), HBc.out.trans (hk2.below HBc.out.size (fun k hk e => by omega))⟩
  case rest =>
    obtain ⟨y, a', c', rfl, HMY, HRY, HBY⟩ := hcut
    clear HM4 HB4 x0
    have HRL : Hid ((rot p S).length = 2 * (p + 1)) := hide (rot_length hlh.out)
    have HRM : Hid (mayB (rot p S) (v : Int) = true) := hide (may_mk hp1 hp hv1 HRL.out (hf.rot hlh.out))
    have HRI : Hid (inAll p (rot p S) = inAll p S) := hide (by unfold inAll; rw [inP_tau0 hlh.out, inP_tau1 hlh.out]; omega)
    have HRFT : Hid (Fit p (rot p S)) := hide (hf.rot hlh.out)
    go_wp2_with (first | refine wpList_load_mn rfl _ rfl y rfl HMY.out ?_)
    refine (Value_ok a' n c' p v (rot p S) _ HRY.out hn HRL hp hv1 HRFT.out HRM (by rw [HRI.out]; exact hq)).mono ?_
    rintro e w6 ⟨rfl, hw⟩
    rw [show val p v (rot p S) = (-vx, vy) from by
      have := val_tau hp (ms p S + 1) u S (Nat.lt_succ_self _) hu hlh.out hf
      rw [HVE.out, HVV.out] at this
      exact this]
    have HB6 := hide (HBY.out.trans (hw.mono HBY.out.size))
    clear hw
    have hb1 := HVB.out.1
    have hb2 := HVB.out.2
    have hxx : (-vx == -vx) = true := by simp
    have hyy : (vy == vy) = true := by simp
    go_wp2
    go_ret
    exact ⟨rfl, by first | exact HB6.out | (rw [← hbe]; exact HB6.out)⟩

theorem turns_any (a : Option Addr) (n c : Nat) (t : Int) (S : List Int) (w : World) (hR : Rd w a n c S) (ht1 : -9223372036854775808 ≤ t) (ht2 : t ≤ 9223372036854775807) :
    Calls Try.prog 7 #[.agg (mA a n c t)] w fun e w' => e = .returned (.bool true) ∧ Below w.heap.size w w' := by
  cases hm : mayB S t with
  | false => exact turns_state a n c t S w hR ht1 ht2 hm
  | true =>
    obtain ⟨p, u, hp1, hp, hu, rfl, hl, hf⟩ := may_parts hm
    have hn : n = 2 * (p + 1) := by rw [← hR.len]; exact hl
    obtain ⟨sb, off, rfl, -⟩ := hR.cells (by omega)
    by_cases hq : 4 < inAll p S
    · exact turns_size sb off n c p u S w hR hn hl hp1 hp hu hf hm hq
    · exact turns_ok sb off n c p u S w hR hn hl hp1 hp hu hf hm (show inAll p S ≤ 4 by omega)

end Go.Proofs.Ytmdnoiebodaikaa
