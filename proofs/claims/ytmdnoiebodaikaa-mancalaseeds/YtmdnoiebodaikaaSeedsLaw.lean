/-
  The law that no seed is lost, walked. No conditions beyond those that each theorem bears.
-/
import Derived.Test.YtmdnoiebodaikaaSowG
import Derived.Test.YtmdnoiebodaikaaNewsLaw
namespace Go.Proofs.Ytmdnoiebodaikaa
open Go.RowKit

theorem Blk.ne_mn {w : World} {g y : Nat} {S : List Int} {ad : Option Addr} {m d : Nat} {t : Int} (h : Blk w g 3 S) (hy : Mn w y ad m d t) : g ≠ y := by
  intro e
  subst e
  have h' : w.heap[g]? = some (.cells (ivs S).toArray 3 (0, 0)) := h
  have hy' : w.heap[g]? = some (.cells (mA ad m d t) 24 (0, 0)) := hy
  rw [h'] at hy'
  simp at hy'

theorem sumN_const (s : Int) : ∀ k, sumN k (fun _ => s) = (k : Int) * s
  | 0 => by simp [sumN]
  | k + 1 => by
    rw [sumN, sumN_const s k, show ((k + 1 : Nat) : Int) = (k : Int) + 1 by omega, Int.add_mul]
    omega

theorem newL_pits {p x : Nat} (hx : x ≤ 1) (s : Int) : inP p x (newL p s (2 * (p + 1))) = (p : Int) * s := by
  unfold inP
  rw [← sumN_const]
  refine sumN_congr p fun i hi => ?_
  rw [newL_getD _ _ _ _ (pl_lt hx (by omega))]
  unfold pl
  rw [Nat.add_comm, Nat.add_mul_mod_self_right, Nat.mod_eq_of_lt (by omega), if_neg (by omega)]

theorem newL_tot (p : Nat) (s : Int) : tot p (newL p s (2 * (p + 1))) = 2 * (p : Int) * s := by
  rw [tot_parts, newL_pits (by omega), newL_pits (by omega), newL_getD _ _ _ _ (by omega), newL_getD _ _ _ _ (by omega)]
  rw [Nat.mod_eq_of_lt (show p < p + 1 by omega), if_pos rfl, show 2 * p + 1 = p + (p + 1) by omega, Nat.add_mod_right, Nat.mod_eq_of_lt (show p < p + 1 by omega), if_pos rfl, Int.mul_assoc]
  omega

theorem newL_fit {p : Nat} (hp : p ≤ 6) {s : Int} (h0 : 0 ≤ s) (h1 : s ≤ 10) : Fit p (newL p s (2 * (p + 1))) := by
  refine ⟨fun i hi => ?_, ?_⟩
  · rw [newL_getD _ _ _ _ hi]
    split <;> omega
  · rw [newL_tot]
    have : 2 * (p : Int) * s ≤ 2 * 6 * 10 := Int.mul_le_mul (by omega) h1 h0 (by omega)
    omega

/-- mancala.Sow of one of the mover's pits. -/
theorem Sow_pit (g n p u : Nat) (S : List Int) (w : World) (hK : Blk w g 3 S) (hn : n = 2 * (p + 1)) (hl : S.length = 2 * (p + 1)) (hp1 : 1 ≤ p) (hp : p ≤ 6) (hu : u ≤ 1) (hf : Fit p S) (q : Nat) (hq : q < p) :
    Calls Try.prog 13 #[.agg (mA (some ⟨g, 0, none⟩) n n u), .int .i64 q] w fun e w' => ∃ (a2 : Option Addr) (m2 c2 g2 ut : Nat) (ag : Bool) (er : Nat), e = .returned (.tuple #[.agg (mA a2 m2 c2 ut), .bool ag, .int .i64 er]) ∧ Below w.heap.size w w' ∧ ((er = 9 ∨ er = 10) ∨ (er = 0 ∧ a2 = some ⟨g2, 0, none⟩ ∧ m2 = n ∧ c2 = n ∧ Blk w' g2 3 (sowS p u q S) ∧ ut = sowT p u q S ∧ ag = agB p u q S)) := by
  have hm := may_mk hp1 hp hu hl hf
  have hR : Rd w (some ⟨g, 0, none⟩) n n S := hK.rd (by rw [hl, hn]) (by unfold maxLen; omega)
  cases hov : overB p S with
  | true => exact (Sow_over _ n n p u S w hR hn hl hp hu hf hm hov q).mono fun e w' h => ⟨none, 0, 0, 0, 0, false, 9, h.1, h.2, Or.inl (Or.inl rfl)⟩
  | false =>
    by_cases hz : S.getD (pl p u q) 0 = 0
    · exact (Sow_none _ n n p u S w hR hn hl hp hu hf hm hov q hq hz).mono fun e w' h => ⟨none, 0, 0, 0, 0, false, 10, h.1, h.2, Or.inl (Or.inr rfl)⟩
    · exact (Sow_okB _ n n p u S w hR hn hl hp hu hf hm hov q hq hz).mono fun e w' ⟨g2, h1, h2, h3⟩ => ⟨some ⟨g2, 0, none⟩, n, n, g2, _, _, 0, by rw [hn]; exact h1, h3, Or.inr ⟨rfl, rfl, rfl, rfl, h2, rfl, rfl⟩⟩

theorem sowT_le' {p u q : Nat} {S : List Int} (hu : u ≤ 1) : sowT p u q S ≤ 1 := by
  unfold sowT
  split <;> omega

theorem ag_turn {p u q : Nat} {S : List Int} (hu : u ≤ 1) : (((sowT p u q S : Nat) : Int) == (u : Int)) = agB p u q S := by
  unfold sowT
  cases agB p u q S
  · simp; omega
  · simp

set_option maxRecDepth 100000 in
set_option maxHeartbeats 4000000 in
theorem seedsLaw_any (pits seeds : Int) (la : Option Addr) (ln lc : Nat) (zs : List Int) (w : World) (hL : Rd w la ln lc zs) (hz : ∀ x ∈ zs, -9223372036854775808 ≤ x ∧ x ≤ 9223372036854775807)
    (hp0 : -9223372036854775808 ≤ pits ∧ pits ≤ 9223372036854775807) (hs0 : -9223372036854775808 ≤ seeds ∧ seeds ≤ 9223372036854775807) :
    Calls Try.prog 6 #[.int .i64 pits, .int .i64 seeds, .slice la ln lc] w fun e w' => e = .returned (.bool true) ∧ Below w.heap.size w w' := by
  have hlm := hL.max
  have hlc := hL.cap
  unfold maxLen at hlm
  have HL := hide hL
  have HZ := hide hz
  obtain ⟨p, hpe⟩ : ∃ p, 1 + pk pits 6 = p := ⟨_, rfl⟩
  have hpk := pk_lt pits 6 (by omega)
  have hp1 : 1 ≤ p := by omega
  have hp : p ≤ 6 := by omega
  have hpi : 1 + ((pk pits 6 : Nat) : Int) = (p : Int) := by omega
  obtain ⟨k, hke⟩ : ∃ k, pk seeds 11 = k := ⟨_, rfl⟩
  have hkl : k ≤ 10 := by have := pk_lt seeds 11 (by omega); omega
  have HKE := hide hke
  have HP1 := hide (picked_any pits 6 w hp0.1 hp0.2 (by omega) (by omega))
  have HP2 := hide (picked_any seeds 11 w hs0.1 hs0.2 (by omega) (by omega))
  obtain ⟨n, hn⟩ : ∃ n, 2 * (p + 1) = n := ⟨_, rfl⟩
  have HN : Hid (n = 2 * (p + 1)) := hide hn.symm
  have HN2 := hide hn
  have hn14 : n ≤ 14 := by omega
  obtain ⟨M, hM⟩ : ∃ M : Int, 2 * (p : Int) * (k : Int) = M := ⟨_, rfl⟩
  have hM0 : 0 ≤ M := by rw [← hM]; exact Int.mul_nonneg (by omega) (by omega)
  have hM1 : M ≤ 120 := by
    have : 2 * (p : Int) * (k : Int) ≤ 2 * 6 * 10 := Int.mul_le_mul (by omega) (by omega) (by omega) (by omega)
    omega
  have HFN : Hid (Fit p (newL p (k : Int) n)) := hide (by rw [← hn]; exact newL_fit hp (by omega) (by omega))
  have HTN : Hid (tot p (newL p (k : Int) n) = M) := hide (by rw [← hn, newL_tot]; exact hM)
  have HLN : Hid ((newL p (k : Int) n).length = n) := hide (newL_length _ _ _)
  have HMM := hide hM
  clear hL hz hp0 hs0 hpe hke hn hM hpk
  generalize pk pits 6 = pp at *
  go_enter Try.func6, Try.ntmps6
  go_wp2_with fail
  refine HP1.out.mono ?_
  rintro e w1 ⟨rfl, hw⟩
  subst w1
  go_wp2_with fail
  refine HP2.out.mono ?_
  rintro e w1 ⟨rfl, hw⟩
  subst w1
  rw [HKE.out]
  go_wp2_with fail
  refine (New_yes p (k : Int) hp1 hp (by omega) (by omega) _).mono ?_
  rintro e w1 ⟨g0, rfl, hbg, -, hw⟩
  rw [HN2.out] at hbg ⊢
  have AB := (Below.refl w1.heap.size w1).alloc (Nat.le_refl _) (Obj.cells #[.slice (some ⟨g0, 0, none⟩) n n, .int .i64 0] 24)
  have M9 := Mn.new w1 (some ⟨g0, 0, none⟩) n n 0
  have HK2 := hide (hbg.below AB hbg.lt)
  have HB2 := hide (hw.trans (AB.mono hw.size))
  have HM2 := hide M9
  have hwb : w.heap.size ≤ w1.heap.size := hw.size
  clear hw hbg AB M9 HP1 HP2
  go_upto_region 3 with fail
  obtain ⟨b9, hb9⟩ : ∃ b9, w1.heap.size = b9 := ⟨_, rfl⟩
  obtain ⟨w2, hw2⟩ : ∃ w2, w1.alloc (Obj.cells #[.slice (some ⟨g0, 0, none⟩) n n, .int .i64 0] 24) = w2 := ⟨_, rfl⟩
  rw [hw2] at HK2 HB2 ⊢
  have HM3 : Hid (Mn w2 b9 (some ⟨g0, 0, none⟩) n n ((0 : Nat) : Int)) := hide (by rw [← hw2, ← hb9]; exact HM2.out)
  rw [hb9] at hwb ⊢
  have hwb9 := hwb
  clear hw2 hb9 HM2 hwb
  have HMY : Hid (mayB (newL p (k : Int) n) ((0 : Nat) : Int) = true) := hide (may_mk hp1 hp (by omega) (by rw [HLN.out, HN.out]) HFN.out)
  go_wp2_with (first | refine wpList_load_mn rfl _ rfl b9 rfl HM3.out ?_)
  refine (May_any (some ⟨g0, 0, none⟩) n n ((0 : Nat) : Int) (newL p (k : Int) n) _ (HK2.out.rd HLN.out (by unfold maxLen; omega)) (by omega) (by omega)).mono ?_
  rintro e w3 ⟨rfl, hw⟩
  rw [HMY.out]
  have HK3 := hide (HK2.out.below hw HK2.out.lt)
  have HM4 := hide (HM3.out.below hw HM3.out.lt)
  have HB3 := hide (HB2.out.trans (hw.mono HB2.out.size))
  clear hw HK2 HM3 HB2
  go_wp2_with fail
  go_loopw [11] (fun v wr => ∃ (i g u : Nat) (S : List Int), v = .int .i64 i ∧ i ≤ ln ∧ u ≤ 1 ∧ Hid (S.length = n) ∧ Hid (Fit p S) ∧ Hid (tot p S = M) ∧ Hid (Mn wr b9 (some ⟨g, 0, none⟩) n n u) ∧ Hid (Blk wr g 3 S) ∧ Hid (Below w.heap.size w wr)) (fun v _ => ln - (intOf v).toNat)
  case atStart => exact ⟨0, g0, 0, newL p (k : Int) n, rfl, by omega, by omega, HLN, HFN, HTN, HM4, HK3, HB3⟩
  case round =>
    obtain ⟨i, g, u, S, rfl, hi, hu, hSl, hSf, hSt, hMr, hKr, hBr⟩ := hrel
    clear HLN HFN HTN HM4 HK3 HB3 HMY
    by_cases hil : i < ln
    · have hil' : (i : Int) < (ln : Int) := by omega
      by_cases hi40 : i < 40
      · have hi40' : (i : Int) < 40 := by omega
        obtain ⟨lb, loff, hle, hlcell⟩ := HL.out.cells (by omega)
        subst hle
        have HZC := hide (hlcell i hil)
        have hlb : lb < w.heap.size := World.block_lt_of_cell? w _ HZC.out
        obtain ⟨z, hze⟩ : ∃ z, zs.getD i 0 = z := ⟨_, rfl⟩
        obtain ⟨hz1, hz2⟩ := HZ.out (zs.getD i 0) (by have := HL.out.len; simp [List.getD, this, hil])
        rw [hze] at HZC hz1 hz2
        obtain ⟨q, hqe⟩ : ∃ q, pk z p = q := ⟨_, rfl⟩
        have HPK := hide hqe
        have hqp : q < p := by rw [← hqe]; exact pk_lt z p (by omega)
        have HSOW : Hid (∀ W, Blk W g 3 S → Calls Try.prog 13 #[.agg (mA (some ⟨g, 0, none⟩) n n u), .int .i64 q] W fun e w' => ∃ (a2 : Option Addr) (m2 c2 g2 ut : Nat) (ag : Bool) (er : Nat), e = .returned (.tuple #[.agg (mA a2 m2 c2 ut), .bool ag, .int .i64 er]) ∧ Below W.heap.size W w' ∧ ((er = 9 ∨ er = 10) ∨ (er = 0 ∧ a2 = some ⟨g2, 0, none⟩ ∧ m2 = n ∧ c2 = n ∧ Blk w' g2 3 (sowS p u q S) ∧ ut = sowT p u q S ∧ ag = agB p u q S))) := hide (fun W hW => Sow_pit g n p u S W hW HN.out (by rw [hSl.out, HN.out]) hp1 hp hu hSf.out q hqp)
        clear hze hqe hlcell
        go_upto_region 8 with fail
        go_cut [12, 13, 14] (fun x y z wc => ∃ (Y : Nat) (a2 : Option Addr) (m2 c2 g2 ut : Nat) (ag : Bool) (er : Nat), x = .pointer (some ⟨Y, 0, none⟩) ∧ y = .bool ag ∧ z = .int .i64 er ∧ Hid (Mn wc Y a2 m2 c2 ut) ∧ Hid (Mn wc b9 (some ⟨g, 0, none⟩) n n u) ∧ b9 < Y ∧ Hid (Below w.heap.size w wc) ∧ Hid (Blk wc g 3 S) ∧ Hid ((er = 9 ∨ er = 10) ∨ (er = 0 ∧ a2 = some ⟨g2, 0, none⟩ ∧ m2 = n ∧ c2 = n ∧ Blk wc g2 3 (sowS p u q S) ∧ ut = sowT p u q S ∧ ag = agB p u q S)))
        case first =>
          refine wp_region_held (S := fun W => Mn W b9 (some ⟨g, 0, none⟩) n n u ∧ Below w.heap.size w W) (by kernel_rfl) ?_
          change wpAnyH _ _ _ _ _ _ _ _ (World.drew _)
          obtain ⟨V0, hV0⟩ : ∃ V0, World.drew wr = V0 := ⟨_, rfl⟩
          have SW : Mn V0 b9 (some ⟨g, 0, none⟩) n n u ∧ Below w.heap.size w V0 := by rw [← hV0]; exact ⟨hMr.out, hBr.out.drew⟩
          have HRc : Hid (Blk V0 g 3 S) := hide (by rw [← hV0]; exact hKr.out)
          rw [hV0]
          clear hV0 hMr hBr hKr
          refine wpAnyH_take (i := 0) (v := .agg #[.slice (some ⟨g, 0, none⟩) n n, .int .i64 u]) rfl (by kernel_rfl) (by kernel_rfl) (by kernel_rfl) (fun _ _ _ h => h) (yieldsIf_load_mid (by rfl) 24 _ rfl b9 0 (by rfl) [.slice (some ⟨g, 0, none⟩) n n, .int .i64 u] _ (fun W hW => hW.1.range) Try.underlying24 rfl size24) SW ?_
          go_simp
          refine wpAnyH_take (i := 1) (v := .slice (some ⟨lb, loff, none⟩) ln lc) rfl (by kernel_rfl) (by kernel_rfl) (by kernel_rfl) (fun _ _ _ h => h) (Or.inl ⟨by rfl, ?_⟩) SW ?_
          · intro W hW
            go_simp <;> first | done | rfl | (rw [IntKind.wrap_i64]; omega) | (intro hh; exfalso; omega) | omega
          go_simp
          refine wpAnyH_take (i := 2) (v := .int .i64 i) rfl (by kernel_rfl) (by kernel_rfl) (by kernel_rfl) (fun _ _ _ h => h) (Or.inl ⟨by rfl, ?_⟩) SW ?_
          · intro W hW
            go_simp <;> first | done | rfl | (rw [IntKind.wrap_i64]; omega) | (intro hh; exfalso; omega) | omega
          go_simp
          refine wpAnyH_take (i := 3) (v := .pointer (some ⟨lb, loff + i, none⟩)) rfl (by kernel_rfl) (by kernel_rfl) (by kernel_rfl) (fun _ _ _ h => h) (Or.inl ⟨by rfl, ?_⟩) SW ?_
          · intro W hW
            go_simp <;> first | done | rfl | (rw [IntKind.wrap_i64]; omega) | (intro hh; exfalso; omega) | omega
          go_simp
          refine wpAnyH_take (i := 4) (v := .int .i64 z) rfl (by kernel_rfl) (by kernel_rfl) (by kernel_rfl) (fun _ _ _ h => h) (Or.inl ⟨by rfl, ?_⟩) SW ?_
          · intro W hW
            have hcell := (hW.2.cell (p := ⟨lb, loff + i, none⟩) hlb).trans HZC.out
            go_simp <;> first | done | rfl | (rw [IntKind.wrap_i64]; omega) | (intro hh; exfalso; omega) | omega
          go_simp
          refine wpAnyH_take (i := 5) (v := .int .i64 p) rfl (by kernel_rfl) (by kernel_rfl) (by kernel_rfl) (fun _ _ _ h => h) (Or.inl ⟨by rfl, ?_⟩) SW ?_
          · intro W hW
            go_simp <;> first | done | rfl | (rw [IntKind.wrap_i64]; omega) | (intro hh; exfalso; omega) | omega
          go_simp
          refine wpAnyH_ready (rs := [6, 12]) (by kernel_rfl) (by simp) ?_
          refine AllReadyH.cons rfl (fun K1 hK1 => ?_) ?_
          · go_simp
            refine (picked_any z p V0 hz1 hz2 (by omega) (by omega)).mono ?_
            rintro e W1 ⟨rfl, hw⟩
            subst W1
            rw [HPK.out]
            refine hK1.out _ _ SW (fun SW1 => ?_)
            clear hK1 K1 SW
            have SW := SW1
            clear SW1
            go_simp
            refine wpAnyH_ready (rs := [7, 12]) (by kernel_rfl) (by simp) ?_
            refine AllReadyH.cons rfl (fun K1 hK1 => ?_) ?_
            · go_simp
              refine (HSOW.out V0 HRc.out).mono ?_
              rintro e W2 ⟨a2, m2, c2, g2, ut, ag, er, rfl, hw, hres⟩
              refine hK1.out _ _ ⟨SW.1.below hw SW.1.lt, SW.2.trans (hw.mono SW.2.size)⟩ (fun SW1 => ?_)
              clear hK1 K1 SW
              have SW := SW1
              clear SW1
              have HRn := hide (HRc.out.below hw HRc.out.lt)
              have HRES := hide hres
              clear HRc hw hres
              have HRc := HRn
              clear HRn
              go_simp
              refine wpAnyH_take (i := 8) (v := .tuple #[.agg (mA a2 m2 c2 ut), .bool ag, .int .i64 er]) rfl (by kernel_rfl) (by kernel_rfl) (by kernel_rfl) (fun _ _ _ h => h) (Or.inl ⟨by rfl, ?_⟩) SW ?_
              · intro W hW
                go_simp <;> first | done | rfl | (rw [IntKind.wrap_i64]; omega) | (intro hh; exfalso; omega) | omega
              go_simp
              refine wpAnyH_take (i := 9) (v := .agg (mA a2 m2 c2 ut)) rfl (by kernel_rfl) (by kernel_rfl) (by kernel_rfl) (fun _ _ _ h => h) (Or.inl ⟨by rfl, ?_⟩) SW ?_
              · intro W hW
                go_simp <;> first | done | rfl | (rw [IntKind.wrap_i64]; omega) | (intro hh; exfalso; omega) | omega
              go_simp
              refine wpAnyH_take (i := 10) (v := .bool ag) rfl (by kernel_rfl) (by kernel_rfl) (by kernel_rfl) (fun _ _ _ h => h) (Or.inl ⟨by rfl, ?_⟩) SW ?_
              · intro W hW
                go_simp <;> first | done | rfl | (rw [IntKind.wrap_i64]; omega) | (intro hh; exfalso; omega) | omega
              go_simp
              refine wpAnyH_take (i := 11) (v := .int .i64 er) rfl (by kernel_rfl) (by kernel_rfl) (by kernel_rfl) (fun _ _ _ h => h) (Or.inl ⟨by rfl, ?_⟩) SW ?_
              · intro W hW
                go_simp <;> first | done | rfl | (rw [IntKind.wrap_i64]; omega) | (intro hh; exfalso; omega) | omega
              go_simp
              refine wpAnyH_ready (rs := [12]) (by kernel_rfl) (by simp) ?_
              refine AllReadyH.cons rfl (fun K1 hK1 => ?_) AllReadyH.nil
              go_simp
              have AB := (Below.refl W2.heap.size W2).alloc (Nat.le_refl _) (Obj.cells #[.slice none 0 0, .int .i64 0] 24)
              refine hK1.out _ _ ⟨SW.1.old _, SW.2.trans (AB.mono SW.2.size)⟩ (fun SW1 => ?_)
              have HYn := Mn.new W2 none 0 0 0
              have HRn := HRc.out.below AB HRc.out.lt
              have hby := SW.1.lt
              have HRESn : (er = 9 ∨ er = 10) ∨ (er = 0 ∧ a2 = some ⟨g2, 0, none⟩ ∧ m2 = n ∧ c2 = n ∧ Blk (W2.alloc (Obj.cells #[.slice none 0 0, .int .i64 0] 24)) g2 3 (sowS p u q S) ∧ ut = sowT p u q S ∧ ag = agB p u q S) := by
                rcases HRES.out with h | ⟨h1, h2, h3, h4, h5, h6⟩
                · exact Or.inl h
                · exact Or.inr ⟨h1, h2, h3, h4, h5.below AB h5.lt, h6⟩
              clear HRES
              clear hK1 K1 SW HRc AB
              go_simp
              obtain ⟨y, hy⟩ : ∃ y, W2.heap.size = y := ⟨_, rfl⟩
              obtain ⟨W3, hW3⟩ : ∃ W3, W2.alloc (Obj.cells #[.slice none 0 0, .int .i64 0] 24) = W3 := ⟨_, rfl⟩
              have SW := SW1
              clear SW1
              rw [hW3] at SW HRn ⊢
              have HYm : Mn W3 y none 0 0 0 := by rw [← hW3, ← hy]; exact HYn
              have HYc := hide HYm
              have HRc := hide HRn
              rw [hW3] at HRESn
              have HRES := hide HRESn
              clear HRESn
              have hby' : b9 < y := by omega
              rw [hy]
              clear hW3 HYn HYm hy hby HRn
              refine wpAnyH_ready (rs := [13]) (by kernel_rfl) (by simp) ?_
              refine AllReadyH.cons rfl (fun K1 hK1 => ?_) AllReadyH.nil
              rw [if_pos (by rfl)]
              have hb' : W3.heap[y]? = _ := HYc.out
              refine wp_store_row 24 _ _ rfl y (mA a2 m2 c2 ut) rfl rfl 24 _ hb' size24 rfl (by simp [Value.oneCell']) ?_
              have hk2 : Keeps (fun k => k = y) W3 (W3.setRow y (mA a2 m2 c2 ut)) := ⟨rfl, rfl, rfl, by simp [World.setRow], fun k _ hk => by simp [World.setRow, Array.getElem?_modify, show ¬ y = k from fun e => hk e.symm]⟩
              have hm2 : Mn (W3.setRow y (mA a2 m2 c2 ut)) y a2 m2 c2 ut := by simp [Mn, World.setRow, Array.getElem?_modify, hb']
              have hr2 := HRc.out.keeps hk2 (Blk.ne_mn HRc.out HYc.out)
              have hres2 : (er = 9 ∨ er = 10) ∨ (er = 0 ∧ a2 = some ⟨g2, 0, none⟩ ∧ m2 = n ∧ c2 = n ∧ Blk (W3.setRow y (mA a2 m2 c2 ut)) g2 3 (sowS p u q S) ∧ ut = sowT p u q S ∧ ag = agB p u q S) := by
                rcases HRES.out with h | ⟨h1, h2, h3, h4, h5, h6⟩
                · exact Or.inl h
                · exact Or.inr ⟨h1, h2, h3, h4, h5.keeps hk2 (Blk.ne_mn h5 HYc.out), h6⟩
              have hwb : w.heap.size ≤ b9 := hwb9
              refine hK1.out _ _ ⟨SW.1.keeps hk2 (by omega), SW.2.trans (hk2.below SW.2.size (fun k hk e => by omega))⟩ (fun SW1 => ?_)
              clear hK1 K1 SW
              have SW := SW1
              clear SW1
              go_simp
              refine wpAnyH_take (i := 14) (v := .bool ag) rfl (by kernel_rfl) (by kernel_rfl) (by kernel_rfl) (fun _ _ _ h => h) (Or.inl ⟨by rfl, ?_⟩) SW ?_
              · intro W hW
                go_simp <;> first | done | rfl | (rw [IntKind.wrap_i64]; omega) | (intro hh; exfalso; omega) | omega
              go_simp
              refine wpAnyH_take (i := 15) (v := .int .i64 er) rfl (by kernel_rfl) (by kernel_rfl) (by kernel_rfl) (fun _ _ _ h => h) (Or.inl ⟨by rfl, ?_⟩) SW ?_
              · intro W hW
                go_simp <;> first | done | rfl | (rw [IntKind.wrap_i64]; omega) | (intro hh; exfalso; omega) | omega
              go_simp
              refine wpAnyH_done (by kernel_rfl) ?_ _
              go_wp2_with fail
              go_meet
              case rel => exact ⟨y, a2, m2, c2, g2, ut, ag, er, rfl, rfl, rfl, hm2, SW.1, by omega, SW.2, hr2, hres2⟩
            refine AllReadyH.cons rfl (fun K1 hK1 => ?_) AllReadyH.nil
            go_simp
            have AB := (Below.refl V0.heap.size V0).alloc (Nat.le_refl _) (Obj.cells #[.slice none 0 0, .int .i64 0] 24)
            refine hK1.out _ _ ⟨SW.1.old _, SW.2.trans (AB.mono SW.2.size)⟩ (fun SW1 => ?_)
            have HYn := Mn.new V0 none 0 0 0
            have HRn := HRc.out.below AB HRc.out.lt
            have hby := SW.1.lt
            clear hK1 K1 SW HRc AB
            go_simp
            obtain ⟨y, hy⟩ : ∃ y, V0.heap.size = y := ⟨_, rfl⟩
            obtain ⟨W3, hW3⟩ : ∃ W3, V0.alloc (Obj.cells #[.slice none 0 0, .int .i64 0] 24) = W3 := ⟨_, rfl⟩
            have SW := SW1
            clear SW1
            rw [hW3] at SW HRn ⊢
            have HYm : Mn W3 y none 0 0 0 := by rw [← hW3, ← hy]; exact HYn
            have HYc := hide HYm
            have HRc := hide HRn
            have hby' : b9 < y := by omega
            rw [hy]
            clear hW3 HYn HYm hy hby HRn
            refine wpAnyH_ready (rs := [7]) (by kernel_rfl) (by simp) ?_
            refine AllReadyH.cons rfl (fun K1 hK1 => ?_) AllReadyH.nil
            go_simp
            refine (HSOW.out W3 HRc.out).mono ?_
            rintro e W2 ⟨a2, m2, c2, g2, ut, ag, er, rfl, hw, hres⟩
            refine hK1.out _ _ ⟨SW.1.below hw SW.1.lt, SW.2.trans (hw.mono SW.2.size)⟩ (fun SW1 => ?_)
            clear hK1 K1 SW
            have SW := SW1
            clear SW1
            have HRn := hide (HRc.out.below hw HRc.out.lt)
            have HYn := hide (HYc.out.below hw HYc.out.lt)
            clear HYc
            have HYc := HYn
            clear HYn
            have HRES := hide hres
            clear HRc hw hres
            have HRc := HRn
            clear HRn
            go_simp
            refine wpAnyH_take (i := 8) (v := .tuple #[.agg (mA a2 m2 c2 ut), .bool ag, .int .i64 er]) rfl (by kernel_rfl) (by kernel_rfl) (by kernel_rfl) (fun _ _ _ h => h) (Or.inl ⟨by rfl, ?_⟩) SW ?_
            · intro W hW
              go_simp <;> first | done | rfl | (rw [IntKind.wrap_i64]; omega) | (intro hh; exfalso; omega) | omega
            go_simp
            refine wpAnyH_take (i := 9) (v := .agg (mA a2 m2 c2 ut)) rfl (by kernel_rfl) (by kernel_rfl) (by kernel_rfl) (fun _ _ _ h => h) (Or.inl ⟨by rfl, ?_⟩) SW ?_
            · intro W hW
              go_simp <;> first | done | rfl | (rw [IntKind.wrap_i64]; omega) | (intro hh; exfalso; omega) | omega
            go_simp
            refine wpAnyH_take (i := 10) (v := .bool ag) rfl (by kernel_rfl) (by kernel_rfl) (by kernel_rfl) (fun _ _ _ h => h) (Or.inl ⟨by rfl, ?_⟩) SW ?_
            · intro W hW
              go_simp <;> first | done | rfl | (rw [IntKind.wrap_i64]; omega) | (intro hh; exfalso; omega) | omega
            go_simp
            refine wpAnyH_take (i := 11) (v := .int .i64 er) rfl (by kernel_rfl) (by kernel_rfl) (by kernel_rfl) (fun _ _ _ h => h) (Or.inl ⟨by rfl, ?_⟩) SW ?_
            · intro W hW
              go_simp <;> first | done | rfl | (rw [IntKind.wrap_i64]; omega) | (intro hh; exfalso; omega) | omega
            go_simp
            refine wpAnyH_ready (rs := [13]) (by kernel_rfl) (by simp) ?_
            refine AllReadyH.cons rfl (fun K1 hK1 => ?_) AllReadyH.nil
            rw [if_pos (by rfl)]
            have hb' : W2.heap[y]? = _ := HYc.out
            refine wp_store_row 24 _ _ rfl y (mA a2 m2 c2 ut) rfl rfl 24 _ hb' size24 rfl (by simp [Value.oneCell']) ?_
            have hk2 : Keeps (fun k => k = y) W2 (W2.setRow y (mA a2 m2 c2 ut)) := ⟨rfl, rfl, rfl, by simp [World.setRow], fun k _ hk => by simp [World.setRow, Array.getElem?_modify, show ¬ y = k from fun e => hk e.symm]⟩
            have hm2 : Mn (W2.setRow y (mA a2 m2 c2 ut)) y a2 m2 c2 ut := by simp [Mn, World.setRow, Array.getElem?_modify, hb']
            have hr2 := HRc.out.keeps hk2 (Blk.ne_mn HRc.out HYc.out)
            have hres2 : (er = 9 ∨ er = 10) ∨ (er = 0 ∧ a2 = some ⟨g2, 0, none⟩ ∧ m2 = n ∧ c2 = n ∧ Blk (W2.setRow y (mA a2 m2 c2 ut)) g2 3 (sowS p u q S) ∧ ut = sowT p u q S ∧ ag = agB p u q S) := by
              rcases HRES.out with h | ⟨h1, h2, h3, h4, h5, h6⟩
              · exact Or.inl h
              · exact Or.inr ⟨h1, h2, h3, h4, h5.keeps hk2 (Blk.ne_mn h5 HYc.out), h6⟩
            have hwb : w.heap.size ≤ b9 := hwb9
            refine hK1.out _ _ ⟨SW.1.keeps hk2 (by omega), SW.2.trans (hk2.below SW.2.size (fun k hk e => by omega))⟩ (fun SW1 => ?_)
            clear hK1 K1 SW
            have SW := SW1
            clear SW1
            go_simp
            refine wpAnyH_take (i := 14) (v := .bool ag) rfl (by kernel_rfl) (by kernel_rfl) (by kernel_rfl) (fun _ _ _ h => h) (Or.inl ⟨by rfl, ?_⟩) SW ?_
            · intro W hW
              go_simp <;> first | done | rfl | (rw [IntKind.wrap_i64]; omega) | (intro hh; exfalso; omega) | omega
            go_simp
            refine wpAnyH_take (i := 15) (v := .int .i64 er) rfl (by kernel_rfl) (by kernel_rfl) (by kernel_rfl) (fun _ _ _ h => h) (Or.inl ⟨by rfl, ?_⟩) SW ?_
            · intro W hW
              go_simp <;> first | done | rfl | (rw [IntKind.wrap_i64]; omega) | (intro hh; exfalso; omega) | omega
            go_simp
            refine wpAnyH_done (by kernel_rfl) ?_ _
            go_wp2_with fail
            go_meet
            case rel => exact ⟨y, a2, m2, c2, g2, ut, ag, er, rfl, rfl, rfl, hm2, SW.1, by omega, SW.2, hr2, hres2⟩
          refine AllReadyH.cons rfl (fun K1 hK1 => ?_) AllReadyH.nil
          go_simp
          have AB := (Below.refl V0.heap.size V0).alloc (Nat.le_refl _) (Obj.cells #[.slice none 0 0, .int .i64 0] 24)
          refine hK1.out _ _ ⟨SW.1.old _, SW.2.trans (AB.mono SW.2.size)⟩ (fun SW1 => ?_)
          have HYn := Mn.new V0 none 0 0 0
          have HRn := HRc.out.below AB HRc.out.lt
          have hby := SW.1.lt
          clear hK1 K1 SW HRc AB
          go_simp
          obtain ⟨y, hy⟩ : ∃ y, V0.heap.size = y := ⟨_, rfl⟩
          obtain ⟨W3, hW3⟩ : ∃ W3, V0.alloc (Obj.cells #[.slice none 0 0, .int .i64 0] 24) = W3 := ⟨_, rfl⟩
          have SW := SW1
          clear SW1
          rw [hW3] at SW HRn ⊢
          have HYm : Mn W3 y none 0 0 0 := by rw [← hW3, ← hy]; exact HYn
          have HYc := hide HYm
          have HRc := hide HRn
          have hby' : b9 < y := by omega
          rw [hy]
          clear hW3 HYn HYm hy hby HRn
          refine wpAnyH_ready (rs := [6]) (by kernel_rfl) (by simp) ?_
          refine AllReadyH.cons rfl (fun K1 hK1 => ?_) AllReadyH.nil
          go_simp
          refine (picked_any z p W3 hz1 hz2 (by omega) (by omega)).mono ?_
          rintro e W1 ⟨rfl, hw⟩
          subst W1
          rw [HPK.out]
          refine hK1.out _ _ SW (fun SW1 => ?_)
          clear hK1 K1 SW
          have SW := SW1
          clear SW1
          go_simp
          refine wpAnyH_ready (rs := [7]) (by kernel_rfl) (by simp) ?_
          refine AllReadyH.cons rfl (fun K1 hK1 => ?_) AllReadyH.nil
          go_simp
          refine (HSOW.out W3 HRc.out).mono ?_
          rintro e W2 ⟨a2, m2, c2, g2, ut, ag, er, rfl, hw, hres⟩
          refine hK1.out _ _ ⟨SW.1.below hw SW.1.lt, SW.2.trans (hw.mono SW.2.size)⟩ (fun SW1 => ?_)
          clear hK1 K1 SW
          have SW := SW1
          clear SW1
          have HRn := hide (HRc.out.below hw HRc.out.lt)
          have HYn := hide (HYc.out.below hw HYc.out.lt)
          clear HYc
          have HYc := HYn
          clear HYn
          have HRES := hide hres
          clear HRc hw hres
          have HRc := HRn
          clear HRn
          go_simp
          refine wpAnyH_take (i := 8) (v := .tuple #[.agg (mA a2 m2 c2 ut), .bool ag, .int .i64 er]) rfl (by kernel_rfl) (by kernel_rfl) (by kernel_rfl) (fun _ _ _ h => h) (Or.inl ⟨by rfl, ?_⟩) SW ?_
          · intro W hW
            go_simp <;> first | done | rfl | (rw [IntKind.wrap_i64]; omega) | (intro hh; exfalso; omega) | omega
          go_simp
          refine wpAnyH_take (i := 9) (v := .agg (mA a2 m2 c2 ut)) rfl (by kernel_rfl) (by kernel_rfl) (by kernel_rfl) (fun _ _ _ h => h) (Or.inl ⟨by rfl, ?_⟩) SW ?_
          · intro W hW
            go_simp <;> first | done | rfl | (rw [IntKind.wrap_i64]; omega) | (intro hh; exfalso; omega) | omega
          go_simp
          refine wpAnyH_take (i := 10) (v := .bool ag) rfl (by kernel_rfl) (by kernel_rfl) (by kernel_rfl) (fun _ _ _ h => h) (Or.inl ⟨by rfl, ?_⟩) SW ?_
          · intro W hW
            go_simp <;> first | done | rfl | (rw [IntKind.wrap_i64]; omega) | (intro hh; exfalso; omega) | omega
          go_simp
          refine wpAnyH_take (i := 11) (v := .int .i64 er) rfl (by kernel_rfl) (by kernel_rfl) (by kernel_rfl) (fun _ _ _ h => h) (Or.inl ⟨by rfl, ?_⟩) SW ?_
          · intro W hW
            go_simp <;> first | done | rfl | (rw [IntKind.wrap_i64]; omega) | (intro hh; exfalso; omega) | omega
          go_simp
          refine wpAnyH_ready (rs := [13]) (by kernel_rfl) (by simp) ?_
          refine AllReadyH.cons rfl (fun K1 hK1 => ?_) AllReadyH.nil
          rw [if_pos (by rfl)]
          have hb' : W2.heap[y]? = _ := HYc.out
          refine wp_store_row 24 _ _ rfl y (mA a2 m2 c2 ut) rfl rfl 24 _ hb' size24 rfl (by simp [Value.oneCell']) ?_
          have hk2 : Keeps (fun k => k = y) W2 (W2.setRow y (mA a2 m2 c2 ut)) := ⟨rfl, rfl, rfl, by simp [World.setRow], fun k _ hk => by simp [World.setRow, Array.getElem?_modify, show ¬ y = k from fun e => hk e.symm]⟩
          have hm2 : Mn (W2.setRow y (mA a2 m2 c2 ut)) y a2 m2 c2 ut := by simp [Mn, World.setRow, Array.getElem?_modify, hb']
          have hr2 := HRc.out.keeps hk2 (Blk.ne_mn HRc.out HYc.out)
          have hres2 : (er = 9 ∨ er = 10) ∨ (er = 0 ∧ a2 = some ⟨g2, 0, none⟩ ∧ m2 = n ∧ c2 = n ∧ Blk (W2.setRow y (mA a2 m2 c2 ut)) g2 3 (sowS p u q S) ∧ ut = sowT p u q S ∧ ag = agB p u q S) := by
            rcases HRES.out with h | ⟨h1, h2, h3, h4, h5, h6⟩
            · exact Or.inl h
            · exact Or.inr ⟨h1, h2, h3, h4, h5.keeps hk2 (Blk.ne_mn h5 HYc.out), h6⟩
          have hwb : w.heap.size ≤ b9 := hwb9
          refine hK1.out _ _ ⟨SW.1.keeps hk2 (by omega), SW.2.trans (hk2.below SW.2.size (fun k hk e => by omega))⟩ (fun SW1 => ?_)
          clear hK1 K1 SW
          have SW := SW1
          clear SW1
          go_simp
          refine wpAnyH_take (i := 14) (v := .bool ag) rfl (by kernel_rfl) (by kernel_rfl) (by kernel_rfl) (fun _ _ _ h => h) (Or.inl ⟨by rfl, ?_⟩) SW ?_
          · intro W hW
            go_simp <;> first | done | rfl | (rw [IntKind.wrap_i64]; omega) | (intro hh; exfalso; omega) | omega
          go_simp
          refine wpAnyH_take (i := 15) (v := .int .i64 er) rfl (by kernel_rfl) (by kernel_rfl) (by kernel_rfl) (fun _ _ _ h => h) (Or.inl ⟨by rfl, ?_⟩) SW ?_
          · intro W hW
            go_simp <;> first | done | rfl | (rw [IntKind.wrap_i64]; omega) | (intro hh; exfalso; omega) | omega
          go_simp
          refine wpAnyH_done (by kernel_rfl) ?_ _
          go_wp2_with fail
          go_meet
          case rel => exact ⟨y, a2, m2, c2, g2, ut, ag, er, rfl, rfl, rfl, hm2, SW.1, by omega, SW.2, hr2, hres2⟩
        case rest =>
          obtain ⟨Y, a2, m2, c2, g2, ut, ag, er, rfl, rfl, rfl, HMY, HM9, hbY, HBc, HKc, HRES⟩ := hcut
          clear hMr hKr hBr HSOW HPK HZC
          rcases HRES.out with her | ⟨h0, h1, h2, h3, h4, h5, h6⟩
          · rcases her with rfl | rfl
            · clear HRES
              go_wp2_with fail
              exact ⟨⟨i + 1, g, u, S, by go_num, by omega, hu, hSl, hSf, hSt, HM9, HKc, HBc⟩, by simp [intOf]; omega⟩
            · clear HRES
              go_wp2_with fail
              exact ⟨⟨i + 1, g, u, S, by go_num, by omega, hu, hSl, hSf, hSt, HM9, HKc, HBc⟩, by simp [intOf]; omega⟩
          · subst h0 h1 h5 h6
            have h2' := h2.symm
            have h3' := h3.symm
            subst h2'
            subst h3'
            clear h2 h3
            have hSf2 := sowS_fit hu hqp (by rw [hSl.out, HN.out]; exact Nat.le_refl _) hSf.out
            have hF : Hid (Fit p (sowS p u q S)) := hide hSf2.1
            have hT : Hid (tot p (sowS p u q S) = M) := hide (by rw [hSf2.2]; exact hSt.out)
            have hFl : Hid ((sowS p u q S).length = n) := hide (by rw [sowS_length]; exact hSl.out)
            have hut : sowT p u q S ≤ 1 := sowT_le' hu
            have HAT : Hid ((((sowT p u q S : Nat) : Int) == (u : Int)) = agB p u q S) := hide (ag_turn hu)
            have hK4 := hide h4
            clear HRES h4 hSf2
            generalize sowS p u q S = F at *
            generalize sowT p u q S = ut at *
            generalize agB p u q S = ag at *
            have y0 := HMY.out.seeds
            have HSS : Hid (sm F n = M) := hide (by rw [← hT.out]; unfold sm tot; rw [HN.out])
            have HSB : Hid (∀ j, j ≤ n → 0 ≤ sm F j ∧ sm F j ≤ 1000) := hide (fun j hj => by
              have hps : ∀ i, i < n → 0 ≤ F.getD i 0 := fun i hi => hF.out.pos i (by rw [← HN.out]; exact hi)
              have h1 := sumN_mono (f := fun i => F.getD i 0) j n hj hps
              have h2 := sumN_nonneg (f := fun i => F.getD i 0) j (fun i hi => hps i (by omega))
              have h3 := HSS.out
              unfold sm at h3 ⊢
              omega)
            go_wp2_with fail
            go_loop [15, 16] (fun s v => ∃ j : Nat, v = .int .i64 j ∧ j ≤ n ∧ s = .int .i64 (sm F j)) (fun _ v => n - (intOf v).toNat)
            case atStart => exact ⟨0, rfl, by omega, rfl⟩
            case round =>
              obtain ⟨j, rfl, hj, rfl⟩ := hrel
              obtain ⟨s1, s2⟩ := HSB.out j hj
              by_cases hjn : j < n
              · have hjn' : (j : Int) < (n : Int) := by omega
                have c1 := hK4.out.cell (i := j) (by rw [hFl.out]; exact hjn)
                have HSC := hide (sm_succ F j)
                obtain ⟨s3, s4⟩ := HSB.out (j + 1) hjn
                rw [HSC.out] at s3 s4
                generalize F.getD j 0 = x at *
                generalize sm F j = sj at *
                go_wp2_with fail
                exact ⟨⟨j + 1, by go_num, by omega, by rw [HSC.out]⟩, by simp [intOf]; omega⟩
              · obtain rfl : j = n := by omega
                have hjn' : ¬ (j : Int) < (j : Int) := by omega
                rw [HSS.out]
                have y1 := HMY.out.turn
                have b1 := HM9.out.turn
                have hmul := HMM.out
                have hat := HAT.out
                have HMF : Hid (mayB F (ut : Int) = true) := hide (may_mk hp1 hp hut (by rw [hFl.out, HN.out]) hF.out)
                go_wp2_with (first | refine wpList_load_mn rfl _ rfl Y rfl HMY.out ?_)
                refine (May_any (some ⟨g2, 0, none⟩) j j (ut : Int) F _ (hK4.out.rd hFl.out (by unfold maxLen; omega)) (by omega) (by omega)).mono ?_
                rintro e w8 ⟨rfl, hw⟩
                rw [HMF.out]
                have HY8 := hide (HMY.out.below hw HMY.out.lt)
                have HM8 := hide (HM9.out.below hw HM9.out.lt)
                have HK8 := hide (hK4.out.below hw hK4.out.lt)
                have HB8 := hide (HBc.out.trans (hw.mono HBc.out.size))
                clear hw y0 y1 b1
                go_wp2_with (first | refine wpList_load_mn rfl _ rfl Y rfl HY8.out ?_ | (refine wpList_store_mn rfl _ _ rfl b9 rfl rfl HM8.out ?_; intro w9 m9 k9))
                exact ⟨⟨i + 1, g2, ut, F, by go_num, by omega, hut, hFl, hF, hT, m9, HK8.out.keeps k9 (Blk.ne_mn HK8.out HM8.out), HB8.out.trans (k9.below HB8.out.size (fun k hk e => by omega))⟩, by simp [intOf]; omega⟩
      · have hi40' : decide ((i : Int) < 40) = false := by simp; omega
        go_wp2
        go_ret
        exact ⟨rfl, hBr.out⟩
    · have hil' : decide ((i : Int) < (ln : Int)) = false := by simp; omega
      have hil2 : decide (i < ln) = false := by simp; omega
      go_wp2
      go_ret
      exact ⟨rfl, hBr.out⟩

end Go.Proofs.Ytmdnoiebodaikaa
