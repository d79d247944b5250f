/-
  Chess: All, Do and Result beside what the document says: the law, walked. No conditions beyond those that each theorem bears.
-/
import Derived.Test.YtbhlafdfpoacjaaDoorQ49
import Derived.Test.YtbhlafdfpoacjaaDoorQ47
import Derived.Test.YtbhlafdfpoacjaaDoorQ16
import Derived.Test.YtbhlafdfpoacjaaDoorQ39
namespace Go.Proofs.YtbhlafdfpoacjaaDoor
open Go.RowKit Go.Shelf

theorem wp_store_ch {o : Oper} {a : Act} {w : World} {K : Act → World → Prop} {Q : Exit → Act → World → Prop} (x y : Operand) (ho : o.op = .store 24 x y)
    (b : Nat) {ad : Option Addr} {n c : Nat} {t k e h f : Int} {ad' : Option Addr} {n' c' : Nat} {t' k' e' h' f' : Int} (hx : a.eval x = .pointer (some ⟨b, 0, none⟩)) (hy : a.eval y = .agg (chA ad n c t k e h f)) (hb : Ch w b ad' n' c' t' k' e' h' f')
    (hK : ∀ w', Ch w' b ad n c t k e h f → Keeps (fun k => k = b) w w' → K (a.put o.dst undef) w') : o.wp Tryd.prog a w K Q := by
  have hb' : w.heap[b]? = _ := hb
  refine wp_store_row 24 x y ho b (chA ad n c t k e h f) hx hy 24 _ hb' size24 rfl (by simp [Value.oneCell']) ?_
  refine hK _ ?_ ?_
  · simp [Ch, World.setRow, Array.getElem?_modify, hb']
  · exact ⟨rfl, rfl, rfl, by simp [World.setRow], fun k _ hk => by simp [World.setRow, Array.getElem?_modify, show ¬ b = k from fun e => hk e.symm]⟩
theorem Ch.range {w : World} {b : Nat} {a : Option Addr} {n c : Nat} {t k e h f : Int} (H : Ch w b a n c t k e h f) : w.rangeAt b 0 [.slice a n c, .int .i64 t, .int .i64 k, .int .i64 e, .int .i64 h, .int .i64 f] :=
  (show Vb w b 24 [.slice a n c, .int .i64 t, .int .i64 k, .int .i64 e, .int .i64 h, .int .i64 f] from H).range

theorem Rm3.mono {w w' : World} {ad : Option Addr} {n cp : Nat} {L : List (Nat × Nat × Nat)} (h : Rm3 w ad n cp L) (hb : Below w.heap.size w w') : Rm3 w' ad n cp L :=
  ⟨h.len, h.cap, h.max, fun hp => by
    obtain ⟨g, e, hc⟩ := h.at_ hp
    exact ⟨g, e, fun W hW i m hm => hc W (hb.trans (hW.mono hb.size)) i m hm⟩⟩
theorem rd_ne_ch {w : World} {a : Option Addr} {c d : Nat} {Z : List Int} {ad : Option Addr} {n cc : Nat} {t k e hh f : Int} (h : Rd w a 64 c Z) (hc : Ch w d ad n cc t k e hh f) : ∀ b off, a = some ⟨b, off, none⟩ → ¬ b = d := by
  intro b off e0 hbd
  subst hbd
  obtain ⟨pb, po, he, hcell⟩ := h.cells (by omega)
  rw [e0, Option.some.injEq, Addr.mk.injEq] at he
  obtain ⟨rfl, rfl, -⟩ := he
  have h1 := hcell 63 (by omega)
  have hc' : w.heap[b]? = _ := hc
  rw [World.cell?] at h1
  simp only [hc'] at h1
  rw [Array.getElem?_eq_none (by simp <;> omega)] at h1
  cases h1

attribute [local irreducible] MayC mvs hasB resP nxP

set_option maxRecDepth 100000 in
set_option maxHeartbeats 32000000 in
theorem does_law (a : Option Addr) (n c : Nat) (Z : List Int) (t k e h f x y z : Int) (he1 : -9223372036854775808 ≤ e) (he2 : e ≤ 9223372036854775807) (w : World) (hz : Rd w a n c Z) (hr : n * 8 ≤ 140737488351232) (hT : Tabs w) (hW : TabW w) :
    Calls Tryd.prog 3 #[.agg (chA a n c t k e h f), m3 x y z] w fun r w' => r = .returned (.bool true) ∧ Below w.heap.size w w' := by
  obtain ⟨g, hg⟩ : ∃ g, w.heap.size = g := ⟨_, rfl⟩
  obtain ⟨w1, hw1⟩ : ∃ w1, (w.alloc (.cells (chA a n c t k e h f) 24)).alloc (.cells #[.int .i64 x, .int .i64 y, .int .i64 z] 26) = w1 := ⟨_, rfl⟩
  have B1 : Below w.heap.size w w1 := by rw [← hw1]; exact ((Below.refl _ w).alloc (Nat.le_refl _) _).alloc (by simp) _
  have C1 : Ch w1 g a n c t k e h f := by rw [← hw1, ← hg]; exact (Ch.new w a n c t k e h f).old _
  have V1 : Vb w1 (g + 1) 26 [.int .i64 x, .int .i64 y, .int .i64 z] := by
    rw [← hw1, ← hg]
    have := Vb.new (w.alloc (.cells (chA a n c t k e h f) 24)) 26 [.int .i64 x, .int .i64 y, .int .i64 z]
    rw [World.size_alloc] at this
    exact this
  have HB0 := hide B1
  have HCH : Hid (∀ W, Below w1.heap.size w1 W → Ch W g a n c t k e h f) := hide (fun W hb => C1.below hb C1.lt)
  have HVM : Hid (∀ W, Below w1.heap.size w1 W → Vb W (g + 1) 26 [.int .i64 x, .int .i64 y, .int .i64 z]) := hide (fun W hb => V1.mono hb)
  have HZW : Hid (∀ W, Below w1.heap.size w1 W → Rd W a n c Z) := hide (fun W hb => (hz.mono B1).mono hb)
  have HTW : Hid (∀ W, Below w1.heap.size w1 W → Tabs W) := hide (fun W hb => (hT.mono B1).mono hb)
  have HWW : Hid (∀ W, Below w1.heap.size w1 W → TabW W) := hide (fun W hb => (hW.mono B1).mono hb)
  have HOF : Hid (∀ W, Below w1.heap.size w1 W → Calls Tryd.prog 7 #[.agg (chA a n c t k e h f)] W fun r w' => ∃ a' c', r = .returned (.agg (chA a' n c' t k e h f)) ∧ Rd w' a' n c' Z ∧ Below W.heap.size W w') := hide (fun W hb => ChessOf_any a n c Z t k e h f W (HZW.out W hb) hr)
  have HCM : Hid (∀ W, Below w1.heap.size w1 W → Calls Tryd.prog 10 #[.agg (chA a n c t k e h f)] W fun r w' => r = .returned (.bool (dB (MayC Z t k e h f))) ∧ Below W.heap.size W w') := hide (fun W hb => ChessMay_any a n c Z t k e h f he1 he2 W (HZW.out W hb))
  have HB1 : Hid (Below w1.heap.size w1 w1) := hide (Below.refl _ _)
  have HG := hide hg
  have hch := C1
  clear hz hT hW B1 C1 V1
  by_cases hM : MayC Z t k e h f
  · rw [dB_t hM] at HCM
    have hn : n = 64 := by have := (HZW.out w1 HB1.out).len; have := hM.std.1; omega
    subst hn
    obtain ⟨p, hMp, rfl, rfl, rfl, rfl, rfl, rfl⟩ := ps_of hM
    clear hM
    have HMA : Hid (∀ W, Below w1.heap.size w1 W → Calls Tryd.prog 12 #[.agg (chP a c p)] W fun r w' => ∃ ad cp, r = .returned (.slice ad (mvs p).length cp) ∧ w'.ownsRow W.heap.size 26 3 (.slice ad (mvs p).length cp) (mvs p).length (flM (mvs p)) ∧ Below W.heap.size W w') := hide (fun W hb => MovesAll_any a c p hMp W (HZW.out W hb))
    have HRO : Hid (∀ W, Below w1.heap.size w1 W → Calls Tryd.prog 14 #[.agg (chP a c p)] W fun r w' => r = .returned (.int .i64 (resP p)) ∧ Below W.heap.size W w') := hide (fun W hb => ResultOf_any a c p hMp W (HZW.out W hb))
    obtain ⟨N, hN⟩ : ∃ N, (mvs p).length = N := ⟨_, rfl⟩
    have HN := hide hN
    rw [hN] at HMA
    clear hN
    cases hh : hasB (mvs p) x y z with
    | false =>
      have HH := hide hh
      clear hh
      go_enter Tryd.func3, Tryd.ntmps3
      go_upto_region 1 with fail
      try rw [hg]
      clear hw1 hg
      go_wp2_with (refine wpList_load_ch rfl (.tmp 2) rfl g rfl hch ?_)
      refine (HOF.out w1 HB1.out).mono ?_
      rintro r w2 ⟨a2, c2, rfl, hR, hb⟩
      have HB2 : Hid (Below w1.heap.size w1 w2) := hide (HB1.out.trans (hb.mono HB1.out.size))
      have HR2 := hide hR
      clear hR hb hch
      go_wp2_with fail
      refine (All_yes a2 c2 p hMp w2 HR2.out (HTW.out w2 HB2.out)).mono ?_
      rintro r w3 ⟨v, rfl, hO, hb⟩
      have HB3 : Hid (Below w1.heap.size w1 w3) := hide (HB2.out.trans (hb.mono HB2.out.size))
      obtain ⟨ad, cp, rfl⟩ := own_form26 hO
      have HLA : Hid (Rm3 w3 ad (mvs p).length cp (mvs p)) := hide (Rm3.of (Mr.of_own hO))
      rw [HN.out] at HLA
      try rw [HN.out]
      clear hO
      clear hb HR2 HB2
      go_upto_region 2 with fail
      refine wp_region_held (S := fun W5 => Below w3.heap.size w3 W5) (by kernel_rfl) ?_
      change wpAnyH _ _ _ _ _ _ _ _ (World.drew _)
      have SW : (fun W5 => Below w3.heap.size w3 W5) w3.drew := (Below.refl _ _).drew
      have HBX : Hid (∀ W, Below w3.heap.size w3 W → Below w1.heap.size w1 W) := hide (fun W hW => HB3.out.trans (hW.mono HB3.out.size))
      generalize w3.drew = wq at *
      refine wpAnyH_take (i := 0) (v := .agg (chA a 64 c (p.t : Nat) (p.k : Nat) p.e (p.h : Nat) (p.f : Nat))) rfl (by kernel_rfl) (by kernel_rfl) (by kernel_rfl) (fun _ _ _ h => h) (yieldsIf_load_mid (by rfl) 24 _ rfl g 0 (by rfl) [.slice a 64 c, .int .i64 (p.t : Nat), .int .i64 (p.k : Nat), .int .i64 p.e, .int .i64 (p.h : Nat), .int .i64 (p.f : Nat)] _ (fun W hW => (HCH.out W (HBX.out W hW)).range) Tryd.underlying24 rfl size24) SW ?_
      go_simp
      refine wpAnyH_take (i := 2) (v := .agg #[.int .i64 x, .int .i64 y, .int .i64 z]) rfl (by kernel_rfl) (by kernel_rfl) (by kernel_rfl) (fun _ _ _ h => h) (Or.inl ⟨by rfl, ?_⟩) SW ?_
      · intro W5 hW5
        have y0 := (HVM.out W5 (HBX.out W5 hW5)).cell (i := 0) rfl
        have y1 := (HVM.out W5 (HBX.out W5 hW5)).cell (i := 1) rfl
        have y2 := (HVM.out W5 (HBX.out W5 hW5)).cell (i := 2) rfl
        go_simp <;> first | done | rfl | (rw [IntKind.wrap_i64]; omega) | omega
      go_simp
      refine wpAnyH_ready (rs := [1, 7]) (by kernel_rfl) (by simp) ?_
      refine AllReadyH.cons rfl (fun K1 hK1 => ?_) (AllReadyH.cons rfl (fun K1 hK1 => ?_) AllReadyH.nil)
      · go_simp
        refine (HOF.out _ (HBX.out _ SW)).mono ?_
        rintro r wc ⟨a4, c4, rfl, hR4, hb4⟩
        have SWb := SW.trans (hb4.mono SW.size)
        refine hK1.out _ _ SWb (fun SW => ?_)
        clear hK1 K1 SWb hb4
        rename World => wq
        go_simp
        refine wpAnyH_ready (rs := [3, 7]) (by kernel_rfl) (by simp) ?_
        refine AllReadyH.cons rfl (fun K1 hK1 => ?_) (AllReadyH.cons rfl (fun K1 hK1 => ?_) AllReadyH.nil)
        · go_simp
          refine (Do_rule a4 c4 p hMp _ hR4 (HTW.out _ (HBX.out _ SW)) x y z HH.out).mono ?_
          rintro r wc ⟨rfl, hb5⟩
          have SWb := SW.trans (hb5.mono SW.size)
          refine hK1.out _ _ SWb (fun SW => ?_)
          clear hK1 K1 SWb hb5
          rename World => wq
          go_simp
          refine wpAnyH_take (i := 4) (v := .tuple #[.agg (chA none 0 0 0 0 0 0 0), .int .i64 8]) rfl (by kernel_rfl) (by kernel_rfl) (by kernel_rfl) (fun _ _ _ h => h) (Or.inl ⟨by rfl, ?_⟩) SW ?_
          · intro W5 hW5
            go_simp <;> first | done | rfl | (rw [IntKind.wrap_i64]; omega) | omega
          go_simp
          refine wpAnyH_take (i := 5) (v := .agg (chA none 0 0 0 0 0 0 0)) rfl (by kernel_rfl) (by kernel_rfl) (by kernel_rfl) (fun _ _ _ h => h) (Or.inl ⟨by rfl, ?_⟩) SW ?_
          · intro W5 hW5
            go_simp <;> first | done | rfl | (rw [IntKind.wrap_i64]; omega) | omega
          go_simp
          refine wpAnyH_take (i := 6) (v := .int .i64 8) rfl (by kernel_rfl) (by kernel_rfl) (by kernel_rfl) (fun _ _ _ h => h) (Or.inl ⟨by rfl, ?_⟩) SW ?_
          · intro W5 hW5
            go_simp <;> first | done | rfl | (rw [IntKind.wrap_i64]; omega) | omega
          go_simp
          refine wpAnyH_ready (rs := [7]) (by kernel_rfl) (by simp) ?_
          refine AllReadyH.cons rfl (fun K1 hK1 => ?_) AllReadyH.nil
          go_simp
          have hsz := SW.size
          obtain ⟨d, hd⟩ : ∃ d, wq.heap.size = d := ⟨_, rfl⟩
          have KZ : Ch (wq.alloc (.cells (chA none 0 0 0 0 0 0 0) 24)) d none 0 0 0 0 0 0 0 := by rw [← hd]; exact Ch.new wq none 0 0 0 0 0 0 0
          have BA : Below wq.heap.size wq (wq.alloc (.cells (chA none 0 0 0 0 0 0 0) 24)) := (Below.refl _ _).alloc (Nat.le_refl _) _
          have HDB : Hid (w3.heap.size ≤ d) := hide (by rw [← hd]; exact hsz)
          refine hK1.out _ _ (SW.alloc SW.size _) (fun SW => ?_)
          clear hK1 K1 hsz BA
          try rw [hd]
          clear hd
          obtain ⟨wz, hwz⟩ : ∃ wz, wq.alloc (.cells (chA none 0 0 0 0 0 0 0) 24) = wz := ⟨_, rfl⟩
          rw [hwz] at KZ SW ⊢
          clear hwz
          rename World => wq
          go_simp
          refine wpAnyH_ready (rs := [8]) (by kernel_rfl) (by simp) ?_
          refine AllReadyH.cons rfl (fun K1 hK1 => ?_) AllReadyH.nil
          refine wp_store_ch (.tmp 7) (.tmp 23) rfl d rfl rfl KZ ?_
          intro wc KC kk
          have SWb : Below w3.heap.size w3 wc := SW.trans (kk.below SW.size (fun q hq e => by have := HDB.out; omega))
          refine hK1.out _ _ SWb (fun SW => ?_)
          clear hK1 K1 SWb KZ
          rename World => wq
          go_simp
          refine wpAnyH_ready (rs := [9]) (by kernel_rfl) (by simp) ?_
          refine AllReadyH.cons rfl (fun K1 hK1 => ?_) AllReadyH.nil
          go_simp
          refine hK1.out _ _ SW (fun SW => ?_)
          clear hK1 K1
          go_simp
          refine wpAnyH_done (by kernel_rfl) ?_ _
          have HB4 : Hid (Below w1.heap.size w1 wq) := hide (HBX.out _ SW)
          have HS4 := hide SW
          have HKC : Hid (∀ W, Below wq.heap.size wq W → Ch W d none 0 0 0 0 0 0 0) := hide (fun W hb => KC.below hb KC.lt)
          clear SW KC
          have hch := HCH.out wq HB4.out
          go_wp2_with (refine wpList_load_ch rfl (.tmp 2) rfl g rfl hch ?_)
          refine (HOF.out wq HB4.out).mono ?_
          rintro r w5 ⟨a5, c5, rfl, hR5, hb⟩
          have HB5 : Hid (Below wq.heap.size wq w5) := hide hb
          have HX5 : Hid (Below w1.heap.size w1 w5) := hide (HB4.out.trans (hb.mono HB4.out.size))
          have HR5 := hide hR5
          clear hb hch hR5
          go_wp2_with fail
          refine (Result_yes a5 c5 p hMp w5 HR5.out (HTW.out w5 HX5.out) (HWW.out w5 HX5.out)).mono ?_
          rintro r w6 ⟨rfl, hb⟩
          have HB6 : Hid (Below wq.heap.size wq w6) := hide (HB5.out.trans (hb.mono HB5.out.size))
          have HX6 : Hid (Below w1.heap.size w1 w6) := hide (HX5.out.trans (hb.mono HX5.out.size))
          clear hb
          have hch := HCH.out w6 HX6.out
          go_wp2_with (refine wpList_load_ch rfl (.tmp 2) rfl g rfl hch ?_)
          refine (HCM.out w6 HX6.out).mono ?_
          rintro r w7 ⟨rfl, hb⟩
          have HB7 : Hid (Below wq.heap.size wq w7) := hide (HB6.out.trans (hb.mono HB6.out.size))
          have HX7 : Hid (Below w1.heap.size w1 w7) := hide (HX6.out.trans (hb.mono HX6.out.size))
          clear hb hch
          have hch := HCH.out w7 HX7.out
          go_wp2_with (refine wpList_load_ch rfl (.tmp 2) rfl g rfl hch ?_)
          refine (HMA.out w7 HX7.out).mono ?_
          rintro r w8 ⟨ad8, cp8, rfl, hO8, hb⟩
          have HB8 : Hid (Below wq.heap.size wq w8) := hide (HB7.out.trans (hb.mono HB7.out.size))
          have HX8 : Hid (Below w1.heap.size w1 w8) := hide (HX7.out.trans (hb.mono HX7.out.size))
          have HL8 : Hid (Rm3 w8 ad8 N cp8 (mvs p)) := hide (Rm3.of (by have h1 := hO8; rw [← HN.out] at h1 ⊢; exact Mr.of_own h1))
          have HLA8 : Hid (Rm3 w8 ad N cp (mvs p)) := hide (HLA.out.mono ((HS4.out.trans (HB8.out.mono HS4.out.size))))
          clear hb hch hO8
          go_wp2_with fail
          refine (sameMoves_yes _ _ _ _ _ _ w8 HLA8.out HL8.out).mono ?_
          rintro r w9 ⟨rfl, hb⟩
          have HB9 : Hid (Below wq.heap.size wq w9) := hide (HB8.out.trans (hb.mono HB8.out.size))
          have HX9 : Hid (Below w1.heap.size w1 w9) := hide (HX8.out.trans (hb.mono HX8.out.size))
          have HL9 : Hid (Rm3 w9 ad8 N cp8 (mvs p)) := hide (HL8.out.mono hb)
          clear hb HL8 HLA8
          have hch := HCH.out w9 HX9.out
          go_wp2_with (refine wpList_load_ch rfl (.tmp 2) rfl g rfl hch ?_)
          refine (HRO.out w9 HX9.out).mono ?_
          rintro r w10 ⟨rfl, hb⟩
          have HB10 : Hid (Below wq.heap.size wq w10) := hide (HB9.out.trans (hb.mono HB9.out.size))
          have HX10 : Hid (Below w1.heap.size w1 w10) := hide (HX9.out.trans (hb.mono HX9.out.size))
          have HL10 : Hid (Rm3 w10 ad8 N cp8 (mvs p)) := hide (HL9.out.mono hb)
          clear hb hch HL9
          have y0 := (HVM.out w10 HX10.out).cell (i := 0) rfl
          have y1 := (HVM.out w10 HX10.out).cell (i := 1) rfl
          have y2 := (HVM.out w10 HX10.out).cell (i := 2) rfl
          go_wp2_with fail
          refine (MoveAt_any ad8 N cp8 (mvs p) x y z w10 HL10.out).mono ?_
          rintro r w11 ⟨qv, rfl, hq, hb⟩
          rw [HH.out] at hq
          have HB11 : Hid (Below wq.heap.size wq w11) := hide (HB10.out.trans (hb.mono HB10.out.size))
          have HX11 : Hid (Below w1.heap.size w1 w11) := hide (HX10.out.trans (hb.mono HX10.out.size))
          clear hb y0 y1 y2
          have hq0 : qv < 0 := hq.2 rfl
          clear hq
          have hkc := HKC.out w11 HB11.out
          go_wp2_with (refine wpList_load_ch rfl (.tmp 7) rfl d rfl hkc ?_)
          refine (noChess_any w11).mono ?_
          rintro r w12 ⟨rfl, hb⟩
          have HX12 : Hid (Below w1.heap.size w1 w12) := hide (HX11.out.trans (hb.mono HX11.out.size))
          clear hb hkc
          go_wp2_with fail
          go_ret
          exact ⟨rfl, HB0.out.trans (HX12.out.mono HB0.out.size)⟩
        · go_simp
          have hsz := SW.size
          obtain ⟨d, hd⟩ : ∃ d, wq.heap.size = d := ⟨_, rfl⟩
          have KZ : Ch (wq.alloc (.cells (chA none 0 0 0 0 0 0 0) 24)) d none 0 0 0 0 0 0 0 := by rw [← hd]; exact Ch.new wq none 0 0 0 0 0 0 0
          have BA : Below wq.heap.size wq (wq.alloc (.cells (chA none 0 0 0 0 0 0 0) 24)) := (Below.refl _ _).alloc (Nat.le_refl _) _
          have hR4 := hR4.mono BA
          have HDB : Hid (w3.heap.size ≤ d) := hide (by rw [← hd]; exact hsz)
          refine hK1.out _ _ (SW.alloc SW.size _) (fun SW => ?_)
          clear hK1 K1 hsz BA
          try rw [hd]
          clear hd
          obtain ⟨wz, hwz⟩ : ∃ wz, wq.alloc (.cells (chA none 0 0 0 0 0 0 0) 24) = wz := ⟨_, rfl⟩
          rw [hwz] at KZ SW hR4 ⊢
          clear hwz
          rename World => wq
          go_simp
          refine wpAnyH_ready (rs := [3]) (by kernel_rfl) (by simp) ?_
          refine AllReadyH.cons rfl (fun K1 hK1 => ?_) AllReadyH.nil
          go_simp
          refine (Do_rule a4 c4 p hMp _ hR4 (HTW.out _ (HBX.out _ SW)) x y z HH.out).mono ?_
          rintro r wc ⟨rfl, hb5⟩
          have SWb := SW.trans (hb5.mono SW.size)
          have KZ := KZ.below hb5 KZ.lt
          refine hK1.out _ _ SWb (fun SW => ?_)
          clear hK1 K1 SWb hb5
          rename World => wq
          go_simp
          refine wpAnyH_take (i := 4) (v := .tuple #[.agg (chA none 0 0 0 0 0 0 0), .int .i64 8]) rfl (by kernel_rfl) (by kernel_rfl) (by kernel_rfl) (fun _ _ _ h => h) (Or.inl ⟨by rfl, ?_⟩) SW ?_
          · intro W5 hW5
            go_simp <;> first | done | rfl | (rw [IntKind.wrap_i64]; omega) | omega
          go_simp
          refine wpAnyH_take (i := 5) (v := .agg (chA none 0 0 0 0 0 0 0)) rfl (by kernel_rfl) (by kernel_rfl) (by kernel_rfl) (fun _ _ _ h => h) (Or.inl ⟨by rfl, ?_⟩) SW ?_
          · intro W5 hW5
            go_simp <;> first | done | rfl | (rw [IntKind.wrap_i64]; omega) | omega
          go_simp
          refine wpAnyH_take (i := 6) (v := .int .i64 8) rfl (by kernel_rfl) (by kernel_rfl) (by kernel_rfl) (fun _ _ _ h => h) (Or.inl ⟨by rfl, ?_⟩) SW ?_
          · intro W5 hW5
            go_simp <;> first | done | rfl | (rw [IntKind.wrap_i64]; omega) | omega
          go_simp
          refine wpAnyH_ready (rs := [8]) (by kernel_rfl) (by simp) ?_
          refine AllReadyH.cons rfl (fun K1 hK1 => ?_) AllReadyH.nil
          refine wp_store_ch (.tmp 7) (.tmp 23) rfl d rfl rfl KZ ?_
          intro wc KC kk
          have SWb : Below w3.heap.size w3 wc := SW.trans (kk.below SW.size (fun q hq e => by have := HDB.out; omega))
          refine hK1.out _ _ SWb (fun SW => ?_)
          clear hK1 K1 SWb KZ
          rename World => wq
          go_simp
          refine wpAnyH_ready (rs := [9]) (by kernel_rfl) (by simp) ?_
          refine AllReadyH.cons rfl (fun K1 hK1 => ?_) AllReadyH.nil
          go_simp
          refine hK1.out _ _ SW (fun SW => ?_)
          clear hK1 K1
          go_simp
          refine wpAnyH_done (by kernel_rfl) ?_ _
          have HB4 : Hid (Below w1.heap.size w1 wq) := hide (HBX.out _ SW)
          have HS4 := hide SW
          have HKC : Hid (∀ W, Below wq.heap.size wq W → Ch W d none 0 0 0 0 0 0 0) := hide (fun W hb => KC.below hb KC.lt)
          clear SW KC
          have hch := HCH.out wq HB4.out
          go_wp2_with (refine wpList_load_ch rfl (.tmp 2) rfl g rfl hch ?_)
          refine (HOF.out wq HB4.out).mono ?_
          rintro r w5 ⟨a5, c5, rfl, hR5, hb⟩
          have HB5 : Hid (Below wq.heap.size wq w5) := hide hb
          have HX5 : Hid (Below w1.heap.size w1 w5) := hide (HB4.out.trans (hb.mono HB4.out.size))
          have HR5 := hide hR5
          clear hb hch hR5
          go_wp2_with fail
          refine (Result_yes a5 c5 p hMp w5 HR5.out (HTW.out w5 HX5.out) (HWW.out w5 HX5.out)).mono ?_
          rintro r w6 ⟨rfl, hb⟩
          have HB6 : Hid (Below wq.heap.size wq w6) := hide (HB5.out.trans (hb.mono HB5.out.size))
          have HX6 : Hid (Below w1.heap.size w1 w6) := hide (HX5.out.trans (hb.mono HX5.out.size))
          clear hb
          have hch := HCH.out w6 HX6.out
          go_wp2_with (refine wpList_load_ch rfl (.tmp 2) rfl g rfl hch ?_)
          refine (HCM.out w6 HX6.out).mono ?_
          rintro r w7 ⟨rfl, hb⟩
          have HB7 : Hid (Below wq.heap.size wq w7) := hide (HB6.out.trans (hb.mono HB6.out.size))
          have HX7 : Hid (Below w1.heap.size w1 w7) := hide (HX6.out.trans (hb.mono HX6.out.size))
          clear hb hch
          have hch := HCH.out w7 HX7.out
          go_wp2_with (refine wpList_load_ch rfl (.tmp 2) rfl g rfl hch ?_)
          refine (HMA.out w7 HX7.out).mono ?_
          rintro r w8 ⟨ad8, cp8, rfl, hO8, hb⟩
          have HB8 : Hid (Below wq.heap.size wq w8) := hide (HB7.out.trans (hb.mono HB7.out.size))
          have HX8 : Hid (Below w1.heap.size w1 w8) := hide (HX7.out.trans (hb.mono HX7.out.size))
          have HL8 : Hid (Rm3 w8 ad8 N cp8 (mvs p)) := hide (Rm3.of (by have h1 := hO8; rw [← HN.out] at h1 ⊢; exact Mr.of_own h1))
          have HLA8 : Hid (Rm3 w8 ad N cp (mvs p)) := hide (HLA.out.mono ((HS4.out.trans (HB8.out.mono HS4.out.size))))
          clear hb hch hO8
          go_wp2_with fail
          refine (sameMoves_yes _ _ _ _ _ _ w8 HLA8.out HL8.out).mono ?_
          rintro r w9 ⟨rfl, hb⟩
          have HB9 : Hid (Below wq.heap.size wq w9) := hide (HB8.out.trans (hb.mono HB8.out.size))
          have HX9 : Hid (Below w1.heap.size w1 w9) := hide (HX8.out.trans (hb.mono HX8.out.size))
          have HL9 : Hid (Rm3 w9 ad8 N cp8 (mvs p)) := hide (HL8.out.mono hb)
          clear hb HL8 HLA8
          have hch := HCH.out w9 HX9.out
          go_wp2_with (refine wpList_load_ch rfl (.tmp 2) rfl g rfl hch ?_)
          refine (HRO.out w9 HX9.out).mono ?_
          rintro r w10 ⟨rfl, hb⟩
          have HB10 : Hid (Below wq.heap.size wq w10) := hide (HB9.out.trans (hb.mono HB9.out.size))
          have HX10 : Hid (Below w1.heap.size w1 w10) := hide (HX9.out.trans (hb.mono HX9.out.size))
          have HL10 : Hid (Rm3 w10 ad8 N cp8 (mvs p)) := hide (HL9.out.mono hb)
          clear hb hch HL9
          have y0 := (HVM.out w10 HX10.out).cell (i := 0) rfl
          have y1 := (HVM.out w10 HX10.out).cell (i := 1) rfl
          have y2 := (HVM.out w10 HX10.out).cell (i := 2) rfl
          go_wp2_with fail
          refine (MoveAt_any ad8 N cp8 (mvs p) x y z w10 HL10.out).mono ?_
          rintro r w11 ⟨qv, rfl, hq, hb⟩
          rw [HH.out] at hq
          have HB11 : Hid (Below wq.heap.size wq w11) := hide (HB10.out.trans (hb.mono HB10.out.size))
          have HX11 : Hid (Below w1.heap.size w1 w11) := hide (HX10.out.trans (hb.mono HX10.out.size))
          clear hb y0 y1 y2
          have hq0 : qv < 0 := hq.2 rfl
          clear hq
          have hkc := HKC.out w11 HB11.out
          go_wp2_with (refine wpList_load_ch rfl (.tmp 7) rfl d rfl hkc ?_)
          refine (noChess_any w11).mono ?_
          rintro r w12 ⟨rfl, hb⟩
          have HX12 : Hid (Below w1.heap.size w1 w12) := hide (HX11.out.trans (hb.mono HX11.out.size))
          clear hb hkc
          go_wp2_with fail
          go_ret
          exact ⟨rfl, HB0.out.trans (HX12.out.mono HB0.out.size)⟩
      · go_simp
        have hsz := SW.size
        obtain ⟨d, hd⟩ : ∃ d, wq.heap.size = d := ⟨_, rfl⟩
        have KZ : Ch (wq.alloc (.cells (chA none 0 0 0 0 0 0 0) 24)) d none 0 0 0 0 0 0 0 := by rw [← hd]; exact Ch.new wq none 0 0 0 0 0 0 0
        have BA : Below wq.heap.size wq (wq.alloc (.cells (chA none 0 0 0 0 0 0 0) 24)) := (Below.refl _ _).alloc (Nat.le_refl _) _
        have HDB : Hid (w3.heap.size ≤ d) := hide (by rw [← hd]; exact hsz)
        refine hK1.out _ _ (SW.alloc SW.size _) (fun SW => ?_)
        clear hK1 K1 hsz BA
        try rw [hd]
        clear hd
        obtain ⟨wz, hwz⟩ : ∃ wz, wq.alloc (.cells (chA none 0 0 0 0 0 0 0) 24) = wz := ⟨_, rfl⟩
        rw [hwz] at KZ SW ⊢
        clear hwz
        rename World => wq
        go_simp
        refine wpAnyH_ready (rs := [1]) (by kernel_rfl) (by simp) ?_
        refine AllReadyH.cons rfl (fun K1 hK1 => ?_) AllReadyH.nil
        go_simp
        refine (HOF.out _ (HBX.out _ SW)).mono ?_
        rintro r wc ⟨a4, c4, rfl, hR4, hb4⟩
        have SWb := SW.trans (hb4.mono SW.size)
        have KZ := KZ.below hb4 KZ.lt
        refine hK1.out _ _ SWb (fun SW => ?_)
        clear hK1 K1 SWb hb4
        rename World => wq
        go_simp
        refine wpAnyH_ready (rs := [3]) (by kernel_rfl) (by simp) ?_
        refine AllReadyH.cons rfl (fun K1 hK1 => ?_) AllReadyH.nil
        go_simp
        refine (Do_rule a4 c4 p hMp _ hR4 (HTW.out _ (HBX.out _ SW)) x y z HH.out).mono ?_
        rintro r wc ⟨rfl, hb5⟩
        have SWb := SW.trans (hb5.mono SW.size)
        have KZ := KZ.below hb5 KZ.lt
        refine hK1.out _ _ SWb (fun SW => ?_)
        clear hK1 K1 SWb hb5
        rename World => wq
        go_simp
        refine wpAnyH_take (i := 4) (v := .tuple #[.agg (chA none 0 0 0 0 0 0 0), .int .i64 8]) rfl (by kernel_rfl) (by kernel_rfl) (by kernel_rfl) (fun _ _ _ h => h) (Or.inl ⟨by rfl, ?_⟩) SW ?_
        · intro W5 hW5
          go_simp <;> first | done | rfl | (rw [IntKind.wrap_i64]; omega) | omega
        go_simp
        refine wpAnyH_take (i := 5) (v := .agg (chA none 0 0 0 0 0 0 0)) rfl (by kernel_rfl) (by kernel_rfl) (by kernel_rfl) (fun _ _ _ h => h) (Or.inl ⟨by rfl, ?_⟩) SW ?_
        · intro W5 hW5
          go_simp <;> first | done | rfl | (rw [IntKind.wrap_i64]; omega) | omega
        go_simp
        refine wpAnyH_take (i := 6) (v := .int .i64 8) rfl (by kernel_rfl) (by kernel_rfl) (by kernel_rfl) (fun _ _ _ h => h) (Or.inl ⟨by rfl, ?_⟩) SW ?_
        · intro W5 hW5
          go_simp <;> first | done | rfl | (rw [IntKind.wrap_i64]; omega) | omega
        go_simp
        refine wpAnyH_ready (rs := [8]) (by kernel_rfl) (by simp) ?_
        refine AllReadyH.cons rfl (fun K1 hK1 => ?_) AllReadyH.nil
        refine wp_store_ch (.tmp 7) (.tmp 23) rfl d rfl rfl KZ ?_
        intro wc KC kk
        have SWb : Below w3.heap.size w3 wc := SW.trans (kk.below SW.size (fun q hq e => by have := HDB.out; omega))
        refine hK1.out _ _ SWb (fun SW => ?_)
        clear hK1 K1 SWb KZ
        rename World => wq
        go_simp
        refine wpAnyH_ready (rs := [9]) (by kernel_rfl) (by simp) ?_
        refine AllReadyH.cons rfl (fun K1 hK1 => ?_) AllReadyH.nil
        go_simp
        refine hK1.out _ _ SW (fun SW => ?_)
        clear hK1 K1
        go_simp
        refine wpAnyH_done (by kernel_rfl) ?_ _
        have HB4 : Hid (Below w1.heap.size w1 wq) := hide (HBX.out _ SW)
        have HS4 := hide SW
        have HKC : Hid (∀ W, Below wq.heap.size wq W → Ch W d none 0 0 0 0 0 0 0) := hide (fun W hb => KC.below hb KC.lt)
        clear SW KC
        have hch := HCH.out wq HB4.out
        go_wp2_with (refine wpList_load_ch rfl (.tmp 2) rfl g rfl hch ?_)
        refine (HOF.out wq HB4.out).mono ?_
        rintro r w5 ⟨a5, c5, rfl, hR5, hb⟩
        have HB5 : Hid (Below wq.heap.size wq w5) := hide hb
        have HX5 : Hid (Below w1.heap.size w1 w5) := hide (HB4.out.trans (hb.mono HB4.out.size))
        have HR5 := hide hR5
        clear hb hch hR5
        go_wp2_with fail
        refine (Result_yes a5 c5 p hMp w5 HR5.out (HTW.out w5 HX5.out) (HWW.out w5 HX5.out)).mono ?_
        rintro r w6 ⟨rfl, hb⟩
        have HB6 : Hid (Below wq.heap.size wq w6) := hide (HB5.out.trans (hb.mono HB5.out.size))
        have HX6 : Hid (Below w1.heap.size w1 w6) := hide (HX5.out.trans (hb.mono HX5.out.size))
        clear hb
        have hch := HCH.out w6 HX6.out
        go_wp2_with (refine wpList_load_ch rfl (.tmp 2) rfl g rfl hch ?_)
        refine (HCM.out w6 HX6.out).mono ?_
        rintro r w7 ⟨rfl, hb⟩
        have HB7 : Hid (Below wq.heap.size wq w7) := hide (HB6.out.trans (hb.mono HB6.out.size))
        have HX7 : Hid (Below w1.heap.size w1 w7) := hide (HX6.out.trans (hb.mono HX6.out.size))
        clear hb hch
        have hch := HCH.out w7 HX7.out
        go_wp2_with (refine wpList_load_ch rfl (.tmp 2) rfl g rfl hch ?_)
        refine (HMA.out w7 HX7.out).mono ?_
        rintro r w8 ⟨ad8, cp8, rfl, hO8, hb⟩
        have HB8 : Hid (Below wq.heap.size wq w8) := hide (HB7.out.trans (hb.mono HB7.out.size))
        have HX8 : Hid (Below w1.heap.size w1 w8) := hide (HX7.out.trans (hb.mono HX7.out.size))
        have HL8 : Hid (Rm3 w8 ad8 N cp8 (mvs p)) := hide (Rm3.of (by have h1 := hO8; rw [← HN.out] at h1 ⊢; exact Mr.of_own h1))
        have HLA8 : Hid (Rm3 w8 ad N cp (mvs p)) := hide (HLA.out.mono ((HS4.out.trans (HB8.out.mono HS4.out.size))))
        clear hb hch hO8
        go_wp2_with fail
        refine (sameMoves_yes _ _ _ _ _ _ w8 HLA8.out HL8.out).mono ?_
        rintro r w9 ⟨rfl, hb⟩
        have HB9 : Hid (Below wq.heap.size wq w9) := hide (HB8.out.trans (hb.mono HB8.out.size))
        have HX9 : Hid (Below w1.heap.size w1 w9) := hide (HX8.out.trans (hb.mono HX8.out.size))
        have HL9 : Hid (Rm3 w9 ad8 N cp8 (mvs p)) := hide (HL8.out.mono hb)
        clear hb HL8 HLA8
        have hch := HCH.out w9 HX9.out
        go_wp2_with (refine wpList_load_ch rfl (.tmp 2) rfl g rfl hch ?_)
        refine (HRO.out w9 HX9.out).mono ?_
        rintro r w10 ⟨rfl, hb⟩
        have HB10 : Hid (Below wq.heap.size wq w10) := hide (HB9.out.trans (hb.mono HB9.out.size))
        have HX10 : Hid (Below w1.heap.size w1 w10) := hide (HX9.out.trans (hb.mono HX9.out.size))
        have HL10 : Hid (Rm3 w10 ad8 N cp8 (mvs p)) := hide (HL9.out.mono hb)
        clear hb hch HL9
        have y0 := (HVM.out w10 HX10.out).cell (i := 0) rfl
        have y1 := (HVM.out w10 HX10.out).cell (i := 1) rfl
        have y2 := (HVM.out w10 HX10.out).cell (i := 2) rfl
        go_wp2_with fail
        refine (MoveAt_any ad8 N cp8 (mvs p) x y z w10 HL10.out).mono ?_
        rintro r w11 ⟨qv, rfl, hq, hb⟩
        rw [HH.out] at hq
        have HB11 : Hid (Below wq.heap.size wq w11) := hide (HB10.out.trans (hb.mono HB10.out.size))
        have HX11 : Hid (Below w1.heap.size w1 w11) := hide (HX10.out.trans (hb.mono HX10.out.size))
        clear hb y0 y1 y2
        have hq0 : qv < 0 := hq.2 rfl
        clear hq
        have hkc := HKC.out w11 HB11.out
        go_wp2_with (refine wpList_load_ch rfl (.tmp 7) rfl d rfl hkc ?_)
        refine (noChess_any w11).mono ?_
        rintro r w12 ⟨rfl, hb⟩
        have HX12 : Hid (Below w1.heap.size w1 w12) := hide (HX11.out.trans (hb.mono HX11.out.size))
        clear hb hkc
        go_wp2_with fail
        go_ret
        exact ⟨rfl, HB0.out.trans (HX12.out.mono HB0.out.size)⟩
    | true =>
      obtain ⟨m, hm, rfl, rfl, rfl⟩ := hasB_mem hh
      have HH := hide hh
      have HDN : Hid (∀ W, Below w1.heap.size w1 W → Calls Tryd.prog 17 #[.agg (chP a c p), .agg (mvC m).toArray] W fun r w' => ∃ rb c', r = .returned (.agg (chP (some ⟨rb, 0, none⟩) c' (nxP p m))) ∧ Rd w' (some ⟨rb, 0, none⟩) 64 c' (nxP p m).Z ∧ W.heap.size ≤ rb ∧ Below W.heap.size W w') := hide (fun W hb => done_nx a c p hMp m hm W (HZW.out W hb))
      clear hh
      go_enter Tryd.func3, Tryd.ntmps3
      go_upto_region 1 with fail
      try rw [hg]
      clear hw1 hg
      go_wp2_with (refine wpList_load_ch rfl (.tmp 2) rfl g rfl hch ?_)
      refine (HOF.out w1 HB1.out).mono ?_
      rintro r w2 ⟨a2, c2, rfl, hR, hb⟩
      have HB2 : Hid (Below w1.heap.size w1 w2) := hide (HB1.out.trans (hb.mono HB1.out.size))
      have HR2 := hide hR
      clear hR hb hch
      go_wp2_with fail
      refine (All_yes a2 c2 p hMp w2 HR2.out (HTW.out w2 HB2.out)).mono ?_
      rintro r w3 ⟨v, rfl, hO, hb⟩
      have HB3 : Hid (Below w1.heap.size w1 w3) := hide (HB2.out.trans (hb.mono HB2.out.size))
      obtain ⟨ad, cp, rfl⟩ := own_form26 hO
      have HLA : Hid (Rm3 w3 ad (mvs p).length cp (mvs p)) := hide (Rm3.of (Mr.of_own hO))
      rw [HN.out] at HLA
      try rw [HN.out]
      clear hO
      clear hb HR2 HB2
      go_upto_region 2 with fail
      refine wp_region_held (S := fun W5 => Below w3.heap.size w3 W5) (by kernel_rfl) ?_
      change wpAnyH _ _ _ _ _ _ _ _ (World.drew _)
      have SW : (fun W5 => Below w3.heap.size w3 W5) w3.drew := (Below.refl _ _).drew
      have HBX : Hid (∀ W, Below w3.heap.size w3 W → Below w1.heap.size w1 W) := hide (fun W hW => HB3.out.trans (hW.mono HB3.out.size))
      generalize w3.drew = wq at *
      refine wpAnyH_take (i := 0) (v := .agg (chA a 64 c (p.t : Nat) (p.k : Nat) p.e (p.h : Nat) (p.f : Nat))) rfl (by kernel_rfl) (by kernel_rfl) (by kernel_rfl) (fun _ _ _ h => h) (yieldsIf_load_mid (by rfl) 24 _ rfl g 0 (by rfl) [.slice a 64 c, .int .i64 (p.t : Nat), .int .i64 (p.k : Nat), .int .i64 p.e, .int .i64 (p.h : Nat), .int .i64 (p.f : Nat)] _ (fun W hW => (HCH.out W (HBX.out W hW)).range) Tryd.underlying24 rfl size24) SW ?_
      go_simp
      refine wpAnyH_take (i := 2) (v := .agg #[.int .i64 (m.1 : Nat), .int .i64 (m.2.1 : Nat), .int .i64 (m.2.2 : Nat)]) rfl (by kernel_rfl) (by kernel_rfl) (by kernel_rfl) (fun _ _ _ h => h) (Or.inl ⟨by rfl, ?_⟩) SW ?_
      · intro W5 hW5
        have y0 := (HVM.out W5 (HBX.out W5 hW5)).cell (i := 0) rfl
        have y1 := (HVM.out W5 (HBX.out W5 hW5)).cell (i := 1) rfl
        have y2 := (HVM.out W5 (HBX.out W5 hW5)).cell (i := 2) rfl
        go_simp <;> first | done | rfl | (rw [IntKind.wrap_i64]; omega) | omega
      go_simp
      refine wpAnyH_ready (rs := [1, 7]) (by kernel_rfl) (by simp) ?_
      refine AllReadyH.cons rfl (fun K1 hK1 => ?_) (AllReadyH.cons rfl (fun K1 hK1 => ?_) AllReadyH.nil)
      · go_simp
        refine (HOF.out _ (HBX.out _ SW)).mono ?_
        rintro r wc ⟨a4, c4, rfl, hR4, hb4⟩
        have SWb := SW.trans (hb4.mono SW.size)
        refine hK1.out _ _ SWb (fun SW => ?_)
        clear hK1 K1 SWb hb4
        rename World => wq
        go_simp
        refine wpAnyH_ready (rs := [3, 7]) (by kernel_rfl) (by simp) ?_
        refine AllReadyH.cons rfl (fun K1 hK1 => ?_) (AllReadyH.cons rfl (fun K1 hK1 => ?_) AllReadyH.nil)
        · go_simp
          refine (Do_yes a4 c4 p hMp _ hR4 (HTW.out _ (HBX.out _ SW)) m hm).mono ?_
          rintro r wc ⟨da, dc, rfl, hrd, hb5⟩
          have SWb := SW.trans (hb5.mono SW.size)
          have HRD := hrd
          clear hrd
          refine hK1.out _ _ SWb (fun SW => ?_)
          clear hK1 K1 SWb hb5
          rename World => wq
          go_simp
          refine wpAnyH_take (i := 4) (v := .tuple #[.agg (chA da 64 dc ((nxP p m).t : Nat) ((nxP p m).k : Nat) (nxP p m).e ((nxP p m).h : Nat) ((nxP p m).f : Nat)), .int .i64 0]) rfl (by kernel_rfl) (by kernel_rfl) (by kernel_rfl) (fun _ _ _ h => h) (Or.inl ⟨by rfl, ?_⟩) SW ?_
          · intro W5 hW5
            go_simp <;> first | done | rfl | (rw [IntKind.wrap_i64]; omega) | omega
          go_simp
          refine wpAnyH_take (i := 5) (v := .agg (chA da 64 dc ((nxP p m).t : Nat) ((nxP p m).k : Nat) (nxP p m).e ((nxP p m).h : Nat) ((nxP p m).f : Nat))) rfl (by kernel_rfl) (by kernel_rfl) (by kernel_rfl) (fun _ _ _ h => h) (Or.inl ⟨by rfl, ?_⟩) SW ?_
          · intro W5 hW5
            go_simp <;> first | done | rfl | (rw [IntKind.wrap_i64]; omega) | omega
          go_simp
          refine wpAnyH_take (i := 6) (v := .int .i64 0) rfl (by kernel_rfl) (by kernel_rfl) (by kernel_rfl) (fun _ _ _ h => h) (Or.inl ⟨by rfl, ?_⟩) SW ?_
          · intro W5 hW5
            go_simp <;> first | done | rfl | (rw [IntKind.wrap_i64]; omega) | omega
          go_simp
          refine wpAnyH_ready (rs := [7]) (by kernel_rfl) (by simp) ?_
          refine AllReadyH.cons rfl (fun K1 hK1 => ?_) AllReadyH.nil
          go_simp
          have hsz := SW.size
          obtain ⟨d, hd⟩ : ∃ d, wq.heap.size = d := ⟨_, rfl⟩
          have KZ : Ch (wq.alloc (.cells (chA none 0 0 0 0 0 0 0) 24)) d none 0 0 0 0 0 0 0 := by rw [← hd]; exact Ch.new wq none 0 0 0 0 0 0 0
          have BA : Below wq.heap.size wq (wq.alloc (.cells (chA none 0 0 0 0 0 0 0) 24)) := (Below.refl _ _).alloc (Nat.le_refl _) _
          have HRD := HRD.mono BA
          have HDB : Hid (w3.heap.size ≤ d) := hide (by rw [← hd]; exact hsz)
          refine hK1.out _ _ (SW.alloc SW.size _) (fun SW => ?_)
          clear hK1 K1 hsz BA
          try rw [hd]
          clear hd
          obtain ⟨wz, hwz⟩ : ∃ wz, wq.alloc (.cells (chA none 0 0 0 0 0 0 0) 24) = wz := ⟨_, rfl⟩
          rw [hwz] at KZ SW HRD ⊢
          clear hwz
          rename World => wq
          go_simp
          refine wpAnyH_ready (rs := [8]) (by kernel_rfl) (by simp) ?_
          refine AllReadyH.cons rfl (fun K1 hK1 => ?_) AllReadyH.nil
          refine wp_store_ch (.tmp 7) (.tmp 23) rfl d rfl rfl KZ ?_
          intro wc KC kk
          have SWb : Below w3.heap.size w3 wc := SW.trans (kk.below SW.size (fun q hq e => by have := HDB.out; omega))
          have DNE := hide (rd_ne_ch HRD KZ)
          have HRD := HRD.keeps kk (fun b off e => DNE.out b off e)
          refine hK1.out _ _ SWb (fun SW => ?_)
          clear hK1 K1 SWb KZ
          rename World => wq
          go_simp
          refine wpAnyH_ready (rs := [9]) (by kernel_rfl) (by simp) ?_
          refine AllReadyH.cons rfl (fun K1 hK1 => ?_) AllReadyH.nil
          go_simp
          refine hK1.out _ _ SW (fun SW => ?_)
          clear hK1 K1
          go_simp
          refine wpAnyH_done (by kernel_rfl) ?_ _
          have HRD := hide HRD
          have HB4 : Hid (Below w1.heap.size w1 wq) := hide (HBX.out _ SW)
          have HS4 := hide SW
          have HKC : Hid (∀ W, Below wq.heap.size wq W → Ch W d da 64 dc ((nxP p m).t : Nat) ((nxP p m).k : Nat) (nxP p m).e ((nxP p m).h : Nat) ((nxP p m).f : Nat)) := hide (fun W hb => KC.below hb KC.lt)
          clear SW KC
          have hch := HCH.out wq HB4.out
          go_wp2_with (refine wpList_load_ch rfl (.tmp 2) rfl g rfl hch ?_)
          refine (HOF.out wq HB4.out).mono ?_
          rintro r w5 ⟨a5, c5, rfl, hR5, hb⟩
          have HB5 : Hid (Below wq.heap.size wq w5) := hide hb
          have HX5 : Hid (Below w1.heap.size w1 w5) := hide (HB4.out.trans (hb.mono HB4.out.size))
          have HR5 := hide hR5
          clear hb hch hR5
          go_wp2_with fail
          refine (Result_yes a5 c5 p hMp w5 HR5.out (HTW.out w5 HX5.out) (HWW.out w5 HX5.out)).mono ?_
          rintro r w6 ⟨rfl, hb⟩
          have HB6 : Hid (Below wq.heap.size wq w6) := hide (HB5.out.trans (hb.mono HB5.out.size))
          have HX6 : Hid (Below w1.heap.size w1 w6) := hide (HX5.out.trans (hb.mono HX5.out.size))
          clear hb
          have hch := HCH.out w6 HX6.out
          go_wp2_with (refine wpList_load_ch rfl (.tmp 2) rfl g rfl hch ?_)
          refine (HCM.out w6 HX6.out).mono ?_
          rintro r w7 ⟨rfl, hb⟩
          have HB7 : Hid (Below wq.heap.size wq w7) := hide (HB6.out.trans (hb.mono HB6.out.size))
          have HX7 : Hid (Below w1.heap.size w1 w7) := hide (HX6.out.trans (hb.mono HX6.out.size))
          clear hb hch
          have hch := HCH.out w7 HX7.out
          go_wp2_with (refine wpList_load_ch rfl (.tmp 2) rfl g rfl hch ?_)
          refine (HMA.out w7 HX7.out).mono ?_
          rintro r w8 ⟨ad8, cp8, rfl, hO8, hb⟩
          have HB8 : Hid (Below wq.heap.size wq w8) := hide (HB7.out.trans (hb.mono HB7.out.size))
          have HX8 : Hid (Below w1.heap.size w1 w8) := hide (HX7.out.trans (hb.mono HX7.out.size))
          have HL8 : Hid (Rm3 w8 ad8 N cp8 (mvs p)) := hide (Rm3.of (by have h1 := hO8; rw [← HN.out] at h1 ⊢; exact Mr.of_own h1))
          have HLA8 : Hid (Rm3 w8 ad N cp (mvs p)) := hide (HLA.out.mono ((HS4.out.trans (HB8.out.mono HS4.out.size))))
          clear hb hch hO8
          go_wp2_with fail
          refine (sameMoves_yes _ _ _ _ _ _ w8 HLA8.out HL8.out).mono ?_
          rintro r w9 ⟨rfl, hb⟩
          have HB9 : Hid (Below wq.heap.size wq w9) := hide (HB8.out.trans (hb.mono HB8.out.size))
          have HX9 : Hid (Below w1.heap.size w1 w9) := hide (HX8.out.trans (hb.mono HX8.out.size))
          have HL9 : Hid (Rm3 w9 ad8 N cp8 (mvs p)) := hide (HL8.out.mono hb)
          clear hb HL8 HLA8
          have hch := HCH.out w9 HX9.out
          go_wp2_with (refine wpList_load_ch rfl (.tmp 2) rfl g rfl hch ?_)
          refine (HRO.out w9 HX9.out).mono ?_
          rintro r w10 ⟨rfl, hb⟩
          have HB10 : Hid (Below wq.heap.size wq w10) := hide (HB9.out.trans (hb.mono HB9.out.size))
          have HX10 : Hid (Below w1.heap.size w1 w10) := hide (HX9.out.trans (hb.mono HX9.out.size))
          have HL10 : Hid (Rm3 w10 ad8 N cp8 (mvs p)) := hide (HL9.out.mono hb)
          clear hb hch HL9
          have y0 := (HVM.out w10 HX10.out).cell (i := 0) rfl
          have y1 := (HVM.out w10 HX10.out).cell (i := 1) rfl
          have y2 := (HVM.out w10 HX10.out).cell (i := 2) rfl
          go_wp2_with fail
          refine (MoveAt_any ad8 N cp8 (mvs p) (m.1 : Nat) (m.2.1 : Nat) (m.2.2 : Nat) w10 HL10.out).mono ?_
          rintro r w11 ⟨qv, rfl, hq, hb⟩
          rw [HH.out] at hq
          have HB11 : Hid (Below wq.heap.size wq w11) := hide (HB10.out.trans (hb.mono HB10.out.size))
          have HX11 : Hid (Below w1.heap.size w1 w11) := hide (HX10.out.trans (hb.mono HX10.out.size))
          clear hb y0 y1 y2
          have hq0 : ¬ qv < 0 := fun h0 => absurd (hq.1 h0) (by decide)
          clear hq
          have HRZ : Hid (∀ W, Below wq.heap.size wq W → Rd W da 64 dc (nxP p m).Z) := hide (fun W hb => HRD.out.mono hb)
          go_upto_region 11 with fail
          refine wp_region_held (S := fun W5 => Below w11.heap.size w11 W5) (by kernel_rfl) ?_
          change wpAnyH _ _ _ _ _ _ _ _ (World.drew _)
          have SW : (fun W5 => Below w11.heap.size w11 W5) w11.drew := (Below.refl _ _).drew
          have HBY : Hid (∀ W, Below w11.heap.size w11 W → Below wq.heap.size wq W) := hide (fun W hW => HB11.out.trans (hW.mono HB11.out.size))
          have HBZ : Hid (∀ W, Below w11.heap.size w11 W → Below w1.heap.size w1 W) := hide (fun W hW => HX11.out.trans (hW.mono HX11.out.size))
          generalize w11.drew = wv at *
          refine wpAnyH_take (i := 0) (v := .int .i64 0) rfl (by kernel_rfl) (by kernel_rfl) (by kernel_rfl) (fun _ _ _ h => h) (Or.inl ⟨by rfl, ?_⟩) SW ?_
          · intro W5 hW5
            go_simp <;> first | done | rfl | (rw [IntKind.wrap_i64]; omega) | omega
          go_simp
          refine wpAnyH_take (i := 1) (v := .bool true) rfl (by kernel_rfl) (by kernel_rfl) (by kernel_rfl) (fun _ _ _ h => h) (Or.inl ⟨by rfl, ?_⟩) SW ?_
          · intro W5 hW5
            go_simp <;> first | done | rfl | (rw [IntKind.wrap_i64]; omega) | omega
          go_simp
          refine wpAnyH_take (i := 2) (v := .bool true) rfl (by kernel_rfl) (by kernel_rfl) (by kernel_rfl) (fun _ _ _ h => h) (Or.inl ⟨by rfl, ?_⟩) SW ?_
          · intro W5 hW5
            go_simp <;> first | done | rfl | (rw [IntKind.wrap_i64]; omega) | omega
          go_simp
          refine wpAnyH_take (i := 3) (v := .agg (chP da dc (nxP p m))) rfl (by kernel_rfl) (by kernel_rfl) (by kernel_rfl) (fun _ _ _ h => h) (yieldsIf_load_mid (by rfl) 24 _ rfl d 0 (by rfl) [.slice da 64 dc, .int .i64 ((nxP p m).t : Nat), .int .i64 ((nxP p m).k : Nat), .int .i64 (nxP p m).e, .int .i64 ((nxP p m).h : Nat), .int .i64 ((nxP p m).f : Nat)] _ (fun W hW => (HKC.out W (HBY.out W hW)).range) Tryd.underlying24 rfl size24) SW ?_
          go_simp
          refine wpAnyH_take (i := 4) (v := .agg (chP a c p)) rfl (by kernel_rfl) (by kernel_rfl) (by kernel_rfl) (fun _ _ _ h => h) (yieldsIf_load_mid (by rfl) 24 _ rfl g 0 (by rfl) [.slice a 64 c, .int .i64 (p.t : Nat), .int .i64 (p.k : Nat), .int .i64 p.e, .int .i64 (p.h : Nat), .int .i64 (p.f : Nat)] _ (fun W hW => (HCH.out W (HBZ.out W hW)).range) Tryd.underlying24 rfl size24) SW ?_
          go_simp
          refine wpAnyH_take (i := 5) (v := .agg (mvC m).toArray) rfl (by kernel_rfl) (by kernel_rfl) (by kernel_rfl) (fun _ _ _ h => h) (Or.inl ⟨by rfl, ?_⟩) SW ?_
          · intro W5 hW5
            have y0 := (HVM.out W5 (HBZ.out W5 hW5)).cell (i := 0) rfl
            have y1 := (HVM.out W5 (HBZ.out W5 hW5)).cell (i := 1) rfl
            have y2 := (HVM.out W5 (HBZ.out W5 hW5)).cell (i := 2) rfl
            go_simp <;> first | done | rfl | (rw [IntKind.wrap_i64]; omega) | omega
          go_simp
          refine wpAnyH_ready (rs := [6]) (by kernel_rfl) (by simp) ?_
          refine AllReadyH.cons rfl (fun K1 hK1 => ?_) AllReadyH.nil
          go_simp
          refine (HDN.out _ (HBZ.out _ SW)).mono ?_
          rintro r wc ⟨rb, c9, rfl, hrd, -, hb9⟩
          have SWb := SW.trans (hb9.mono SW.size)
          refine hK1.out _ _ SWb (fun SW => ?_)
          clear hK1 K1 SWb
          rename World => wv
          have HR9 := hide hrd
          clear hrd hb9
          go_simp
          refine wpAnyH_ready (rs := [7]) (by kernel_rfl) (by simp) ?_
          refine AllReadyH.cons rfl (fun K1 hK1 => ?_) AllReadyH.nil
          go_simp
          refine (SameChess_yes da (some ⟨rb, 0, none⟩) 64 dc c9 (nxP p m).Z _ _ _ _ _ _ (HRZ.out _ (HBY.out _ SW)) HR9.out).mono ?_
          rintro r wc ⟨rfl, hb9⟩
          have SWb := SW.trans (hb9.mono SW.size)
          refine hK1.out _ _ SWb (fun SW => ?_)
          clear hK1 K1 SWb
          rename World => wv
          clear hb9
          go_simp
          refine wpAnyH_take (i := 8) (v := .bool true) rfl (by kernel_rfl) (by kernel_rfl) (by kernel_rfl) (fun _ _ _ h => h) (Or.inl ⟨by rfl, ?_⟩) SW ?_
          · intro W5 hW5
            go_simp <;> first | done | rfl | (rw [IntKind.wrap_i64]; omega) | omega
          go_simp
          refine wpAnyH_take (i := 9) (v := .bool true) rfl (by kernel_rfl) (by kernel_rfl) (by kernel_rfl) (fun _ _ _ h => h) (Or.inl ⟨by rfl, ?_⟩) SW ?_
          · intro W5 hW5
            go_simp <;> first | done | rfl | (rw [IntKind.wrap_i64]; omega) | omega
          go_simp
          refine wpAnyH_done (by kernel_rfl) ?_ _
          have HXE : Hid (Below w1.heap.size w1 wv) := hide (HBZ.out _ SW)
          clear SW
          go_wp2_with fail
          go_ret
          exact ⟨rfl, HB0.out.trans (HXE.out.mono HB0.out.size)⟩
        · go_simp
          have hsz := SW.size
          obtain ⟨d, hd⟩ : ∃ d, wq.heap.size = d := ⟨_, rfl⟩
          have KZ : Ch (wq.alloc (.cells (chA none 0 0 0 0 0 0 0) 24)) d none 0 0 0 0 0 0 0 := by rw [← hd]; exact Ch.new wq none 0 0 0 0 0 0 0
          have BA : Below wq.heap.size wq (wq.alloc (.cells (chA none 0 0 0 0 0 0 0) 24)) := (Below.refl _ _).alloc (Nat.le_refl _) _
          have hR4 := hR4.mono BA
          have HDB : Hid (w3.heap.size ≤ d) := hide (by rw [← hd]; exact hsz)
          refine hK1.out _ _ (SW.alloc SW.size _) (fun SW => ?_)
          clear hK1 K1 hsz BA
          try rw [hd]
          clear hd
          obtain ⟨wz, hwz⟩ : ∃ wz, wq.alloc (.cells (chA none 0 0 0 0 0 0 0) 24) = wz := ⟨_, rfl⟩
          rw [hwz] at KZ SW hR4 ⊢
          clear hwz
          rename World => wq
          go_simp
          refine wpAnyH_ready (rs := [3]) (by kernel_rfl) (by simp) ?_
          refine AllReadyH.cons rfl (fun K1 hK1 => ?_) AllReadyH.nil
          go_simp
          refine (Do_yes a4 c4 p hMp _ hR4 (HTW.out _ (HBX.out _ SW)) m hm).mono ?_
          rintro r wc ⟨da, dc, rfl, hrd, hb5⟩
          have SWb := SW.trans (hb5.mono SW.size)
          have KZ := KZ.below hb5 KZ.lt
          have HRD := hrd
          clear hrd
          refine hK1.out _ _ SWb (fun SW => ?_)
          clear hK1 K1 SWb hb5
          rename World => wq
          go_simp
          refine wpAnyH_take (i := 4) (v := .tuple #[.agg (chA da 64 dc ((nxP p m).t : Nat) ((nxP p m).k : Nat) (nxP p m).e ((nxP p m).h : Nat) ((nxP p m).f : Nat)), .int .i64 0]) rfl (by kernel_rfl) (by kernel_rfl) (by kernel_rfl) (fun _ _ _ h => h) (Or.inl ⟨by rfl, ?_⟩) SW ?_
          · intro W5 hW5
            go_simp <;> first | done | rfl | (rw [IntKind.wrap_i64]; omega) | omega
          go_simp
          refine wpAnyH_take (i := 5) (v := .agg (chA da 64 dc ((nxP p m).t : Nat) ((nxP p m).k : Nat) (nxP p m).e ((nxP p m).h : Nat) ((nxP p m).f : Nat))) rfl (by kernel_rfl) (by kernel_rfl) (by kernel_rfl) (fun _ _ _ h => h) (Or.inl ⟨by rfl, ?_⟩) SW ?_
          · intro W5 hW5
            go_simp <;> first | done | rfl | (rw [IntKind.wrap_i64]; omega) | omega
          go_simp
          refine wpAnyH_take (i := 6) (v := .int .i64 0) rfl (by kernel_rfl) (by kernel_rfl) (by kernel_rfl) (fun _ _ _ h => h) (Or.inl ⟨by rfl, ?_⟩) SW ?_
          · intro W5 hW5
            go_simp <;> first | done | rfl | (rw [IntKind.wrap_i64]; omega) | omega
          go_simp
          refine wpAnyH_ready (rs := [8]) (by kernel_rfl) (by simp) ?_
          refine AllReadyH.cons rfl (fun K1 hK1 => ?_) AllReadyH.nil
          refine wp_store_ch (.tmp 7) (.tmp 23) rfl d rfl rfl KZ ?_
          intro wc KC kk
          have SWb : Below w3.heap.size w3 wc := SW.trans (kk.below SW.size (fun q hq e => by have := HDB.out; omega))
          have DNE := hide (rd_ne_ch HRD KZ)
          have HRD := HRD.keeps kk (fun b off e => DNE.out b off e)
          refine hK1.out _ _ SWb (fun SW => ?_)
          clear hK1 K1 SWb KZ
          rename World => wq
          go_simp
          refine wpAnyH_ready (rs := [9]) (by kernel_rfl) (by simp) ?_
          refine AllReadyH.cons rfl (fun K1 hK1 => ?_) AllReadyH.nil
          go_simp
          refine hK1.out _ _ SW (fun SW => ?_)
          clear hK1 K1
          go_simp
          refine wpAnyH_done (by kernel_rfl) ?_ _
          have HRD := hide HRD
          have HB4 : Hid (Below w1.heap.size w1 wq) := hide (HBX.out _ SW)
          have HS4 := hide SW
          have HKC : Hid (∀ W, Below wq.heap.size wq W → Ch W d da 64 dc ((nxP p m).t : Nat) ((nxP p m).k : Nat) (nxP p m).e ((nxP p m).h : Nat) ((nxP p m).f : Nat)) := hide (fun W hb => KC.below hb KC.lt)
          clear SW KC
          have hch := HCH.out wq HB4.out
          go_wp2_with (refine wpList_load_ch rfl (.tmp 2) rfl g rfl hch ?_)
          refine (HOF.out wq HB4.out).mono ?_
          rintro r w5 ⟨a5, c5, rfl, hR5, hb⟩
          have HB5 : Hid (Below wq.heap.size wq w5) := hide hb
          have HX5 : Hid (Below w1.heap.size w1 w5) := hide (HB4.out.trans (hb.mono HB4.out.size))
          have HR5 := hide hR5
          clear hb hch hR5
          go_wp2_with fail
          refine (Result_yes a5 c5 p hMp w5 HR5.out (HTW.out w5 HX5.out) (HWW.out w5 HX5.out)).mono ?_
          rintro r w6 ⟨rfl, hb⟩
          have HB6 : Hid (Below wq.heap.size wq w6) := hide (HB5.out.trans (hb.mono HB5.out.size))
          have HX6 : Hid (Below w1.heap.size w1 w6) := hide (HX5.out.trans (hb.mono HX5.out.size))
          clear hb
          have hch := HCH.out w6 HX6.out
          go_wp2_with (refine wpList_load_ch rfl (.tmp 2) rfl g rfl hch ?_)
          refine (HCM.out w6 HX6.out).mono ?_
          rintro r w7 ⟨rfl, hb⟩
          have HB7 : Hid (Below wq.heap.size wq w7) := hide (HB6.out.trans (hb.mono HB6.out.size))
          have HX7 : Hid (Below w1.heap.size w1 w7) := hide (HX6.out.trans (hb.mono HX6.out.size))
          clear hb hch
          have hch := HCH.out w7 HX7.out
          go_wp2_with (refine wpList_load_ch rfl (.tmp 2) rfl g rfl hch ?_)
          refine (HMA.out w7 HX7.out).mono ?_
          rintro r w8 ⟨ad8, cp8, rfl, hO8, hb⟩
          have HB8 : Hid (Below wq.heap.size wq w8) := hide (HB7.out.trans (hb.mono HB7.out.size))
          have HX8 : Hid (Below w1.heap.size w1 w8) := hide (HX7.out.trans (hb.mono HX7.out.size))
          have HL8 : Hid (Rm3 w8 ad8 N cp8 (mvs p)) := hide (Rm3.of (by have h1 := hO8; rw [← HN.out] at h1 ⊢; exact Mr.of_own h1))
          have HLA8 : Hid (Rm3 w8 ad N cp (mvs p)) := hide (HLA.out.mono ((HS4.out.trans (HB8.out.mono HS4.out.size))))
          clear hb hch hO8
          go_wp2_with fail
          refine (sameMoves_yes _ _ _ _ _ _ w8 HLA8.out HL8.out).mono ?_
          rintro r w9 ⟨rfl, hb⟩
          have HB9 : Hid (Below wq.heap.size wq w9) := hide (HB8.out.trans (hb.mono HB8.out.size))
          have HX9 : Hid (Below w1.heap.size w1 w9) := hide (HX8.out.trans (hb.mono HX8.out.size))
          have HL9 : Hid (Rm3 w9 ad8 N cp8 (mvs p)) := hide (HL8.out.mono hb)
          clear hb HL8 HLA8
          have hch := HCH.out w9 HX9.out
          go_wp2_with (refine wpList_load_ch rfl (.tmp 2) rfl g rfl hch ?_)
          refine (HRO.out w9 HX9.out).mono ?_
          rintro r w10 ⟨rfl, hb⟩
          have HB10 : Hid (Below wq.heap.size wq w10) := hide (HB9.out.trans (hb.mono HB9.out.size))
          have HX10 : Hid (Below w1.heap.size w1 w10) := hide (HX9.out.trans (hb.mono HX9.out.size))
          have HL10 : Hid (Rm3 w10 ad8 N cp8 (mvs p)) := hide (HL9.out.mono hb)
          clear hb hch HL9
          have y0 := (HVM.out w10 HX10.out).cell (i := 0) rfl
          have y1 := (HVM.out w10 HX10.out).cell (i := 1) rfl
          have y2 := (HVM.out w10 HX10.out).cell (i := 2) rfl
          go_wp2_with fail
          refine (MoveAt_any ad8 N cp8 (mvs p) (m.1 : Nat) (m.2.1 : Nat) (m.2.2 : Nat) w10 HL10.out).mono ?_
          rintro r w11 ⟨qv, rfl, hq, hb⟩
          rw [HH.out] at hq
          have HB11 : Hid (Below wq.heap.size wq w11) := hide (HB10.out.trans (hb.mono HB10.out.size))
          have HX11 : Hid (Below w1.heap.size w1 w11) := hide (HX10.out.trans (hb.mono HX10.out.size))
          clear hb y0 y1 y2
          have hq0 : ¬ qv < 0 := fun h0 => absurd (hq.1 h0) (by decide)
          clear hq
          have HRZ : Hid (∀ W, Below wq.heap.size wq W → Rd W da 64 dc (nxP p m).Z) := hide (fun W hb => HRD.out.mono hb)
          go_upto_region 11 with fail
          refine wp_region_held (S := fun W5 => Below w11.heap.size w11 W5) (by kernel_rfl) ?_
          change wpAnyH _ _ _ _ _ _ _ _ (World.drew _)
          have SW : (fun W5 => Below w11.heap.size w11 W5) w11.drew := (Below.refl _ _).drew
          have HBY : Hid (∀ W, Below w11.heap.size w11 W → Below wq.heap.size wq W) := hide (fun W hW => HB11.out.trans (hW.mono HB11.out.size))
          have HBZ : Hid (∀ W, Below w11.heap.size w11 W → Below w1.heap.size w1 W) := hide (fun W hW => HX11.out.trans (hW.mono HX11.out.size))
          generalize w11.drew = wv at *
          refine wpAnyH_take (i := 0) (v := .int .i64 0) rfl (by kernel_rfl) (by kernel_rfl) (by kernel_rfl) (fun _ _ _ h => h) (Or.inl ⟨by rfl, ?_⟩) SW ?_
          · intro W5 hW5
            go_simp <;> first | done | rfl | (rw [IntKind.wrap_i64]; omega) | omega
          go_simp
          refine wpAnyH_take (i := 1) (v := .bool true) rfl (by kernel_rfl) (by kernel_rfl) (by kernel_rfl) (fun _ _ _ h => h) (Or.inl ⟨by rfl, ?_⟩) SW ?_
          · intro W5 hW5
            go_simp <;> first | done | rfl | (rw [IntKind.wrap_i64]; omega) | omega
          go_simp
          refine wpAnyH_take (i := 2) (v := .bool true) rfl (by kernel_rfl) (by kernel_rfl) (by kernel_rfl) (fun _ _ _ h => h) (Or.inl ⟨by rfl, ?_⟩) SW ?_
          · intro W5 hW5
            go_simp <;> first | done | rfl | (rw [IntKind.wrap_i64]; omega) | omega
          go_simp
          refine wpAnyH_take (i := 3) (v := .agg (chP da dc (nxP p m))) rfl (by kernel_rfl) (by kernel_rfl) (by kernel_rfl) (fun _ _ _ h => h) (yieldsIf_load_mid (by rfl) 24 _ rfl d 0 (by rfl) [.slice da 64 dc, .int .i64 ((nxP p m).t : Nat), .int .i64 ((nxP p m).k : Nat), .int .i64 (nxP p m).e, .int .i64 ((nxP p m).h : Nat), .int .i64 ((nxP p m).f : Nat)] _ (fun W hW => (HKC.out W (HBY.out W hW)).range) Tryd.underlying24 rfl size24) SW ?_
          go_simp
          refine wpAnyH_take (i := 4) (v := .agg (chP a c p)) rfl (by kernel_rfl) (by kernel_rfl) (by kernel_rfl) (fun _ _ _ h => h) (yieldsIf_load_mid (by rfl) 24 _ rfl g 0 (by rfl) [.slice a 64 c, .int .i64 (p.t : Nat), .int .i64 (p.k : Nat), .int .i64 p.e, .int .i64 (p.h : Nat), .int .i64 (p.f : Nat)] _ (fun W hW => (HCH.out W (HBZ.out W hW)).range) Tryd.underlying24 rfl size24) SW ?_
          go_simp
          refine wpAnyH_take (i := 5) (v := .agg (mvC m).toArray) rfl (by kernel_rfl) (by kernel_rfl) (by kernel_rfl) (fun _ _ _ h => h) (Or.inl ⟨by rfl, ?_⟩) SW ?_
          · intro W5 hW5
            have y0 := (HVM.out W5 (HBZ.out W5 hW5)).cell (i := 0) rfl
            have y1 := (HVM.out W5 (HBZ.out W5 hW5)).cell (i := 1) rfl
            have y2 := (HVM.out W5 (HBZ.out W5 hW5)).cell (i := 2) rfl
            go_simp <;> first | done | rfl | (rw [IntKind.wrap_i64]; omega) | omega
          go_simp
          refine wpAnyH_ready (rs := [6]) (by kernel_rfl) (by simp) ?_
          refine AllReadyH.cons rfl (fun K1 hK1 => ?_) AllReadyH.nil
          go_simp
          refine (HDN.out _ (HBZ.out _ SW)).mono ?_
          rintro r wc ⟨rb, c9, rfl, hrd, -, hb9⟩
          have SWb := SW.trans (hb9.mono SW.size)
          refine hK1.out _ _ SWb (fun SW => ?_)
          clear hK1 K1 SWb
          rename World => wv
          have HR9 := hide hrd
          clear hrd hb9
          go_simp
          refine wpAnyH_ready (rs := [7]) (by kernel_rfl) (by simp) ?_
          refine AllReadyH.cons rfl (fun K1 hK1 => ?_) AllReadyH.nil
          go_simp
          refine (SameChess_yes da (some ⟨rb, 0, none⟩) 64 dc c9 (nxP p m).Z _ _ _ _ _ _ (HRZ.out _ (HBY.out _ SW)) HR9.out).mono ?_
          rintro r wc ⟨rfl, hb9⟩
          have SWb := SW.trans (hb9.mono SW.size)
          refine hK1.out _ _ SWb (fun SW => ?_)
          clear hK1 K1 SWb
          rename World => wv
          clear hb9
          go_simp
          refine wpAnyH_take (i := 8) (v := .bool true) rfl (by kernel_rfl) (by kernel_rfl) (by kernel_rfl) (fun _ _ _ h => h) (Or.inl ⟨by rfl, ?_⟩) SW ?_
          · intro W5 hW5
            go_simp <;> first | done | rfl | (rw [IntKind.wrap_i64]; omega) | omega
          go_simp
          refine wpAnyH_take (i := 9) (v := .bool true) rfl (by kernel_rfl) (by kernel_rfl) (by kernel_rfl) (fun _ _ _ h => h) (Or.inl ⟨by rfl, ?_⟩) SW ?_
          · intro W5 hW5
            go_simp <;> first | done | rfl | (rw [IntKind.wrap_i64]; omega) | omega
          go_simp
          refine wpAnyH_done (by kernel_rfl) ?_ _
          have HXE : Hid (Below w1.heap.size w1 wv) := hide (HBZ.out _ SW)
          clear SW
          go_wp2_with fail
          go_ret
          exact ⟨rfl, HB0.out.trans (HXE.out.mono HB0.out.size)⟩
      · go_simp
        have hsz := SW.size
        obtain ⟨d, hd⟩ : ∃ d, wq.heap.size = d := ⟨_, rfl⟩
        have KZ : Ch (wq.alloc (.cells (chA none 0 0 0 0 0 0 0) 24)) d none 0 0 0 0 0 0 0 := by rw [← hd]; exact Ch.new wq none 0 0 0 0 0 0 0
        have BA : Below wq.heap.size wq (wq.alloc (.cells (chA none 0 0 0 0 0 0 0) 24)) := (Below.refl _ _).alloc (Nat.le_refl _) _
        have HDB : Hid (w3.heap.size ≤ d) := hide (by rw [← hd]; exact hsz)
        refine hK1.out _ _ (SW.alloc SW.size _) (fun SW => ?_)
        clear hK1 K1 hsz BA
        try rw [hd]
        clear hd
        obtain ⟨wz, hwz⟩ : ∃ wz, wq.alloc (.cells (chA none 0 0 0 0 0 0 0) 24) = wz := ⟨_, rfl⟩
        rw [hwz] at KZ SW ⊢
        clear hwz
        rename World => wq
        go_simp
        refine wpAnyH_ready (rs := [1]) (by kernel_rfl) (by simp) ?_
        refine AllReadyH.cons rfl (fun K1 hK1 => ?_) AllReadyH.nil
        go_simp
        refine (HOF.out _ (HBX.out _ SW)).mono ?_
        rintro r wc ⟨a4, c4, rfl, hR4, hb4⟩
        have SWb := SW.trans (hb4.mono SW.size)
        have KZ := KZ.below hb4 KZ.lt
        refine hK1.out _ _ SWb (fun SW => ?_)
        clear hK1 K1 SWb hb4
        rename World => wq
        go_simp
        refine wpAnyH_ready (rs := [3]) (by kernel_rfl) (by simp) ?_
        refine AllReadyH.cons rfl (fun K1 hK1 => ?_) AllReadyH.nil
        go_simp
        refine (Do_yes a4 c4 p hMp _ hR4 (HTW.out _ (HBX.out _ SW)) m hm).mono ?_
        rintro r wc ⟨da, dc, rfl, hrd, hb5⟩
        have SWb := SW.trans (hb5.mono SW.size)
        have KZ := KZ.below hb5 KZ.lt
        have HRD := hrd
        clear hrd
        refine hK1.out _ _ SWb (fun SW => ?_)
        clear hK1 K1 SWb hb5
        rename World => wq
        go_simp
        refine wpAnyH_take (i := 4) (v := .tuple #[.agg (chA da 64 dc ((nxP p m).t : Nat) ((nxP p m).k : Nat) (nxP p m).e ((nxP p m).h : Nat) ((nxP p m).f : Nat)), .int .i64 0]) rfl (by kernel_rfl) (by kernel_rfl) (by kernel_rfl) (fun _ _ _ h => h) (Or.inl ⟨by rfl, ?_⟩) SW ?_
        · intro W5 hW5
          go_simp <;> first | done | rfl | (rw [IntKind.wrap_i64]; omega) | omega
        go_simp
        refine wpAnyH_take (i := 5) (v := .agg (chA da 64 dc ((nxP p m).t : Nat) ((nxP p m).k : Nat) (nxP p m).e ((nxP p m).h : Nat) ((nxP p m).f : Nat))) rfl (by kernel_rfl) (by kernel_rfl) (by kernel_rfl) (fun _ _ _ h => h) (Or.inl ⟨by rfl, ?_⟩) SW ?_
        · intro W5 hW5
          go_simp <;> first | done | rfl | (rw [IntKind.wrap_i64]; omega) | omega
        go_simp
        refine wpAnyH_take (i := 6) (v := .int .i64 0) rfl (by kernel_rfl) (by kernel_rfl) (by kernel_rfl) (fun _ _ _ h => h) (Or.inl ⟨by rfl, ?_⟩) SW ?_
        · intro W5 hW5
          go_simp <;> first | done | rfl | (rw [IntKind.wrap_i64]; omega) | omega
        go_simp
        refine wpAnyH_ready (rs := [8]) (by kernel_rfl) (by simp) ?_
        refine AllReadyH.cons rfl (fun K1 hK1 => ?_) AllReadyH.nil
        refine wp_store_ch (.tmp 7) (.tmp 23) rfl d rfl rfl KZ ?_
        intro wc KC kk
        have SWb : Below w3.heap.size w3 wc := SW.trans (kk.below SW.size (fun q hq e => by have := HDB.out; omega))
        have DNE := hide (rd_ne_ch HRD KZ)
        have HRD := HRD.keeps kk (fun b off e => DNE.out b off e)
        refine hK1.out _ _ SWb (fun SW => ?_)
        clear hK1 K1 SWb KZ
        rename World => wq
        go_simp
        refine wpAnyH_ready (rs := [9]) (by kernel_rfl) (by simp) ?_
        refine AllReadyH.cons rfl (fun K1 hK1 => ?_) AllReadyH.nil
        go_simp
        refine hK1.out _ _ SW (fun SW => ?_)
        clear hK1 K1
        go_simp
        refine wpAnyH_done (by kernel_rfl) ?_ _
        have HRD := hide HRD
        have HB4 : Hid (Below w1.heap.size w1 wq) := hide (HBX.out _ SW)
        have HS4 := hide SW
        have HKC : Hid (∀ W, Below wq.heap.size wq W → Ch W d da 64 dc ((nxP p m).t : Nat) ((nxP p m).k : Nat) (nxP p m).e ((nxP p m).h : Nat) ((nxP p m).f : Nat)) := hide (fun W hb => KC.below hb KC.lt)
        clear SW KC
        have hch := HCH.out wq HB4.out
        go_wp2_with (refine wpList_load_ch rfl (.tmp 2) rfl g rfl hch ?_)
        refine (HOF.out wq HB4.out).mono ?_
        rintro r w5 ⟨a5, c5, rfl, hR5, hb⟩
        have HB5 : Hid (Below wq.heap.size wq w5) := hide hb
        have HX5 : Hid (Below w1.heap.size w1 w5) := hide (HB4.out.trans (hb.mono HB4.out.size))
        have HR5 := hide hR5
        clear hb hch hR5
        go_wp2_with fail
        refine (Result_yes a5 c5 p hMp w5 HR5.out (HTW.out w5 HX5.out) (HWW.out w5 HX5.out)).mono ?_
        rintro r w6 ⟨rfl, hb⟩
        have HB6 : Hid (Below wq.heap.size wq w6) := hide (HB5.out.trans (hb.mono HB5.out.size))
        have HX6 : Hid (Below w1.heap.size w1 w6) := hide (HX5.out.trans (hb.mono HX5.out.size))
        clear hb
        have hch := HCH.out w6 HX6.out
        go_wp2_with (refine wpList_load_ch rfl (.tmp 2) rfl g rfl hch ?_)
        refine (HCM.out w6 HX6.out).mono ?_
        rintro r w7 ⟨rfl, hb⟩
        have HB7 : Hid (Below wq.heap.size wq w7) := hide (HB6.out.trans (hb.mono HB6.out.size))
        have HX7 : Hid (Below w1.heap.size w1 w7) := hide (HX6.out.trans (hb.mono HX6.out.size))
        clear hb hch
        have hch := HCH.out w7 HX7.out
        go_wp2_with (refine wpList_load_ch rfl (.tmp 2) rfl g rfl hch ?_)
        refine (HMA.out w7 HX7.out).mono ?_
        rintro r w8 ⟨ad8, cp8, rfl, hO8, hb⟩
        have HB8 : Hid (Below wq.heap.size wq w8) := hide (HB7.out.trans (hb.mono HB7.out.size))
        have HX8 : Hid (Below w1.heap.size w1 w8) := hide (HX7.out.trans (hb.mono HX7.out.size))
        have HL8 : Hid (Rm3 w8 ad8 N cp8 (mvs p)) := hide (Rm3.of (by have h1 := hO8; rw [← HN.out] at h1 ⊢; exact Mr.of_own h1))
        have HLA8 : Hid (Rm3 w8 ad N cp (mvs p)) := hide (HLA.out.mono ((HS4.out.trans (HB8.out.mono HS4.out.size))))
        clear hb hch hO8
        go_wp2_with fail
        refine (sameMoves_yes _ _ _ _ _ _ w8 HLA8.out HL8.out).mono ?_
        rintro r w9 ⟨rfl, hb⟩
        have HB9 : Hid (Below wq.heap.size wq w9) := hide (HB8.out.trans (hb.mono HB8.out.size))
        have HX9 : Hid (Below w1.heap.size w1 w9) := hide (HX8.out.trans (hb.mono HX8.out.size))
        have HL9 : Hid (Rm3 w9 ad8 N cp8 (mvs p)) := hide (HL8.out.mono hb)
        clear hb HL8 HLA8
        have hch := HCH.out w9 HX9.out
        go_wp2_with (refine wpList_load_ch rfl (.tmp 2) rfl g rfl hch ?_)
        refine (HRO.out w9 HX9.out).mono ?_
        rintro r w10 ⟨rfl, hb⟩
        have HB10 : Hid (Below wq.heap.size wq w10) := hide (HB9.out.trans (hb.mono HB9.out.size))
        have HX10 : Hid (Below w1.heap.size w1 w10) := hide (HX9.out.trans (hb.mono HX9.out.size))
        have HL10 : Hid (Rm3 w10 ad8 N cp8 (mvs p)) := hide (HL9.out.mono hb)
        clear hb hch HL9
        have y0 := (HVM.out w10 HX10.out).cell (i := 0) rfl
        have y1 := (HVM.out w10 HX10.out).cell (i := 1) rfl
        have y2 := (HVM.out w10 HX10.out).cell (i := 2) rfl
        go_wp2_with fail
        refine (MoveAt_any ad8 N cp8 (mvs p) (m.1 : Nat) (m.2.1 : Nat) (m.2.2 : Nat) w10 HL10.out).mono ?_
        rintro r w11 ⟨qv, rfl, hq, hb⟩
        rw [HH.out] at hq
        have HB11 : Hid (Below wq.heap.size wq w11) := hide (HB10.out.trans (hb.mono HB10.out.size))
        have HX11 : Hid (Below w1.heap.size w1 w11) := hide (HX10.out.trans (hb.mono HX10.out.size))
        clear hb y0 y1 y2
        have hq0 : ¬ qv < 0 := fun h0 => absurd (hq.1 h0) (by decide)
        clear hq
        have HRZ : Hid (∀ W, Below wq.heap.size wq W → Rd W da 64 dc (nxP p m).Z) := hide (fun W hb => HRD.out.mono hb)
        go_upto_region 11 with fail
        refine wp_region_held (S := fun W5 => Below w11.heap.size w11 W5) (by kernel_rfl) ?_
        change wpAnyH _ _ _ _ _ _ _ _ (World.drew _)
        have SW : (fun W5 => Below w11.heap.size w11 W5) w11.drew := (Below.refl _ _).drew
        have HBY : Hid (∀ W, Below w11.heap.size w11 W → Below wq.heap.size wq W) := hide (fun W hW => HB11.out.trans (hW.mono HB11.out.size))
        have HBZ : Hid (∀ W, Below w11.heap.size w11 W → Below w1.heap.size w1 W) := hide (fun W hW => HX11.out.trans (hW.mono HX11.out.size))
        generalize w11.drew = wv at *
        refine wpAnyH_take (i := 0) (v := .int .i64 0) rfl (by kernel_rfl) (by kernel_rfl) (by kernel_rfl) (fun _ _ _ h => h) (Or.inl ⟨by rfl, ?_⟩) SW ?_
        · intro W5 hW5
          go_simp <;> first | done | rfl | (rw [IntKind.wrap_i64]; omega) | omega
        go_simp
        refine wpAnyH_take (i := 1) (v := .bool true) rfl (by kernel_rfl) (by kernel_rfl) (by kernel_rfl) (fun _ _ _ h => h) (Or.inl ⟨by rfl, ?_⟩) SW ?_
        · intro W5 hW5
          go_simp <;> first | done | rfl | (rw [IntKind.wrap_i64]; omega) | omega
        go_simp
        refine wpAnyH_take (i := 2) (v := .bool true) rfl (by kernel_rfl) (by kernel_rfl) (by kernel_rfl) (fun _ _ _ h => h) (Or.inl ⟨by rfl, ?_⟩) SW ?_
        · intro W5 hW5
          go_simp <;> first | done | rfl | (rw [IntKind.wrap_i64]; omega) | omega
        go_simp
        refine wpAnyH_take (i := 3) (v := .agg (chP da dc (nxP p m))) rfl (by kernel_rfl) (by kernel_rfl) (by kernel_rfl) (fun _ _ _ h => h) (yieldsIf_load_mid (by rfl) 24 _ rfl d 0 (by rfl) [.slice da 64 dc, .int .i64 ((nxP p m).t : Nat), .int .i64 ((nxP p m).k : Nat), .int .i64 (nxP p m).e, .int .i64 ((nxP p m).h : Nat), .int .i64 ((nxP p m).f : Nat)] _ (fun W hW => (HKC.out W (HBY.out W hW)).range) Tryd.underlying24 rfl size24) SW ?_
        go_simp
        refine wpAnyH_take (i := 4) (v := .agg (chP a c p)) rfl (by kernel_rfl) (by kernel_rfl) (by kernel_rfl) (fun _ _ _ h => h) (yieldsIf_load_mid (by rfl) 24 _ rfl g 0 (by rfl) [.slice a 64 c, .int .i64 (p.t : Nat), .int .i64 (p.k : Nat), .int .i64 p.e, .int .i64 (p.h : Nat), .int .i64 (p.f : Nat)] _ (fun W hW => (HCH.out W (HBZ.out W hW)).range) Tryd.underlying24 rfl size24) SW ?_
        go_simp
        refine wpAnyH_take (i := 5) (v := .agg (mvC m).toArray) rfl (by kernel_rfl) (by kernel_rfl) (by kernel_rfl) (fun _ _ _ h => h) (Or.inl ⟨by rfl, ?_⟩) SW ?_
        · intro W5 hW5
          have y0 := (HVM.out W5 (HBZ.out W5 hW5)).cell (i := 0) rfl
          have y1 := (HVM.out W5 (HBZ.out W5 hW5)).cell (i := 1) rfl
          have y2 := (HVM.out W5 (HBZ.out W5 hW5)).cell (i := 2) rfl
          go_simp <;> first | done | rfl | (rw [IntKind.wrap_i64]; omega) | omega
        go_simp
        refine wpAnyH_ready (rs := [6]) (by kernel_rfl) (by simp) ?_
        refine AllReadyH.cons rfl (fun K1 hK1 => ?_) AllReadyH.nil
        go_simp
        refine (HDN.out _ (HBZ.out _ SW)).mono ?_
        rintro r wc ⟨rb, c9, rfl, hrd, -, hb9⟩
        have SWb := SW.trans (hb9.mono SW.size)
        refine hK1.out _ _ SWb (fun SW => ?_)
        clear hK1 K1 SWb
        rename World => wv
        have HR9 := hide hrd
        clear hrd hb9
        go_simp
        refine wpAnyH_ready (rs := [7]) (by kernel_rfl) (by simp) ?_
        refine AllReadyH.cons rfl (fun K1 hK1 => ?_) AllReadyH.nil
        go_simp
        refine (SameChess_yes da (some ⟨rb, 0, none⟩) 64 dc c9 (nxP p m).Z _ _ _ _ _ _ (HRZ.out _ (HBY.out _ SW)) HR9.out).mono ?_
        rintro r wc ⟨rfl, hb9⟩
        have SWb := SW.trans (hb9.mono SW.size)
        refine hK1.out _ _ SWb (fun SW => ?_)
        clear hK1 K1 SWb
        rename World => wv
        clear hb9
        go_simp
        refine wpAnyH_take (i := 8) (v := .bool true) rfl (by kernel_rfl) (by kernel_rfl) (by kernel_rfl) (fun _ _ _ h => h) (Or.inl ⟨by rfl, ?_⟩) SW ?_
        · intro W5 hW5
          go_simp <;> first | done | rfl | (rw [IntKind.wrap_i64]; omega) | omega
        go_simp
        refine wpAnyH_take (i := 9) (v := .bool true) rfl (by kernel_rfl) (by kernel_rfl) (by kernel_rfl) (fun _ _ _ h => h) (Or.inl ⟨by rfl, ?_⟩) SW ?_
        · intro W5 hW5
          go_simp <;> first | done | rfl | (rw [IntKind.wrap_i64]; omega) | omega
        go_simp
        refine wpAnyH_done (by kernel_rfl) ?_ _
        have HXE : Hid (Below w1.heap.size w1 wv) := hide (HBZ.out _ SW)
        clear SW
        go_wp2_with fail
        go_ret
        exact ⟨rfl, HB0.out.trans (HXE.out.mono HB0.out.size)⟩
  · rw [dB_f hM] at HCM
    go_enter Tryd.func3, Tryd.ntmps3
    go_upto_region 1 with fail
    try rw [hg]
    clear hw1 hg
    go_wp2_with (refine wpList_load_ch rfl (.tmp 2) rfl g rfl hch ?_)
    refine (HOF.out w1 HB1.out).mono ?_
    rintro r w2 ⟨a2, c2, rfl, hR, hb⟩
    have HB2 : Hid (Below w1.heap.size w1 w2) := hide (HB1.out.trans (hb.mono HB1.out.size))
    have HR2 := hide hR
    clear hR hb hch
    go_wp2_with fail
    refine (All_no a2 n c2 Z t k e h f he1 he2 w2 HR2.out (HTW.out w2 HB2.out) hM).mono ?_
    rintro r w3 ⟨rfl, hb⟩
    have HB3 : Hid (Below w1.heap.size w1 w3) := hide (HB2.out.trans (hb.mono HB2.out.size))
    clear hb HR2 HB2
    go_upto_region 2 with fail
    refine wp_region_held (S := fun W5 => Below w3.heap.size w3 W5) (by kernel_rfl) ?_
    change wpAnyH _ _ _ _ _ _ _ _ (World.drew _)
    have SW : (fun W5 => Below w3.heap.size w3 W5) w3.drew := (Below.refl _ _).drew
    have HBX : Hid (∀ W, Below w3.heap.size w3 W → Below w1.heap.size w1 W) := hide (fun W hW => HB3.out.trans (hW.mono HB3.out.size))
    generalize w3.drew = wq at *
    refine wpAnyH_take (i := 0) (v := .agg (chA a n c t k e h f)) rfl (by kernel_rfl) (by kernel_rfl) (by kernel_rfl) (fun _ _ _ h => h) (yieldsIf_load_mid (by rfl) 24 _ rfl g 0 (by rfl) [.slice a n c, .int .i64 t, .int .i64 k, .int .i64 e, .int .i64 h, .int .i64 f] _ (fun W hW => (HCH.out W (HBX.out W hW)).range) Tryd.underlying24 rfl size24) SW ?_
    go_simp
    refine wpAnyH_take (i := 2) (v := .agg #[.int .i64 x, .int .i64 y, .int .i64 z]) rfl (by kernel_rfl) (by kernel_rfl) (by kernel_rfl) (fun _ _ _ h => h) (Or.inl ⟨by rfl, ?_⟩) SW ?_
    · intro W5 hW5
      have y0 := (HVM.out W5 (HBX.out W5 hW5)).cell (i := 0) rfl
      have y1 := (HVM.out W5 (HBX.out W5 hW5)).cell (i := 1) rfl
      have y2 := (HVM.out W5 (HBX.out W5 hW5)).cell (i := 2) rfl
      go_simp <;> first | done | rfl | (rw [IntKind.wrap_i64]; omega) | omega
    go_simp
    refine wpAnyH_ready (rs := [1, 7]) (by kernel_rfl) (by simp) ?_
    refine AllReadyH.cons rfl (fun K1 hK1 => ?_) (AllReadyH.cons rfl (fun K1 hK1 => ?_) AllReadyH.nil)
    · go_simp
      refine (HOF.out _ (HBX.out _ SW)).mono ?_
      rintro r wc ⟨a4, c4, rfl, hR4, hb4⟩
      have SWb := SW.trans (hb4.mono SW.size)
      refine hK1.out _ _ SWb (fun SW => ?_)
      clear hK1 K1 SWb hb4
      rename World => wq
      go_simp
      refine wpAnyH_ready (rs := [3, 7]) (by kernel_rfl) (by simp) ?_
      refine AllReadyH.cons rfl (fun K1 hK1 => ?_) (AllReadyH.cons rfl (fun K1 hK1 => ?_) AllReadyH.nil)
      · go_simp
        refine (Do_no a4 n c4 Z t k e h f he1 he2 _ hR4 (HTW.out _ (HBX.out _ SW)) x y z hM).mono ?_
        rintro r wc ⟨rfl, hb5⟩
        have SWb := SW.trans (hb5.mono SW.size)
        refine hK1.out _ _ SWb (fun SW => ?_)
        clear hK1 K1 SWb hb5
        rename World => wq
        go_simp
        refine wpAnyH_take (i := 4) (v := .tuple #[.agg (chA none 0 0 0 0 0 0 0), .int .i64 12]) rfl (by kernel_rfl) (by kernel_rfl) (by kernel_rfl) (fun _ _ _ h => h) (Or.inl ⟨by rfl, ?_⟩) SW ?_
        · intro W5 hW5
          go_simp <;> first | done | rfl | (rw [IntKind.wrap_i64]; omega) | omega
        go_simp
        refine wpAnyH_take (i := 5) (v := .agg (chA none 0 0 0 0 0 0 0)) rfl (by kernel_rfl) (by kernel_rfl) (by kernel_rfl) (fun _ _ _ h => h) (Or.inl ⟨by rfl, ?_⟩) SW ?_
        · intro W5 hW5
          go_simp <;> first | done | rfl | (rw [IntKind.wrap_i64]; omega) | omega
        go_simp
        refine wpAnyH_take (i := 6) (v := .int .i64 12) rfl (by kernel_rfl) (by kernel_rfl) (by kernel_rfl) (fun _ _ _ h => h) (Or.inl ⟨by rfl, ?_⟩) SW ?_
        · intro W5 hW5
          go_simp <;> first | done | rfl | (rw [IntKind.wrap_i64]; omega) | omega
        go_simp
        refine wpAnyH_ready (rs := [7]) (by kernel_rfl) (by simp) ?_
        refine AllReadyH.cons rfl (fun K1 hK1 => ?_) AllReadyH.nil
        go_simp
        have hsz := SW.size
        obtain ⟨d, hd⟩ : ∃ d, wq.heap.size = d := ⟨_, rfl⟩
        have KZ : Ch (wq.alloc (.cells (chA none 0 0 0 0 0 0 0) 24)) d none 0 0 0 0 0 0 0 := by rw [← hd]; exact Ch.new wq none 0 0 0 0 0 0 0
        have BA : Below wq.heap.size wq (wq.alloc (.cells (chA none 0 0 0 0 0 0 0) 24)) := (Below.refl _ _).alloc (Nat.le_refl _) _
        have HDB : Hid (w3.heap.size ≤ d) := hide (by rw [← hd]; exact hsz)
        refine hK1.out _ _ (SW.alloc SW.size _) (fun SW => ?_)
        clear hK1 K1 hsz BA
        try rw [hd]
        clear hd
        obtain ⟨wz, hwz⟩ : ∃ wz, wq.alloc (.cells (chA none 0 0 0 0 0 0 0) 24) = wz := ⟨_, rfl⟩
        rw [hwz] at KZ SW ⊢
        clear hwz
        rename World => wq
        go_simp
        refine wpAnyH_ready (rs := [8]) (by kernel_rfl) (by simp) ?_
        refine AllReadyH.cons rfl (fun K1 hK1 => ?_) AllReadyH.nil
        refine wp_store_ch (.tmp 7) (.tmp 23) rfl d rfl rfl KZ ?_
        intro wc KC kk
        have SWb : Below w3.heap.size w3 wc := SW.trans (kk.below SW.size (fun q hq e => by have := HDB.out; omega))
        refine hK1.out _ _ SWb (fun SW => ?_)
        clear hK1 K1 SWb KZ
        rename World => wq
        go_simp
        refine wpAnyH_ready (rs := [9]) (by kernel_rfl) (by simp) ?_
        refine AllReadyH.cons rfl (fun K1 hK1 => ?_) AllReadyH.nil
        go_simp
        refine hK1.out _ _ SW (fun SW => ?_)
        clear hK1 K1
        go_simp
        refine wpAnyH_done (by kernel_rfl) ?_ _
        have HB4 : Hid (Below w1.heap.size w1 wq) := hide (HBX.out _ SW)
        have HS4 := hide SW
        have HKC : Hid (∀ W, Below wq.heap.size wq W → Ch W d none 0 0 0 0 0 0 0) := hide (fun W hb => KC.below hb KC.lt)
        clear SW KC
        have hch := HCH.out wq HB4.out
        go_wp2_with (refine wpList_load_ch rfl (.tmp 2) rfl g rfl hch ?_)
        refine (HOF.out wq HB4.out).mono ?_
        rintro r w5 ⟨a5, c5, rfl, hR5, hb⟩
        have HB5 : Hid (Below wq.heap.size wq w5) := hide hb
        have HX5 : Hid (Below w1.heap.size w1 w5) := hide (HB4.out.trans (hb.mono HB4.out.size))
        have HR5 := hide hR5
        clear hb hch hR5
        go_wp2_with fail
        refine (Result_no a5 n c5 Z t k e h f he1 he2 w5 HR5.out (HTW.out w5 HX5.out) hM).mono ?_
        rintro r w6 ⟨rfl, hb⟩
        have HB6 : Hid (Below wq.heap.size wq w6) := hide (HB5.out.trans (hb.mono HB5.out.size))
        have HX6 : Hid (Below w1.heap.size w1 w6) := hide (HX5.out.trans (hb.mono HX5.out.size))
        clear hb
        have hch := HCH.out w6 HX6.out
        go_wp2_with (refine wpList_load_ch rfl (.tmp 2) rfl g rfl hch ?_)
        refine (HCM.out w6 HX6.out).mono ?_
        rintro r w7 ⟨rfl, hb⟩
        have HB7 : Hid (Below wq.heap.size wq w7) := hide (HB6.out.trans (hb.mono HB6.out.size))
        have HX7 : Hid (Below w1.heap.size w1 w7) := hide (HX6.out.trans (hb.mono HX6.out.size))
        clear hb hch
        have hkc := HKC.out w7 HB7.out
        go_wp2_with (refine wpList_load_ch rfl (.tmp 7) rfl d rfl hkc ?_)
        refine (noChess_any w7).mono ?_
        rintro r w8 ⟨rfl, hb⟩
        have HX8 : Hid (Below w1.heap.size w1 w8) := hide (HX7.out.trans (hb.mono HX7.out.size))
        clear hb hkc
        go_wp2_with fail
        go_ret
        exact ⟨rfl, HB0.out.trans (HX8.out.mono HB0.out.size)⟩
      · go_simp
        have hsz := SW.size
        obtain ⟨d, hd⟩ : ∃ d, wq.heap.size = d := ⟨_, rfl⟩
        have KZ : Ch (wq.alloc (.cells (chA none 0 0 0 0 0 0 0) 24)) d none 0 0 0 0 0 0 0 := by rw [← hd]; exact Ch.new wq none 0 0 0 0 0 0 0
        have BA : Below wq.heap.size wq (wq.alloc (.cells (chA none 0 0 0 0 0 0 0) 24)) := (Below.refl _ _).alloc (Nat.le_refl _) _
        have hR4 := hR4.mono BA
        have HDB : Hid (w3.heap.size ≤ d) := hide (by rw [← hd]; exact hsz)
        refine hK1.out _ _ (SW.alloc SW.size _) (fun SW => ?_)
        clear hK1 K1 hsz BA
        try rw [hd]
        clear hd
        obtain ⟨wz, hwz⟩ : ∃ wz, wq.alloc (.cells (chA none 0 0 0 0 0 0 0) 24) = wz := ⟨_, rfl⟩
        rw [hwz] at KZ SW hR4 ⊢
        clear hwz
        rename World => wq
        go_simp
        refine wpAnyH_ready (rs := [3]) (by kernel_rfl) (by simp) ?_
        refine AllReadyH.cons rfl (fun K1 hK1 => ?_) AllReadyH.nil
        go_simp
        refine (Do_no a4 n c4 Z t k e h f he1 he2 _ hR4 (HTW.out _ (HBX.out _ SW)) x y z hM).mono ?_
        rintro r wc ⟨rfl, hb5⟩
        have SWb := SW.trans (hb5.mono SW.size)
        have KZ := KZ.below hb5 KZ.lt
        refine hK1.out _ _ SWb (fun SW => ?_)
        clear hK1 K1 SWb hb5
        rename World => wq
        go_simp
        refine wpAnyH_take (i := 4) (v := .tuple #[.agg (chA none 0 0 0 0 0 0 0), .int .i64 12]) rfl (by kernel_rfl) (by kernel_rfl) (by kernel_rfl) (fun _ _ _ h => h) (Or.inl ⟨by rfl, ?_⟩) SW ?_
        · intro W5 hW5
          go_simp <;> first | done | rfl | (rw [IntKind.wrap_i64]; omega) | omega
        go_simp
        refine wpAnyH_take (i := 5) (v := .agg (chA none 0 0 0 0 0 0 0)) rfl (by kernel_rfl) (by kernel_rfl) (by kernel_rfl) (fun _ _ _ h => h) (Or.inl ⟨by rfl, ?_⟩) SW ?_
        · intro W5 hW5
          go_simp <;> first | done | rfl | (rw [IntKind.wrap_i64]; omega) | omega
        go_simp
        refine wpAnyH_take (i := 6) (v := .int .i64 12) rfl (by kernel_rfl) (by kernel_rfl) (by kernel_rfl) (fun _ _ _ h => h) (Or.inl ⟨by rfl, ?_⟩) SW ?_
        · intro W5 hW5
          go_simp <;> first | done | rfl | (rw [IntKind.wrap_i64]; omega) | omega
        go_simp
        refine wpAnyH_ready (rs := [8]) (by kernel_rfl) (by simp) ?_
        refine AllReadyH.cons rfl (fun K1 hK1 => ?_) AllReadyH.nil
        refine wp_store_ch (.tmp 7) (.tmp 23) rfl d rfl rfl KZ ?_
        intro wc KC kk
        have SWb : Below w3.heap.size w3 wc := SW.trans (kk.below SW.size (fun q hq e => by have := HDB.out; omega))
        refine hK1.out _ _ SWb (fun SW => ?_)
        clear hK1 K1 SWb KZ
        rename World => wq
        go_simp
        refine wpAnyH_ready (rs := [9]) (by kernel_rfl) (by simp) ?_
        refine AllReadyH.cons rfl (fun K1 hK1 => ?_) AllReadyH.nil
        go_simp
        refine hK1.out _ _ SW (fun SW => ?_)
        clear hK1 K1
        go_simp
        refine wpAnyH_done (by kernel_rfl) ?_ _
        have HB4 : Hid (Below w1.heap.size w1 wq) := hide (HBX.out _ SW)
        have HS4 := hide SW
        have HKC : Hid (∀ W, Below wq.heap.size wq W → Ch W d none 0 0 0 0 0 0 0) := hide (fun W hb => KC.below hb KC.lt)
        clear SW KC
        have hch := HCH.out wq HB4.out
        go_wp2_with (refine wpList_load_ch rfl (.tmp 2) rfl g rfl hch ?_)
        refine (HOF.out wq HB4.out).mono ?_
        rintro r w5 ⟨a5, c5, rfl, hR5, hb⟩
        have HB5 : Hid (Below wq.heap.size wq w5) := hide hb
        have HX5 : Hid (Below w1.heap.size w1 w5) := hide (HB4.out.trans (hb.mono HB4.out.size))
        have HR5 := hide hR5
        clear hb hch hR5
        go_wp2_with fail
        refine (Result_no a5 n c5 Z t k e h f he1 he2 w5 HR5.out (HTW.out w5 HX5.out) hM).mono ?_
        rintro r w6 ⟨rfl, hb⟩
        have HB6 : Hid (Below wq.heap.size wq w6) := hide (HB5.out.trans (hb.mono HB5.out.size))
        have HX6 : Hid (Below w1.heap.size w1 w6) := hide (HX5.out.trans (hb.mono HX5.out.size))
        clear hb
        have hch := HCH.out w6 HX6.out
        go_wp2_with (refine wpList_load_ch rfl (.tmp 2) rfl g rfl hch ?_)
        refine (HCM.out w6 HX6.out).mono ?_
        rintro r w7 ⟨rfl, hb⟩
        have HB7 : Hid (Below wq.heap.size wq w7) := hide (HB6.out.trans (hb.mono HB6.out.size))
        have HX7 : Hid (Below w1.heap.size w1 w7) := hide (HX6.out.trans (hb.mono HX6.out.size))
        clear hb hch
        have hkc := HKC.out w7 HB7.out
        go_wp2_with (refine wpList_load_ch rfl (.tmp 7) rfl d rfl hkc ?_)
        refine (noChess_any w7).mono ?_
        rintro r w8 ⟨rfl, hb⟩
        have HX8 : Hid (Below w1.heap.size w1 w8) := hide (HX7.out.trans (hb.mono HX7.out.size))
        clear hb hkc
        go_wp2_with fail
        go_ret
        exact ⟨rfl, HB0.out.trans (HX8.out.mono HB0.out.size)⟩
    · go_simp
      have hsz := SW.size
      obtain ⟨d, hd⟩ : ∃ d, wq.heap.size = d := ⟨_, rfl⟩
      have KZ : Ch (wq.alloc (.cells (chA none 0 0 0 0 0 0 0) 24)) d none 0 0 0 0 0 0 0 := by rw [← hd]; exact Ch.new wq none 0 0 0 0 0 0 0
      have BA : Below wq.heap.size wq (wq.alloc (.cells (chA none 0 0 0 0 0 0 0) 24)) := (Below.refl _ _).alloc (Nat.le_refl _) _
      have HDB : Hid (w3.heap.size ≤ d) := hide (by rw [← hd]; exact hsz)
      refine hK1.out _ _ (SW.alloc SW.size _) (fun SW => ?_)
      clear hK1 K1 hsz BA
      try rw [hd]
      clear hd
      obtain ⟨wz, hwz⟩ : ∃ wz, wq.alloc (.cells (chA none 0 0 0 0 0 0 0) 24) = wz := ⟨_, rfl⟩
      rw [hwz] at KZ SW ⊢
      clear hwz
      rename World => wq
      go_simp
      refine wpAnyH_ready (rs := [1]) (by kernel_rfl) (by simp) ?_
      refine AllReadyH.cons rfl (fun K1 hK1 => ?_) AllReadyH.nil
      go_simp
      refine (HOF.out _ (HBX.out _ SW)).mono ?_
      rintro r wc ⟨a4, c4, rfl, hR4, hb4⟩
      have SWb := SW.trans (hb4.mono SW.size)
      have KZ := KZ.below hb4 KZ.lt
      refine hK1.out _ _ SWb (fun SW => ?_)
      clear hK1 K1 SWb hb4
      rename World => wq
      go_simp
      refine wpAnyH_ready (rs := [3]) (by kernel_rfl) (by simp) ?_
      refine AllReadyH.cons rfl (fun K1 hK1 => ?_) AllReadyH.nil
      go_simp
      refine (Do_no a4 n c4 Z t k e h f he1 he2 _ hR4 (HTW.out _ (HBX.out _ SW)) x y z hM).mono ?_
      rintro r wc ⟨rfl, hb5⟩
      have SWb := SW.trans (hb5.mono SW.size)
      have KZ := KZ.below hb5 KZ.lt
      refine hK1.out _ _ SWb (fun SW => ?_)
      clear hK1 K1 SWb hb5
      rename World => wq
      go_simp
      refine wpAnyH_take (i := 4) (v := .tuple #[.agg (chA none 0 0 0 0 0 0 0), .int .i64 12]) rfl (by kernel_rfl) (by kernel_rfl) (by kernel_rfl) (fun _ _ _ h => h) (Or.inl ⟨by rfl, ?_⟩) SW ?_
      · intro W5 hW5
        go_simp <;> first | done | rfl | (rw [IntKind.wrap_i64]; omega) | omega
      go_simp
      refine wpAnyH_take (i := 5) (v := .agg (chA none 0 0 0 0 0 0 0)) rfl (by kernel_rfl) (by kernel_rfl) (by kernel_rfl) (fun _ _ _ h => h) (Or.inl ⟨by rfl, ?_⟩) SW ?_
      · intro W5 hW5
        go_simp <;> first | done | rfl | (rw [IntKind.wrap_i64]; omega) | omega
      go_simp
      refine wpAnyH_take (i := 6) (v := .int .i64 12) rfl (by kernel_rfl) (by kernel_rfl) (by kernel_rfl) (fun _ _ _ h => h) (Or.inl ⟨by rfl, ?_⟩) SW ?_
      · intro W5 hW5
        go_simp <;> first | done | rfl | (rw [IntKind.wrap_i64]; omega) | omega
      go_simp
      refine wpAnyH_ready (rs := [8]) (by kernel_rfl) (by simp) ?_
      refine AllReadyH.cons rfl (fun K1 hK1 => ?_) AllReadyH.nil
      refine wp_store_ch (.tmp 7) (.tmp 23) rfl d rfl rfl KZ ?_
      intro wc KC kk
      have SWb : Below w3.heap.size w3 wc := SW.trans (kk.below SW.size (fun q hq e => by have := HDB.out; omega))
      refine hK1.out _ _ SWb (fun SW => ?_)
      clear hK1 K1 SWb KZ
      rename World => wq
      go_simp
      refine wpAnyH_ready (rs := [9]) (by kernel_rfl) (by simp) ?_
      refine AllReadyH.cons rfl (fun K1 hK1 => ?_) AllReadyH.nil
      go_simp
      refine hK1.out _ _ SW (fun SW => ?_)
      clear hK1 K1
      go_simp
      refine wpAnyH_done (by kernel_rfl) ?_ _
      have HB4 : Hid (Below w1.heap.size w1 wq) := hide (HBX.out _ SW)
      have HS4 := hide SW
      have HKC : Hid (∀ W, Below wq.heap.size wq W → Ch W d none 0 0 0 0 0 0 0) := hide (fun W hb => KC.below hb KC.lt)
      clear SW KC
      have hch := HCH.out wq HB4.out
      go_wp2_with (refine wpList_load_ch rfl (.tmp 2) rfl g rfl hch ?_)
      refine (HOF.out wq HB4.out).mono ?_
      rintro r w5 ⟨a5, c5, rfl, hR5, hb⟩
      have HB5 : Hid (Below wq.heap.size wq w5) := hide hb
      have HX5 : Hid (Below w1.heap.size w1 w5) := hide (HB4.out.trans (hb.mono HB4.out.size))
      have HR5 := hide hR5
      clear hb hch hR5
      go_wp2_with fail
      refine (Result_no a5 n c5 Z t k e h f he1 he2 w5 HR5.out (HTW.out w5 HX5.out) hM).mono ?_
      rintro r w6 ⟨rfl, hb⟩
      have HB6 : Hid (Below wq.heap.size wq w6) := hide (HB5.out.trans (hb.mono HB5.out.size))
      have HX6 : Hid (Below w1.heap.size w1 w6) := hide (HX5.out.trans (hb.mono HX5.out.size))
      clear hb
      have hch := HCH.out w6 HX6.out
      go_wp2_with (refine wpList_load_ch rfl (.tmp 2) rfl g rfl hch ?_)
      refine (HCM.out w6 HX6.out).mono ?_
      rintro r w7 ⟨rfl, hb⟩
      have HB7 : Hid (Below wq.heap.size wq w7) := hide (HB6.out.trans (hb.mono HB6.out.size))
      have HX7 : Hid (Below w1.heap.size w1 w7) := hide (HX6.out.trans (hb.mono HX6.out.size))
      clear hb hch
      have hkc := HKC.out w7 HB7.out
      go_wp2_with (refine wpList_load_ch rfl (.tmp 7) rfl d rfl hkc ?_)
      refine (noChess_any w7).mono ?_
      rintro r w8 ⟨rfl, hb⟩
      have HX8 : Hid (Below w1.heap.size w1 w8) := hide (HX7.out.trans (hb.mono HX7.out.size))
      clear hb hkc
      go_wp2_with fail
      go_ret
      exact ⟨rfl, HB0.out.trans (HX8.out.mono HB0.out.size)⟩

end Go.Proofs.YtbhlafdfpoacjaaDoor
