/-
  gammon.Moves. No conditions beyond those that each theorem bears.
-/
import Derived.Test.YtmboikpcbkiepaaSo
import Derived.Test.YtmboikpcbkiepaaMe
import Derived.Test.YtmboikpcbkiepaaStepF
namespace Go.Proofs.Ytmboikpcbkiepaa
open Go.RowKit Go.Maps

theorem theOther_any (t : Nat) (ht : t ≤ 1) (w : World) : Calls Try.prog 37 #[.int .i64 t] w fun e w' => e = .returned (.int .i64 (1 - (t : Int))) ∧ w' = w := by
  go_enter Try.func37, Try.ntmps37
  go_wp2_with fail
  go_ret
  exact ⟨rfl, rfl⟩

theorem wp_append_bs {o : Oper} {a : Act} {K : Act → World → Prop} {Q : Exit → Act → World → Prop} (w : World) (s x : Operand)
    (ho : o.op = .call { callee := .builtin .append, args := #[s, x], argTypes := #[34, 34] }) (base : Nat) (T : Int) (v : Value) (L : List Bo) (hs : a.eval s = v) (hB : Bs base w T v L)
    (ad : Addr) (m c : Nat) (us : List Value) (M : List Bo) (hx : a.eval x = .slice (some ad) m c) (hm : M.length = m) (hcell : ∀ j u, us[j]? = some u → w.cell? (ad.add j) = some u) (hV : Bv w T us M)
    (hlen : L.length + m ≤ 100000000) (hbase : base ≤ w.heap.size)
    (h : ∀ v' w', Bs base w' T v' (L ++ M) → w.grownBy w' v.ownBlock → (∀ q, v.ownBlock = some q → base ≤ q) → K (a.put o.dst v') w') : o.wp Try.prog a w K Q := by
  obtain ⟨i0, hi, hz0, hz1, hz2⟩ := info_parts Try.info24
  obtain ⟨vs, h1, h2, h3⟩ := hB
  subst hm
  refine wp_append_own w s x 34 ho base 24 i0 _ 4 48 Try.underlying34 hi hz0 hz1 hz2 rfl (by decide) v L.length vs hs h1 ad M.length c us hx hV.len hcell hV.one (by unfold maxLen; omega) (by omega) hbase ?_
  intro v' w' ho' hg hn
  exact h v' w' (Bs.push ⟨vs, h1, h2, h3⟩ h2 hV ho' hg hn) hg (fun k hk => (h1.lt k hk).1)

theorem Rg.no_cell {w : World} {b r n cnt : Nat} {c : Int} {X L : List Int → Prop} (h : Rg w b r n c X L cnt) (i : Nat) : w.cell? ⟨r, i, none⟩ = none := by
  obtain ⟨D, left, hg, _⟩ := h.rng
  obtain ⟨es, clock, since, seen, c0, h1, h2, h3, h4, h5, h6⟩ := hg
  simp [World.cell?, h5]

theorem Bs.kept {base : Nat} {w w' : World} {T : Int} {v : Value} {L : List Bo} {Z : Nat → Prop} (h : Bs base w T v L) (hk : Keeps Z w w') (hv : ∀ q, v.ownBlock = some q → ¬ Z q) (hR : ∀ g c P, Rd w (some ⟨g, 0, none⟩) 26 c P → ¬ Z g) : Bs base w' T v L := by
  obtain ⟨vs, h1, h2, h3⟩ := h
  refine ⟨vs, ownsRow_block h1 (fun g hg => hk.block g (ownsRow_lt h1 hg) (hv g hg)), h2.imp (fun g c P hr => ?_), h3⟩
  obtain ⟨b, off, e, hc⟩ := hr.cells (by omega)
  have hl := World.block_lt_of_cell? _ _ (hc 0 (by omega))
  simp only [Option.some.injEq, Addr.mk.injEq] at e
  rw [← e.1] at hl
  exact hr.block (hk.block g hl (hR g c P hr))

theorem Rg.rd_ne {w : World} {b r n cnt : Nat} {c : Int} {X L : List Int → Prop} (h : Rg w b r n c X L cnt) {g cc : Nat} {P : List Int} (hr : Rd w (some ⟨g, 0, none⟩) 26 cc P) : ¬ g = r := by
  intro e
  obtain ⟨b', off, e', hc⟩ := hr.cells (by omega)
  simp only [Option.some.injEq, Addr.mk.injEq] at e'
  have c0 := hc 0 (by omega)
  rw [← e'.1, e, h.no_cell] at c0
  cases c0

theorem bo_len (t : Nat) (s : List Int) : (bo t s).P.length = 26 := toldP_length _ _

theorem bo_inj {t : Nat} {s s' : List Int} (h : Pr s) (h' : Pr s') (e : bo t s = bo t s') : s = s' := by
  rw [← seen_bo (t := t) h, ← seen_bo (t := t) h', e]

/-- The list that is gathered and sorted is the list of the document's. -/
theorem moves_same {t : Nat} {X : List Int → Prop} {L L' BL : List Bo} (hS : Srt BL ∧ MayL t BL ∧ Tell t BL X) (hmem : ∀ y, y ∈ L ↔ ∃ s, X s ∧ bo t s = y) (hn : L.Nodup) (hp : L'.Perm L) (hpw : L'.Pairwise (fun a b => lessO b a = false)) : L' = BL := by
  refine Srt.unique (srt_of (fun y hy => ?_) (hp.nodup_iff.2 hn) hpw) hS.1 (fun y => ?_)
  · obtain ⟨s, _, e⟩ := (hmem y).1 (hp.mem_iff.1 hy)
    rw [← e]
    exact bo_len t s
  · rw [hp.mem_iff, hmem, hS.2.2.mem]

theorem told_bo {s : List Int} (hl : s.length = 52) (hr : ∀ i, i < 52 → -1000 ≤ s.getD i 0 ∧ s.getD i 0 ≤ 1000) (t : Nat) (ht : t ≤ 1) (T : Int) (W5 : World) : Calls Try.prog 32 #[.agg (ivs s).toArray, .int .i64 t, .int .i64 T] W5 fun e w' => ∃ g, e = .returned (.agg (gmA (some ⟨g, 0, none⟩) 26 26 (bo t s).W (bo t s).B T)) ∧ Blk w' g 3 (bo t s).P ∧ W5.heap.size ≤ g ∧ Below W5.heap.size W5 w' := told_any s hl hr t ht T W5

attribute [local irreducible] mvB endsX seenL bo mayG mayP lessO wpB

set_option maxRecDepth 100000 in
set_option maxHeartbeats 4000000 in
theorem Moves_state (a : Option Addr) (n c : Nat) (P : List Int) (W B T x y : Int) (w : World) (h : Rd w a n c P) (hP : ∀ z ∈ P, -9223372036854775808 ≤ z ∧ z ≤ 9223372036854775807) (hm : mayG P W B T = false) :
    Calls Try.prog 15 #[.agg (gmA a n c W B T), .int .i64 x, .int .i64 y] w fun e w' => e = .returned (.tuple #[.slice none 0 0, .int .i64 12]) ∧ Below w.heap.size w w' := by
  have HRD := hide h
  have HP := hide hP
  clear h hP
  go_enter Try.func15, Try.ntmps15
  go_upto_region 1 with fail
  have K3 : Gm (w.alloc (Obj.cells (gmA a n c W B T) 24)) w.heap.size a n c W B T := Gm.new w _ _ _ _ _ _
  have B1 : Below w.heap.size w (w.alloc (Obj.cells (gmA a n c W B T) 24)) := (Below.refl _ w).alloc (Nat.le_refl _) _
  generalize w.alloc (Obj.cells (gmA a n c W B T) 24) = w1 at *
  go_wp2_with (refine wpList_load_gm rfl (.tmp 3) rfl w.heap.size rfl K3 ?_)
  refine (May_any a n c P W B T _ (HRD.out.mono B1) HP.out).mono ?_
  rintro e w3 ⟨rfl, hb⟩
  have B3 := B1.trans (hb.mono B1.size)
  clear hb K3 B1
  rw [hm]
  go_wp2_with fail
  go_ret2
  exact ⟨rfl, B3⟩

set_option maxRecDepth 100000 in
set_option maxHeartbeats 4000000 in
theorem Moves_pips (a : Option Addr) (n c : Nat) (P : List Int) (W B T x y : Int) (w : World) (h : Rd w a n c P) (hP : ∀ z ∈ P, -9223372036854775808 ≤ z ∧ z ≤ 9223372036854775807) (hm : mayG P W B T = true) (hxy : wpB x = true ∨ wpB y = true) :
    Calls Try.prog 15 #[.agg (gmA a n c W B T), .int .i64 x, .int .i64 y] w fun e w' => e = .returned (.tuple #[.slice none 0 0, .int .i64 3]) ∧ Below w.heap.size w w' := by
  have HRD := hide h
  have HP := hide hP
  have HXY := hide hxy
  clear h hP hxy
  go_enter Try.func15, Try.ntmps15
  go_upto_region 1 with fail
  have K3 : Gm (w.alloc (Obj.cells (gmA a n c W B T) 24)) w.heap.size a n c W B T := Gm.new w _ _ _ _ _ _
  have B1 : Below w.heap.size w (w.alloc (Obj.cells (gmA a n c W B T) 24)) := (Below.refl _ w).alloc (Nat.le_refl _) _
  generalize w.alloc (Obj.cells (gmA a n c W B T) 24) = w1 at *
  go_wp2_with (refine wpList_load_gm rfl (.tmp 3) rfl w.heap.size rfl K3 ?_)
  refine (May_any a n c P W B T _ (HRD.out.mono B1) HP.out).mono ?_
  rintro e w3 ⟨rfl, hb⟩
  have B3 := B1.trans (hb.mono B1.size)
  clear hb K3 B1
  rw [hm]
  go_wp2_with fail
  refine (wrongPips_any x _).mono ?_
  rintro e w4 ⟨rfl, hw⟩
  subst w4
  cases hx : wpB x with
  | true =>
    go_wp2_with fail
    go_ret2
    exact ⟨rfl, B3⟩
  | false =>
    have hy : wpB y = true := by
      rcases HXY.out with e | e
      · rw [hx] at e; cases e
      · exact e
    go_wp2_with fail
    refine (wrongPips_any y _).mono ?_
    rintro e w4 ⟨rfl, hw⟩
    subst w4
    rw [hy]
    go_wp2_with fail
    go_ret2
    exact ⟨rfl, B3⟩

set_option maxRecDepth 100000 in
set_option maxHeartbeats 8000000 in
theorem Moves_yes (a : Option Addr) (c : Nat) (P : List Int) (W B : Int) (t x y : Nat) (ht : t ≤ 1) (hx : 1 ≤ x ∧ x ≤ 6) (hy : 1 ≤ y ∧ y ≤ 6) (w : World) (h : Rd w a 26 c P) (hmay : mayP P W B t) :
    Calls Try.prog 15 #[.agg (gmA a 26 c W B t), .int .i64 x, .int .i64 y] w fun e w' => ∃ ga cap, e = .returned (.tuple #[.slice (some ⟨ga, 0, none⟩) (mvB t x y [⟨P, W, B⟩]).length cap, .int .i64 0]) ∧ Br w' (1 - (t : Int)) ga (mvB t x y [⟨P, W, B⟩]).length cap (mvB t x y [⟨P, W, B⟩]) ∧ Below w.heap.size w w' := by
  have HRD := hide h
  have HMG : Hid (mayG P W B t = true) := hide (by unfold mayG; exact decide_eq_true hmay)
  have H15 : Hid (∀ z ∈ P, -15 ≤ z ∧ z ≤ 15) := hide (fun z hz => ⟨hmay.low z hz, hmay.high z hz⟩)
  have HP : Hid (∀ z ∈ P, -9223372036854775808 ≤ z ∧ z ≤ 9223372036854775807) := hide (fun z hz => by have h1 := hmay.low z hz; have h2 := hmay.high z hz; omega)
  have hpx : wpB x = false := by unfold wpB; exact decide_eq_false (by omega)
  have hpy : wpB y = false := by unfold wpB; exact decide_eq_false (by omega)
  have HGD : Hid (Gd 400 (seenL P W B t)) := hide ⟨seenL_length _ _ _ _, fun i hi => ⟨(seen_pr hmay).pos i, (seen_15 P W B t hmay i hi).2⟩⟩
  have HSP := hide (mvB_spec ht hx hy hmay)
  have HSM := hide (endsX_some (seenL P W B t) x y)
  obtain ⟨BL, hBL⟩ : ∃ BL, mvB t x y [(⟨P, W, B⟩ : Bo)] = BL := ⟨_, rfl⟩
  rw [hBL] at HSP ⊢
  obtain ⟨S, hS⟩ : ∃ S, seenL P W B t = S := ⟨_, rfl⟩
  rw [hS] at HGD HSP HSM
  have HSS := hide hS
  obtain ⟨X, hX⟩ : ∃ X, endsX S x y = X := ⟨_, rfl⟩
  rw [hX] at HSP HSM
  have HXX := hide hX
  obtain ⟨T, hT⟩ : ∃ T : Int, (1 : Int) - (t : Int) = T := ⟨_, rfl⟩
  rw [hT]
  have HOT : Hid (∀ W5, Calls Try.prog 37 #[.int .i64 t] W5 fun e w' => e = .returned (.int .i64 T) ∧ w' = W5) := hide (fun W5 => by rw [← hT]; exact theOther_any t ht W5)
  clear hBL hS hX hT h hmay
  go_enter Try.func15, Try.ntmps15
  go_upto_region 1 with fail
  have K3 : Gm (w.alloc (Obj.cells (gmA a 26 c W B t) 24)) w.heap.size a 26 c W B t := Gm.new w _ _ _ _ _ _
  have B1 : Below w.heap.size w (w.alloc (Obj.cells (gmA a 26 c W B t) 24)) := (Below.refl _ w).alloc (Nat.le_refl _) _
  generalize w.alloc (Obj.cells (gmA a 26 c W B t) 24) = w1 at *
  go_wp2_with (refine wpList_load_gm rfl (.tmp 3) rfl w.heap.size rfl K3 ?_)
  refine (May_any a 26 c P W B t _ (HRD.out.mono B1) HP.out).mono ?_
  rintro e w3 ⟨rfl, hb⟩
  have K4 := K3.below hb K3.lt
  have B3 := B1.trans (hb.mono B1.size)
  clear hb K3 B1
  rw [HMG.out]
  go_wp2_with fail
  refine (wrongPips_any _ _).mono ?_
  rintro e w4 ⟨rfl, hw⟩
  subst w4
  rw [hpx]
  go_wp2_with fail
  refine (wrongPips_any _ _).mono ?_
  rintro e w4 ⟨rfl, hw⟩
  subst w4
  rw [hpy]
  go_wp2_with (refine wpList_load_gm rfl (.tmp 3) rfl w.heap.size rfl K4 ?_)
  refine (seen_any a c P W B t ht _ (HRD.out.mono B3) H15.out).mono ?_
  rintro e w5 ⟨rfl, hb⟩
  have K5 := K4.below hb K4.lt
  have B5 := B3.trans (hb.mono B3.size)
  clear hb K4 B3
  rw [HSS.out]
  go_wp2_with fail
  refine (ends_any _ S 400 HGD.out (by omega) x y hx hy).mono ?_
  rintro e w6 ⟨b, rfl, hSt, hbge, hb⟩
  rw [HXX.out] at hSt
  have hgb : w.heap.size < b := by have := K5.lt; omega
  have HK6 := hide (K5.below hb K5.lt)
  have HB6 := hide (B5.trans (hb.mono B5.size))
  have hbl := hSt.lt
  have HST := hide hSt
  clear hb K5 B5 hbge hSt
  go_wp2_with (first | (at_range; refine wpList_range_st rfl _ 62 79 rfl Try.underlying62 b 400000 (400 + 4) X rfl HST.out ?_; intro w0 cnt0 hcnt0 hrg0 hb0) | go_in)
  go_frame
  obtain ⟨r, hr⟩ : ∃ r, w6.heap.size = r := ⟨_, rfl⟩
  have HB7 := hide (HB6.out.trans (hb0.mono HB6.out.size))
  rw [hr] at hrg0 hb0 hbl ⊢
  have HK7 := hide (HK6.out.below hb0 (by omega))
  have HRG := hide hrg0
  clear hb0 hrg0 HST HK6 HB6 hr
  go_loopw [8, 26] (fun v _ wr => ∃ (Lf : List Int → Prop) (cnt : Nat) (L : List Bo), Hid (Rg wr b r 400000 (400 + 4) X Lf cnt) ∧ cnt ≤ 400000 ∧ L.length + cnt ≤ 400000 ∧ Hid (Bs (r + 1) wr T v L) ∧ Hid (∀ y, y ∈ L ↔ ∃ s, (X s ∧ ¬ Lf s) ∧ bo t s = y) ∧ Hid L.Nodup ∧ Hid (Gm wr w.heap.size a 26 c W B t) ∧ Hid (Below w.heap.size w wr)) (fun _ _ wr => wr.rangeLeft b r)
  case atStart => exact ⟨X, cnt0, [], HRG, hcnt0, by simpa using hcnt0, hide (Bs.nil _ _ _), hide (fun y => by simp), hide List.nodup_nil, HK7, HB7⟩
  case round =>
    obtain ⟨Lf, cnt, L, hrg, hcn, hm, hBs, hmem, hnd, hK, hB⟩ := hrel
    clear HRG HK7 HB7
    go_wp2_with (first | (at_next; refine wpList_next_st rfl _ rfl b r 400000 (400 + 4) (by omega) X Lf cnt rfl hrg.out ?_ ?_) | go_in)
    · intro hno
      have HME : Hid (∀ y, y ∈ L ↔ ∃ s, X s ∧ bo t s = y) := hide (fun y => by
        rw [hmem.out]
        constructor
        · rintro ⟨s, h1, h2⟩
          exact ⟨s, h1.1, h2⟩
        · rintro ⟨s, h1, h2⟩
          exact ⟨s, ⟨h1, hno s⟩, h2⟩)
      have HNE : Hid (L ≠ []) := hide (fun e => by
        obtain ⟨z, hz⟩ := HSM.out
        have := (HME.out (bo t z)).2 ⟨z, hz, rfl⟩
        rw [e] at this
        cases this)
      clear hno
      go_wp2_with fail
      refine (sort_any (r + 1) _ T _ L hBs.out HNE.out (by omega)).mono ?_
      rintro e w9 ⟨rfl, L', ga, cap, hv, hperm, hpw, hBr, hb9⟩
      have hLB := moves_same HSP.out HME.out hnd.out hperm hpw
      have hlen := hperm.length_eq
      subst hLB
      rw [← hlen] at hv hBr
      subst hv
      have HBr := hide hBr
      have HB9 := hide (hB.out.trans (hb9.mono (by omega)))
      clear hBr hb9 hpw hperm hlen hBs hmem hnd HME HNE hm
      go_wp2_with fail
      go_ret2
      exact ⟨ga, cap, rfl, HBr.out, HB9.out⟩
    · intro s w1 cnt1 hLs hgs hrg1 hlt hk1 hs1 hen
      have hrr := hrg.out.lt
      have hXs := hrg.out.sub s hLs
      have hl52 := hide hgs.len
      have HGS := hide hgs
      have hw1s : r < w1.heap.size := hrg1.lt.1
      have hbs := hrg1.st.lt
      have hown : ∀ q, u8.ownBlock = some q → r + 1 ≤ q := fun q hq => by
        obtain ⟨vs, h1, _⟩ := hBs.out
        exact (h1.lt q hq).1
      have HBs1 := hBs.out.kept hk1 (fun q hq e => by have := hown q hq; omega) (fun g cc P' hr' => hrg.out.rd_ne hr')
      have HK1 := hK.out.keeps hk1 (by omega)
      have HB1 := hB.out.trans (hk1.below hB.out.size (fun k hk e => by omega))
      have BA := (Below.refl w1.heap.size w1).alloc (Nat.le_refl _) (Obj.cells #[.int .i64 0, .int .i64 0, .int .i64 0, .int .i64 0, .int .i64 0, .int .i64 0, .int .i64 0, .int .i64 0, .int .i64 0, .int .i64 0, .int .i64 0, .int .i64 0, .int .i64 0, .int .i64 0, .int .i64 0, .int .i64 0, .int .i64 0, .int .i64 0, .int .i64 0, .int .i64 0, .int .i64 0, .int .i64 0, .int .i64 0, .int .i64 0, .int .i64 0, .int .i64 0, .int .i64 0, .int .i64 0, .int .i64 0, .int .i64 0, .int .i64 0, .int .i64 0, .int .i64 0, .int .i64 0, .int .i64 0, .int .i64 0, .int .i64 0, .int .i64 0, .int .i64 0, .int .i64 0, .int .i64 0, .int .i64 0, .int .i64 0, .int .i64 0, .int .i64 0, .int .i64 0, .int .i64 0, .int .i64 0, .int .i64 0, .int .i64 0, .int .i64 0, .int .i64 0] 54)
      have HZ1 := hide (zeros52 w1)
      have HR1 := hide hrg1
      have HBs1 := hide HBs1
      have HK1 := hide HK1
      have HB1 := hide HB1
      have HBA := hide BA
      clear BA hgs hrg1 hk1 hs1
      have HZ : Hid (∀ k, k < r + 1 ∨ k = w1.heap.size → ¬ u8.ownBlock = some k) := hide (fun k hk e => by
        have h1 := hown k e
        obtain ⟨vs, h2, _⟩ := HBs1.out
        have h3 := ownsRow_lt h2 e
        omega)
      clear hown
      go_upto_region 9 with (first | (refine wpList_store_sd rfl _ _ rfl w1.heap.size s noS hl52.out noS_length rfl rfl HZ1.out ?_; intro w2 hb2 hk2))
      have HB12 := hide (HBA.out.trans (hk2.below (by simp) (fun k hk e => by omega)))
      have HR2 := hide (HR1.out.kept (Keeps.of_below HB12.out) (by omega) (by omega))
      have HBs2 := hide (HBs1.out.below HB12.out)
      have HK2 := hide (HK1.out.below HB12.out (by omega))
      have HB2 := hide (HB1.out.trans (HB12.out.mono HB1.out.size))
      obtain ⟨sb, hsb⟩ : ∃ sb, w1.heap.size = sb := ⟨_, rfl⟩
      rw [hsb] at hb2 HZ ⊢
      have hsbl : sb < w2.heap.size := hb2.lt
      have hrs : r < sb := by omega
      have HK3 := hide hb2
      clear hen hk2 HZ1 HBA HB12 HR1 HBs1 HK1 HB1 hb2 hsb
      have SW : Gm (World.drew w2) w.heap.size a 26 c W B t ∧ Blk (World.drew w2) sb 54 s := ⟨HK2.out, HK3.out⟩
      have HTD : Hid (∀ W5, Calls Try.prog 32 #[.agg (ivs s).toArray, .int .i64 t, .int .i64 T] W5 fun e w' => ∃ g, e = .returned (.agg (gmA (some ⟨g, 0, none⟩) 26 26 (bo t s).W (bo t s).B T)) ∧ Blk w' g 3 (bo t s).P ∧ W5.heap.size ≤ g ∧ Below W5.heap.size W5 w') := hide (fun W5 => told_bo hl52.out (fun i hi => by have := HGS.out.bd i hi; omega) t ht T W5)
      obtain ⟨q, hq⟩ : ∃ q, bo t s = q := ⟨_, rfl⟩
      rw [hq] at HTD
      have HQ := hide hq
      clear hq
      refine wp_region_held (S := fun W5 => Gm W5 w.heap.size a 26 c W B t ∧ Blk W5 sb 54 s) (by kernel_rfl) ?_
      change wpAnyH _ _ _ _ _ _ _ _ (World.drew _)
      refine wpAnyH_take (i := 0) (v := u8) rfl (by kernel_rfl) (by kernel_rfl) (by kernel_rfl) (fun _ _ _ h => h) (Or.inl ⟨by rfl, ?_⟩) SW ?_
      · intro W5 hW5
        go_simp <;> first | done | rfl | (rw [IntKind.wrap_i64]; omega) | (intro hh; exfalso; omega)
      go_simp
      refine wpAnyH_take (i := 2) (v := .pointer (some ⟨w.heap.size, 3, none⟩)) rfl (by kernel_rfl) (by kernel_rfl) (by kernel_rfl) (fun _ _ _ h => h) (Or.inl ⟨by rfl, ?_⟩) SW ?_
      · intro W5 hW5
        go_simp <;> first | done | rfl | (rw [IntKind.wrap_i64]; omega) | (intro hh; exfalso; omega)
      go_simp
      refine wpAnyH_take (i := 4) (v := .pointer (some ⟨w.heap.size, 3, none⟩)) rfl (by kernel_rfl) (by kernel_rfl) (by kernel_rfl) (fun _ _ _ h => h) (Or.inl ⟨by rfl, ?_⟩) SW ?_
      · intro W5 hW5
        go_simp <;> first | done | rfl | (rw [IntKind.wrap_i64]; omega) | (intro hh; exfalso; omega)
      go_simp
      refine wpAnyH_take (i := 1) (v := .agg (ivs s).toArray) rfl (by kernel_rfl) (by kernel_rfl) (by kernel_rfl) (fun _ _ _ h => h) (yieldsIf_load_mid (by rfl) 54 _ rfl sb 0 (by rfl) (ivs s) _ (fun W hW => hW.2.range) Try.underlying54 rfl (by rw [ivs_length, hl52.out]; exact size54)) SW ?_
      go_simp
      refine wpAnyH_take (i := 3) (v := .int .i64 t) rfl (by kernel_rfl) (by kernel_rfl) (by kernel_rfl) (fun _ _ _ h => h) (Or.inl ⟨by rfl, ?_⟩) SW ?_
      · intro W5 hW5
        have q3 := hW5.1.cells.2.2.2
        go_simp <;> first | done | rfl | (rw [IntKind.wrap_i64]; omega) | (intro hh; exfalso; omega)
      go_simp
      refine wpAnyH_take (i := 5) (v := .int .i64 t) rfl (by kernel_rfl) (by kernel_rfl) (by kernel_rfl) (fun _ _ _ h => h) (Or.inl ⟨by rfl, ?_⟩) SW ?_
      · intro W5 hW5
        have q3 := hW5.1.cells.2.2.2
        go_simp <;> first | done | rfl | (rw [IntKind.wrap_i64]; omega) | (intro hh; exfalso; omega)
      go_simp
      refine wpAnyH_ready (rs := [6]) (by kernel_rfl) (by simp) ?_
      refine AllReadyH.cons rfl (fun K1 hK1 => ?_) AllReadyH.nil
      go_simp
      refine (HOT.out _).mono ?_
      rintro e w6 ⟨rfl, h6⟩
      subst w6
      refine hK1.out _ _ SW (fun SW => ?_)
      clear hK1 K1
      go_simp
      refine wpAnyH_ready (rs := [7]) (by kernel_rfl) (by simp) ?_
      refine AllReadyH.cons rfl (fun K1 hK1 => ?_) AllReadyH.nil
      go_simp
      refine (HTD.out _).mono ?_
      rintro e w3 ⟨g, rfl, hBk, hg, hb3⟩
      have hb3' : Below w2.heap.size w2 w3 := ((Below.refl w2.heap.size w2).drew).trans hb3
      clear hb3
      refine hK1.out _ _ ⟨HK2.out.below hb3' HK2.out.lt, HK3.out.below hb3' hsbl⟩ (fun SW => ?_)
      clear hK1 K1
      go_simp
      refine wpAnyH_ready (rs := [8]) (by kernel_rfl) (by simp) ?_
      refine AllReadyH.cons rfl (fun K1 hK1 => ?_) AllReadyH.nil
      go_simp
      have hb4 : Below w2.heap.size w2 (w3.alloc (.cells (gmA (some ⟨g, 0, none⟩) 26 26 q.W q.B T) 24)) := hb3'.alloc hb3'.size _
      have hRq : Rd w3 (some ⟨g, 0, none⟩) 26 26 q.P := hBk.rd (by rw [← HQ.out]; exact bo_len t s)
      obtain ⟨us, hus1, hus2⟩ : ∃ us, Bv (w3.alloc (.cells (gmA (some ⟨g, 0, none⟩) 26 26 q.W q.B T) 24)) T us [q] ∧ ∀ j u, us[j]? = some u → (w3.alloc (.cells (gmA (some ⟨g, 0, none⟩) 26 26 q.W q.B T) 24)).cell? ((⟨w3.heap.size, 0, none⟩ : Addr).add j) = some u := by
        have hs := Bs.single w3 g 26 q T hRq
        have := hs.upto (k := 1) (by simp)
        rw [List.take_of_length_le (by simp)] at this
        exact this
      have HUS1 := hide hus1
      have HUS2 := hide hus2
      have HB4 := hide hb4
      have hsz3 : w2.heap.size ≤ w3.heap.size := hb3'.size
      refine hK1.out _ _ ⟨HK2.out.below hb4 HK2.out.lt, HK3.out.below hb4 hsbl⟩ (fun SW => ?_)
      clear hK1 K1 hus1 hus2 hRq hb4 hb3' hBk
      go_simp
      refine wpAnyH_ready (rs := [9]) (by kernel_rfl) (by simp) ?_
      refine AllReadyH.cons rfl (fun K1 hK1 => ?_) AllReadyH.nil
      rw [if_pos (by rfl)]
      refine wp_append_bs _ _ _ rfl (r + 1) T u8 L rfl (HBs2.out.below HB4.out) ⟨w3.heap.size, 0, none⟩ 1 1 us [q] rfl rfl HUS2.out HUS1.out (by omega) (by simp; omega) ?_
      intro v5 w5 hBs5 hG5 hq5
      have hk5 := keeps_grown hG5
      have hz : ∀ k, k < r + 1 ∨ k = sb → ¬ u8.ownBlock = some k := HZ.out
      have HK5 := (HK2.out.below HB4.out HK2.out.lt).keeps hk5 (hz _ (by omega))
      have HBk5 := (HK3.out.below HB4.out hsbl).keeps hk5 (hz _ (by omega))
      have HR5 := hide ((HR2.out.kept (Keeps.of_below HB4.out) (by omega) (by omega)).kept hk5 (hz _ (by omega)) (hz _ (by omega)))
      have HB5 := hide ((HB2.out.trans (HB4.out.mono HB2.out.size)).trans (hk5.below (HB2.out.trans (HB4.out.mono HB2.out.size)).size (fun k hk => hz k (by omega))))
      refine hK1.out _ _ ⟨HK5, HBk5⟩ (fun SW => ?_)
      have HBs5 := hide hBs5
      have HK5 := hide HK5
      clear hK1 K1 hG5 hq5 hk5 hz HBk5 hBs5
      go_simp
      refine wpAnyH_take (i := 10) (v := v5) rfl (by kernel_rfl) (by kernel_rfl) (by kernel_rfl) (fun _ _ _ h => h) (Or.inl ⟨by rfl, ?_⟩) SW ?_
      · intro W5 hW5
        go_simp <;> first | done | rfl | (rw [IntKind.wrap_i64]; omega) | (intro hh; exfalso; omega)
      go_simp
      refine wpAnyH_done (by kernel_rfl) ?_ _
      have HL := hide (hrg.out.left_eq)
      have HL5 := hide (HR5.out.left_eq)
      go_wp2_with fail
      refine ⟨⟨_, cnt1, L ++ [q], HR5, by omega, by simp; omega, HBs5, hide (fun y => ?_), hide ?_, HK5, HB5⟩, by rw [HL.out, HL5.out]; exact hlt⟩
      · rw [List.mem_append, hmem.out, List.mem_singleton, ← HQ.out]
        constructor
        · rintro (⟨z, h1, h2⟩ | rfl)
          · exact ⟨z, ⟨h1.1, fun h => h1.2 h.1⟩, h2⟩
          · exact ⟨s, ⟨hXs, fun h => h.2 rfl⟩, rfl⟩
        · rintro ⟨z, ⟨h0, h1⟩, h2⟩
          by_cases e : z = s
          · subst e; exact Or.inr h2.symm
          · exact Or.inl ⟨z, ⟨h0, fun h => h1 ⟨h, e⟩⟩, h2⟩
      · rw [List.nodup_append]
        refine ⟨hnd.out, by simp, fun y hy z hz e => ?_⟩
        rw [List.mem_singleton] at hz
        rw [e, hz, ← HQ.out] at hy
        obtain ⟨z', h1, h2⟩ := (hmem.out _).1 hy
        have := bo_inj (HSP.out.2.2.pr z' h1.1) (HSP.out.2.2.pr s hXs) h2
        rw [this] at h1
        exact h1.2 hLs

end Go.Proofs.Ytmboikpcbkiepaa
