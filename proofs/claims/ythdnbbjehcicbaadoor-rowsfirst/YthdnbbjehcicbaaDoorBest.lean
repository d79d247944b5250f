/-
  The best that the mover can reach, and all places with which it does: rows' own search, whole. No conditions beyond those that each theorem bears.
-/
import Derived.Test.YthdnbbjehcicbaaDoorSearch
namespace Go.Proofs.YthdnbbjehcicbaaDoor
open Go.RowKit

theorem keeps_new {X : Nat → Prop} {w w1 w2 : World} {row : Option Nat} (h : Keeps X w w1) (hg : w1.grownBy w2 row) (hr : ∀ q, row = some q → w.heap.size ≤ q) : Keeps X w w2 :=
  ⟨hg.os.trans h.os, hg.tape.trans h.tape, hg.output.trans h.output, Nat.le_trans h.size hg.size, fun i hi hx => (hg.block i (Nat.lt_of_lt_of_le hi h.size) (fun e => by have := hr i e.symm; omega)).trans (h.block i hi hx)⟩

theorem GS.new {g : Gp} {w w1 w2 : World} {Z : List Int} {row : Option Nat} (h : GS g w1 Z) (hg : w1.grownBy w2 row) (hr : ∀ q, row = some q → w.heap.size ≤ q) (ho : Rd w g.oa g.ol g.oc (toI g.O)) (h1 : g.gb < w.heap.size) (h2 : g.cb < w.heap.size) (h3 : g.mb < w.heap.size) (h0 : 0 < w.heap.size) : GS g w2 Z :=
  h.keeps (keeps_grown hg) (fun e => by have := hr _ e; omega) (fun e => by have := hr _ e; omega) (fun e => by have := hr _ e; omega) (fun e => by have := hr _ e; omega) (fun hp b off e hb => by
    rw [e] at ho
    have := ho.blt hp
    have := hr _ hb
    omega)

attribute [local irreducible] inR val nE mvr ky Mp mvv bsj

set_option maxRecDepth 100000 in
set_option maxHeartbeats 4000000 in
theorem best_ok (g : Gp) (hg : g.Ok) (e : Nat) (hv : ∀ e', e = e' + 1 → ValOk g e') : BestOk g e := by
  intro Z m w hR hE hm h
  have HVO := hide (fun p (hp : p ∈ g.O) (h0 : Z.getD p 0 = 0) => show ∃ e', e = e' + 1 from by
    cases e with
    | zero =>
      exfalso
      unfold nE at hE
      have hmem : p ∈ g.O.filter fun q => Z.getD q 0 == 0 := List.mem_filter.2 ⟨hp, by simpa using h0⟩
      rw [List.eq_nil_of_length_eq_zero hE] at hmem
      cases hmem
    | succ e' => exact ⟨e', rfl⟩)
  have HCALL := hide (fun p (hp : p ∈ g.O) (h0 : Z.getD p 0 = 0) W (hW : GS g W Z) => show Calls Tryd.prog 46 #[.pointer (some ⟨g.gb, 0, none⟩), .int .i64 p, .int .i64 m] W fun r w' => r = .returned (.int .i64 (mvv g.W g.H g.k (val g.W g.H g.k g.O (e - 1)) Z m p)) ∧ GS g w' Z ∧ Keeps g.X W w' from by
    obtain ⟨e', he⟩ := HVO.out p hp h0
    have := valueOf_ok g hg e' (hv e' he) Z m p W hR (by rw [hE, he]) hm hp h0 hW
    rw [he]
    exact this)
  have HB := hide (fun p => mvv_bd (W := g.W) (H := g.H) (k := g.k) (val_bd g.W g.H g.k g.O (e - 1)) Z m p)
  obtain ⟨V, hVe⟩ : ∃ V, val g.W g.H g.k g.O (e - 1) = V := ⟨_, rfl⟩
  rw [hVe] at HCALL HB ⊢
  have HBB : Hid (∀ j, -1 ≤ (bsj g.W g.H g.k V g.O Z m j).1 ∧ (bsj g.W g.H g.k V g.O Z m j).1 ≤ 1) := hide (fun j => by rw [← hVe]; exact bsj_bd (val_bd g.W g.H g.k g.O (e - 1)) g.O Z m j)
  have hol := hg.ol
  have ho9 := hg.o9
  have hn := hg.n100
  have hcap := h.cap
  have hcm := hcap.2.1
  unfold maxLen at hcm
  have hcn := hcap.1
  have hom := h.o.max
  unfold maxLen at hom
  have hoc := h.o.cap
  obtain ⟨hl1, hl2, hl3⟩ := h.lt
  have hl0 : 0 < w.heap.size := by omega
  have HOO := hide h.o
  have HOK := hide hg
  have HOL := hide hol
  have HG0 := hide h
  obtain ⟨f0, f1, f2, f3, f4, f5⟩ := h.fields
  obtain ⟨OA, hOA⟩ : ∃ OA, g.oa = OA := ⟨_, rfl⟩
  rw [hOA] at f4
  have HOA := hide hOA
  clear hv hVe hR hE hm h hg HVO hcap hol hOA
  go_enter Tryd.func31, Tryd.ntmps31
  go_wp2_with fail
  clear f0 f1 f2 f3 f4 f5
  go_loopw [6, 7, 16] (fun u v x wr => ∃ (j cp : Nat) (ad : Option Addr), x = .int .i64 j ∧ j ≤ g.ol ∧ u = .int .i64 (bsj g.W g.H g.k V g.O Z m j).1 ∧ v = .slice ad (bsj g.W g.H g.k V g.O Z m j).2.length cp ∧ Hid (wr.ownsRow w.heap.size 3 1 (.slice ad (bsj g.W g.H g.k V g.O Z m j).2.length cp) (bsj g.W g.H g.k V g.O Z m j).2.length ((toI (bsj g.W g.H g.k V g.O Z m j).2).map (Value.int .i64))) ∧ Hid (GS g wr Z) ∧ Hid (Keeps g.X w wr)) (fun _ _ x _ => g.ol - (intOf x).toNat)
  case atStart =>
    refine ⟨0, 0, none, rfl, by omega, ?_, ?_, ?_, HG0, hide (Keeps.refl _ _)⟩
    · rw [bsj_zero]
    · rw [bsj_zero]; rfl
    · rw [bsj_zero]; exact World.ownsRow_nil _ _ _ _
  case round =>
    obtain ⟨j, cp, ad, rfl, hj, rfl, rfl, hO, hG, hX⟩ := hrel
    clear HG0
    by_cases hlt : j < g.ol
    · have hlt' : (j : Int) < (g.ol : Int) := by omega
      obtain ⟨f0, f1, f2, f3, f4, f5⟩ := hG.out.fields
      obtain ⟨ob, oo, eo, hoc2⟩ := hG.out.o.cells (by omega)
      have eO : OA = some ⟨ob, oo, none⟩ := HOA.out.symm.trans eo
      subst eO
      rw [eo] at f4
      have co := hoc2 j hlt
      have hOi : j < g.O.length := by rw [HOL.out]; exact hlt
      rw [show (toI g.O).getD j 0 = ((g.O.getD j 0 : Nat) : Int) by simp [toI, List.getD, hOi]] at co
      have hpO : g.O.getD j 0 ∈ g.O := by simp [List.getD, hOi]
      have hpn : g.O.getD j 0 < g.n := HOK.out.lt _ hpO
      have HSK := hide (bsj_skip (W := g.W) (H := g.H) (k := g.k) (V := V) (O := g.O) (Z := Z) (m := m) (j := j))
      have HNW := hide (bsj_new (W := g.W) (H := g.H) (k := g.k) (V := V) (O := g.O) (Z := Z) (m := m) (j := j))
      have HSM := hide (bsj_same (W := g.W) (H := g.H) (k := g.k) (V := V) (O := g.O) (Z := Z) (m := m) (j := j))
      have HLS := hide (bsj_less (W := g.W) (H := g.H) (k := g.k) (V := V) (O := g.O) (Z := Z) (m := m) (j := j))
      have hbl := bsj_len g.W g.H g.k V g.O Z m j
      have hbb := HBB.out j
      have HC := hide (HCALL.out _ hpO)
      have hvb := HB.out (g.O.getD j 0)
      obtain ⟨p, hp⟩ : ∃ p, g.O.getD j 0 = p := ⟨_, rfl⟩
      rw [hp] at co hpn HSK HNW HSM HLS HC hvb
      clear hp hpO hoc2
      obtain ⟨cz, -⟩ := hG.out.cell hpn
      obtain ⟨z, hz⟩ : ∃ z, Z.getD p 0 = z := ⟨_, rfl⟩
      rw [hz] at cz HSK HNW HSM HLS HC
      clear eo
      by_cases hz0 : z = 0
      · have hzb : (z != 0) = false := by simp [hz0]
        have HZ0 := hide hz0
        have HCW := hide (HC.out hz0 wr hG.out)
        clear hz hz0
        obtain ⟨v, hve⟩ : ∃ v, mvv g.W g.H g.k V Z m p = v := ⟨_, rfl⟩
        rw [hve] at hvb HNW HSM HLS HCW
        clear hve HC
        obtain ⟨Bn, hBn⟩ : ∃ Bn, bsj g.W g.H g.k V g.O Z m (j + 1) = Bn := ⟨_, rfl⟩
        rw [hBn] at HNW HSM HLS
        have HBN := hide hBn
        clear hBn HSK
        generalize bsj g.W g.H g.k V g.O Z m j = B at *
        obtain ⟨bv, bl⟩ := B
        simp only at HNW HSM HLS hbl hbb hO ⊢
        go_wp2_with fail
        refine HCW.out.mono ?_
        rintro e1 w2 ⟨rfl, hg2, hk2⟩
        have HG2 := hide hg2
        have HX2 := hide (hX.out.trans hk2)
        have HO2 : Hid (w2.ownsRow w.heap.size 3 1 (.slice ad bl.length cp) bl.length ((toI bl).map (Value.int .i64))) := hide (own_blk hO.out (fun q hq => by
          have hq2 : w.heap.size ≤ q ∧ q < wr.heap.size := by
            rcases hO.out.2 with ⟨e, _⟩ | ⟨g', cap, cur, e, h1, h2, _⟩
            · rw [e] at hq; cases hq
            · rw [e] at hq
              simp only [Value.ownBlock, Option.some.injEq] at hq
              subst hq
              exact ⟨h1, (Array.getElem?_eq_some_iff.1 h2).1⟩
          exact hk2.block q hq2.2 (by rintro (hx | hx) <;> omega)))
        clear hg2 hk2 hO hG hX HCW cz co f0 f1 f2 f3 f4 f5
        by_cases hnil : bl = []
        · have HN := hide (HNW.out HZ0.out (Or.inl hnil))
          subst hnil
          clear HNW HSM HLS
          have hvv : (v == v) = true := by simp
          have hR1 : Rd (World.alloc w2 (.cells #[.int .i64 (p : Nat)] 3)) (some ⟨w2.heap.size, 0, none⟩) 1 1 [((p : Nat) : Int)] := Rd.of_blk (Blk.new w2 3 [((p : Nat) : Int)] _ rfl) rfl (by decide)
          have hOa := (World.ownsRow_nil w2 w.heap.size 3 1).alloc (.cells #[.int .i64 (p : Nat)] 3)
          have hsz : w.heap.size ≤ (World.alloc w2 (.cells #[.int .i64 (p : Nat)] 3)).heap.size := by rw [World.size_alloc]; have := HX2.out.size; omega
          go_wp2_with (at_builtin; refine wpList_append_rd _ rfl _ _ rfl w.heap.size _ 0 [] rfl hOa (some ⟨w2.heap.size, 0, none⟩) 1 1 [((p : Nat) : Int)] rfl hR1 (by omega) hsz ?_)
          intro v' w6 hO6 hg6
          obtain ⟨ad6, cp6, rfl⟩ := slice_form hO6
          have hnew : ∀ q, (Value.slice none 0 0).ownBlock = some q → w.heap.size ≤ q := fun q hq => by cases hq
          have HX6 : Hid (Keeps g.X w w6) := hide (keeps_new (HX2.out.alloc _) hg6 hnew)
          have HG6 : Hid (GS g w6 Z) := hide (GS.new (HG2.out.grow ((Below.refl _ w2).alloc (Nat.le_refl _) (.cells #[.int .i64 (p : Nat)] 3))) hg6 (fun q hq => by have := hnew q hq; omega) HOO.out hl1 hl2 hl3 hl0)
          have HO6 := hide hO6
          clear hO6 hg6 hR1 hOa hnew
          go_wp2_with fail
          refine ⟨⟨j + 1, cp6, ad6, by go_num, by omega, ?_, ?_, ?_, HG6, HX6⟩, by simp [intOf]; omega⟩
          · rw [HBN.out, HN.out]
          · rw [HBN.out, HN.out]; rfl
          · rw [HBN.out, HN.out]; exact HO6
        · have hlen : ¬ (bl.length : Int) = 0 := by
            have : 0 < bl.length := List.length_pos_iff.2 hnil
            omega
          have hlenb : ((bl.length : Int) == 0) = false := by simpa using hlen
          by_cases hgt : bv < v
          · have hgtb : decide (bv < v) = true := decide_eq_true hgt
            have HN := hide (HNW.out HZ0.out (Or.inr hgt))
            clear HNW HSM HLS
            have hvv : (v == v) = true := by simp
            have hR1 : Rd (World.alloc w2 (.cells #[.int .i64 (p : Nat)] 3)) (some ⟨w2.heap.size, 0, none⟩) 1 1 [((p : Nat) : Int)] := Rd.of_blk (Blk.new w2 3 [((p : Nat) : Int)] _ rfl) rfl (by decide)
            have hOa := (World.ownsRow_nil w2 w.heap.size 3 1).alloc (.cells #[.int .i64 (p : Nat)] 3)
            have hsz : w.heap.size ≤ (World.alloc w2 (.cells #[.int .i64 (p : Nat)] 3)).heap.size := by rw [World.size_alloc]; have := HX2.out.size; omega
            go_wp2_with (at_builtin; refine wpList_append_rd _ rfl _ _ rfl w.heap.size _ 0 [] rfl hOa (some ⟨w2.heap.size, 0, none⟩) 1 1 [((p : Nat) : Int)] rfl hR1 (by omega) hsz ?_)
            intro v' w6 hO6 hg6
            obtain ⟨ad6, cp6, rfl⟩ := slice_form hO6
            have hnew : ∀ q, (Value.slice none 0 0).ownBlock = some q → w.heap.size ≤ q := fun q hq => by cases hq
            have HX6 : Hid (Keeps g.X w w6) := hide (keeps_new (HX2.out.alloc _) hg6 hnew)
            have HG6 : Hid (GS g w6 Z) := hide (GS.new (HG2.out.grow ((Below.refl _ w2).alloc (Nat.le_refl _) (.cells #[.int .i64 (p : Nat)] 3))) hg6 (fun q hq => by have := hnew q hq; omega) HOO.out hl1 hl2 hl3 hl0)
            have HO6 := hide hO6
            clear hO6 hg6 hR1 hOa hnew
            go_wp2_with fail
            refine ⟨⟨j + 1, cp6, ad6, by go_num, by omega, ?_, ?_, ?_, HG6, HX6⟩, by simp [intOf]; omega⟩
            · rw [HBN.out, HN.out]
            · rw [HBN.out, HN.out]; rfl
            · rw [HBN.out, HN.out]; exact HO6
          · have hgtb : decide (bv < v) = false := decide_eq_false hgt
            by_cases heq : v = bv
            · have HN := hide (HSM.out HZ0.out hnil heq)
              have hvv : (v == bv) = true := by simpa using heq
              have HEQ := hide heq
              clear HNW HSM HLS heq
              have hR1 : Rd (World.alloc w2 (.cells #[.int .i64 (p : Nat)] 3)) (some ⟨w2.heap.size, 0, none⟩) 1 1 [((p : Nat) : Int)] := Rd.of_blk (Blk.new w2 3 [((p : Nat) : Int)] _ rfl) rfl (by decide)
              have hOa := HO2.out.alloc (.cells #[.int .i64 (p : Nat)] 3)
              have hsz : w.heap.size ≤ (World.alloc w2 (.cells #[.int .i64 (p : Nat)] 3)).heap.size := by rw [World.size_alloc]; have := HX2.out.size; omega
              go_wp2_with (at_builtin; refine wpList_append_rd _ rfl _ _ rfl w.heap.size _ bl.length (toI bl) rfl hOa (some ⟨w2.heap.size, 0, none⟩) 1 1 [((p : Nat) : Int)] rfl hR1 (by omega) hsz ?_)
              intro v' w6 hO6 hg6
              obtain ⟨ad6, cp6, rfl⟩ := slice_form hO6
              have hnew : ∀ q, (Value.slice ad bl.length cp).ownBlock = some q → w.heap.size ≤ q := fun q hq => by rcases HO2.out.2 with ⟨e, _⟩ | ⟨g2, cap, cur, e, hbg, _⟩ <;> rw [e] at hq <;> simp [Value.ownBlock] at hq; omega
              have HX6 : Hid (Keeps g.X w w6) := hide (keeps_new (HX2.out.alloc _) hg6 hnew)
              have HG6 : Hid (GS g w6 Z) := hide (GS.new (HG2.out.grow ((Below.refl _ w2).alloc (Nat.le_refl _) (.cells #[.int .i64 (p : Nat)] 3))) hg6 (fun q hq => by have := hnew q hq; omega) HOO.out hl1 hl2 hl3 hl0)
              have HO6 := hide hO6
              clear hO6 hg6 hR1 hOa hnew
              go_wp2_with fail
              refine ⟨⟨j + 1, cp6, ad6, by go_num, by omega, ?_, ?_, ?_, HG6, HX6⟩, by simp [intOf]; omega⟩
              · rw [HBN.out, HN.out]
              · rw [HBN.out, HN.out, List.length_append]; rfl
              · rw [HBN.out, HN.out, List.length_append, toI_snoc, List.map_append]; exact HO6
            · have HN := hide (HLS.out HZ0.out hnil (by omega))
              have hvv : (v == bv) = false := by simpa using heq
              clear HNW HSM HLS heq
              go_wp2_with fail
              refine ⟨⟨j + 1, cp, ad, by go_num, by omega, ?_, ?_, ?_, HG2, HX2⟩, by simp [intOf]; omega⟩
              · rw [HBN.out, HN.out]
              · rw [HBN.out, HN.out]
              · rw [HBN.out, HN.out]; exact HO2
      · have hzb : (z != 0) = true := by simpa using hz0
        have HE := hide (HSK.out hz0)
        clear hz hz0
        go_wp2_with fail
        refine ⟨⟨j + 1, cp, ad, by go_num, by omega, ?_, ?_, ?_, hG, hX⟩, by simp [intOf]; omega⟩
        · rw [HE.out]
        · rw [HE.out]
        · rw [HE.out]; exact hO
    · have hlt' : ¬ (j : Int) < (g.ol : Int) := by omega
      have hje : j = g.ol := by omega
      subst hje
      go_wp2_with fail
      go_ret2
      exact ⟨ad, cp, rfl, hO.out, hG.out, hX.out⟩

/-- All of it. -/
theorem search_ok (g : Gp) (hg : g.Ok) : ∀ e, BestOk g e ∧ ValOk g e
  | 0 => by
    have hb := best_ok g hg 0 (fun e' h => by omega)
    exact ⟨hb, value_ok g hg 0 hb⟩
  | e + 1 => by
    have hb := best_ok g hg (e + 1) (fun e' h => by
      obtain rfl : e = e' := by omega
      exact (search_ok g hg e).2)
    exact ⟨hb, value_ok g hg (e + 1) hb⟩

end Go.Proofs.YthdnbbjehcicbaaDoor
