/-
  The search: what a place brings, what comes of a board, the best of all. No conditions beyond those that each theorem bears.
-/
import Derived.Test.YthdnbbjehcicbaaDoorGame
namespace Go.Proofs.YthdnbbjehcicbaaDoor
open Go.RowKit

theorem theOther_any (m : Nat) (hm : m ≤ 3) (w : World) : Calls Tryd.prog 60 #[.int .i64 m] w fun e w' => e = .returned (.int .i64 ((3 - m : Nat) : Int)) ∧ w' = w := by
  have h : (3 : Int) - (m : Int) = ((3 - m : Nat) : Int) := by omega
  obtain ⟨q, hq⟩ : ∃ q, 3 - m = q := ⟨_, rfl⟩
  rw [hq] at h ⊢
  have hqb : q ≤ 3 := by omega
  clear hq
  go_enter Tryd.func60, Tryd.ntmps60
  go_wp2
  go_ret
  exact ⟨by rfl, rfl⟩

theorem keeps_grown {w w' : World} {row : Option Nat} (h : w.grownBy w' row) : Keeps (fun k => row = some k) w w' :=
  ⟨h.os, h.tape, h.output, h.size, fun i hi hx => h.block i hi (fun e => hx e.symm)⟩

theorem GS.putm {g : Gp} {w w' : World} {Z : List Int} (hg : g.Ok) (h : GS g w Z) (hk : Keeps (fun k => k = g.mb) w w') (hM : Mp g.W g.H g.k g.O g.Z0 g.m0 w' g.mb) : GS g w' Z :=
  ⟨(hk.block _ h.lt.1 hg.gm).trans h.blk, own_blk h.c (fun b hb => by simp only [Value.ownBlock, Option.some.injEq] at hb; rw [← hb]; exact hk.block _ h.lt.2.1 hg.cm), h.o.keepsN hk (fun _ b off e => (hg.ob b off e).2), hM, h.t.keeps hk (fun e => hg.m1 e.symm)⟩

def ValOk (g : Gp) (e : Nat) : Prop := ∀ (Z : List Int) (m : Nat) (w : World), Rc g.O g.Z0 Z → nE g.O Z = e → m = mvr g.O g.m0 Z → GS g w Z →
  Calls Tryd.prog 59 #[.pointer (some ⟨g.gb, 0, none⟩), .int .i64 m] w fun r w' => r = .returned (.int .i64 (val g.W g.H g.k g.O e Z m)) ∧ GS g w' Z ∧ Keeps g.X w w'

theorem set_back {Z : List Int} {p : Nat} {x : Int} (hp : p < Z.length) (h : Z.getD p 0 = 0) : (Z.set p x).set p 0 = Z := by
  rw [List.set_set]
  have : Z[p] = 0 := by simpa [List.getD, hp] using h
  rw [← this]
  exact List.set_getElem_self hp

attribute [local irreducible] inR val nE mvr ky Mp mvv

set_option maxRecDepth 100000 in
set_option maxHeartbeats 4000000 in
theorem valueOf_ok (g : Gp) (hg : g.Ok) (e : Nat) (hv : ValOk g e) (Z : List Int) (m p : Nat) (w : World) (hR : Rc g.O g.Z0 Z) (hE : nE g.O Z = e + 1) (hm : m = mvr g.O g.m0 Z) (hp : p ∈ g.O) (h0 : Z.getD p 0 = 0) (h : GS g w Z) :
    Calls Tryd.prog 46 #[.pointer (some ⟨g.gb, 0, none⟩), .int .i64 p, .int .i64 m] w fun r w' => r = .returned (.int .i64 (mvv g.W g.H g.k (val g.W g.H g.k g.O e) Z m p)) ∧ GS g w' Z ∧ Keeps g.X w w' := by
  have hpn := hg.lt p hp
  have hcap := h.cap
  have hcm := hcap.2.1
  unfold maxLen at hcm
  have hcn := hcap.1
  have hZl := hcap.2.2
  have hm12 : m = 1 ∨ m = 2 := by rw [hm]; exact mvr_12 hg.m
  have hx : (m : Int) ≠ 0 := by omega
  have HR1 := hide (hR.set hp (x := (m : Int)) (by omega))
  have hE1 : nE g.O (Z.set p (m : Int)) = e := by have := nE_set hg.nd hp (by omega) h0 hx; omega
  have hM1 : 3 - m = mvr g.O g.m0 (Z.set p (m : Int)) := by rw [mvr_set hg.m hg.nd hp (by omega) h0 hx, hm]
  have HV := hide (fun W hW => hv (Z.set p (m : Int)) (3 - m) W HR1.out hE1 hM1 hW)
  have HSB := hide (set_back (x := (m : Int)) (show p < Z.length by omega) h0)
  have HMV : Hid (mvv g.W g.H g.k (val g.W g.H g.k g.O e) Z m p = if inR g.W g.H (Z.set p (m : Int)) p g.k = true then 1 else - val g.W g.H g.k g.O e (Z.set p (m : Int)) (3 - m)) := hide (by rw [mvv])
  have hvb := val_bd g.W g.H g.k g.O e (Z.set p (m : Int)) (3 - m)
  obtain ⟨V, hVe⟩ : ∃ V, val g.W g.H g.k g.O e (Z.set p (m : Int)) (3 - m) = V := ⟨_, rfl⟩
  rw [hVe] at HV HMV hvb
  obtain ⟨R, hRe⟩ : ∃ R, mvv g.W g.H g.k (val g.W g.H g.k g.O e) Z m p = R := ⟨_, rfl⟩
  rw [hRe] at HMV ⊢
  obtain ⟨f0, f1, f2, f3, f4, f5⟩ := h.fields
  obtain ⟨cp, fp⟩ := h.cell hpn
  rw [h0] at cp
  obtain ⟨W1, hW1⟩ : ∃ W1, w.setCell ⟨g.cb, p, none⟩ (.int .i64 (m : Int)) = W1 := ⟨_, rfl⟩
  have HG1 : Hid (GS g W1 (Z.set p (m : Int))) := hide (by rw [← hW1]; exact h.set hg p m)
  have HX1 : Hid (Keeps g.X w W1) := hide (by rw [← hW1]; exact (Keeps.refl g.X w).setCell (p := ⟨g.cb, p, none⟩) (Or.inl rfl) _)
  have HIN := hide (fun W4 (hb : Below W1.heap.size W1 W4) => inRow_any g.W g.H (some ⟨g.cb, 0, none⟩) g.n g.cc p g.k (Z.set p (m : Int)) hg.w hg.h hg.n hpn (by have := hg.k; omega) W4 (HG1.out.t.mono hb) (HG1.out.rd.mono hb))
  obtain ⟨I, hI⟩ : ∃ I, inR g.W g.H (Z.set p (m : Int)) p g.k = I := ⟨_, rfl⟩
  rw [hI] at HIN HMV
  have hn := hg.n100
  have HOK := hide hg
  clear hv hVe hRe hI hE1 hM1 hE hm h hg hR hcap hp hx h0 hZl
  go_enter Tryd.func46, Tryd.ntmps46
  go_upto_region 3 with fail
  clear hW1 f0 f1 f2 f3 f4 f5 cp fp
  cases I with
  | true =>
    have HRV : Hid (R = 1) := hide (by rw [HMV.out]; rfl)
    refine wp_region_held (S := fun W4 => Below W1.heap.size W1 W4) (by kernel_rfl) ?_
    change wpAnyH _ _ _ _ _ _ _ _ (World.drew _)
    have SW : Below W1.heap.size W1 W1.drew := (Below.refl _ W1).drew
    refine wpAnyH_take (i := 0) (v := .pointer (some ⟨g.gb, 0, none⟩)) rfl (by kernel_rfl) (by kernel_rfl) (by kernel_rfl) (fun _ _ _ h => h) (Or.inl ⟨by rfl, ?_⟩) SW ?_
    · intro W4 hW4
      go_simp <;> first | done | rfl | (rw [IntKind.wrap_i64]; omega) | omega
    go_simp
    refine wpAnyH_take (i := 1) (v := .pointer (some ⟨g.gb, 0, none⟩)) rfl (by kernel_rfl) (by kernel_rfl) (by kernel_rfl) (fun _ _ _ h => h) (Or.inl ⟨by rfl, ?_⟩) SW ?_
    · intro W4 hW4
      go_simp <;> first | done | rfl | (rw [IntKind.wrap_i64]; omega) | omega
    go_simp
    refine wpAnyH_take (i := 2) (v := .pointer (some ⟨g.gb, 0, none⟩)) rfl (by kernel_rfl) (by kernel_rfl) (by kernel_rfl) (fun _ _ _ h => h) (Or.inl ⟨by rfl, ?_⟩) SW ?_
    · intro W4 hW4
      go_simp <;> first | done | rfl | (rw [IntKind.wrap_i64]; omega) | omega
    go_simp
    refine wpAnyH_take (i := 3) (v := .agg (gdA g.W g.H (some ⟨g.cb, 0, none⟩) g.n g.cc)) rfl (by kernel_rfl) (by kernel_rfl) (by kernel_rfl) (fun _ _ _ h => h) (yieldsIf_load_mid (by rfl) 24 _ rfl g.gb 0 (by rfl) [.int .i64 g.W, .int .i64 g.H, .slice (some ⟨g.cb, 0, none⟩) g.n g.cc] _ (fun W hW => (HG1.out.grow hW).range) Tryd.underlying24 rfl size24) SW ?_
    go_simp
    refine wpAnyH_take (i := 4) (v := .int .i64 p) rfl (by kernel_rfl) (by kernel_rfl) (by kernel_rfl) (fun _ _ _ h => h) (Or.inl ⟨by rfl, ?_⟩) SW ?_
    · intro W4 hW4
      go_simp <;> first | done | rfl | (rw [IntKind.wrap_i64]; omega) | omega
    go_simp
    refine wpAnyH_take (i := 5) (v := .pointer (some ⟨g.gb, 0, none⟩)) rfl (by kernel_rfl) (by kernel_rfl) (by kernel_rfl) (fun _ _ _ h => h) (Or.inl ⟨by rfl, ?_⟩) SW ?_
    · intro W4 hW4
      go_simp <;> first | done | rfl | (rw [IntKind.wrap_i64]; omega) | omega
    go_simp
    refine wpAnyH_take (i := 6) (v := .pointer (some ⟨g.gb, 0, none⟩)) rfl (by kernel_rfl) (by kernel_rfl) (by kernel_rfl) (fun _ _ _ h => h) (Or.inl ⟨by rfl, ?_⟩) SW ?_
    · intro W4 hW4
      go_simp <;> first | done | rfl | (rw [IntKind.wrap_i64]; omega) | omega
    go_simp
    refine wpAnyH_take (i := 7) (v := .pointer (some ⟨g.gb, 3, none⟩)) rfl (by kernel_rfl) (by kernel_rfl) (by kernel_rfl) (fun _ _ _ h => h) (Or.inl ⟨by rfl, ?_⟩) SW ?_
    · intro W4 hW4
      go_simp <;> first | done | rfl | (rw [IntKind.wrap_i64]; omega) | omega
    go_simp
    refine wpAnyH_take (i := 8) (v := .int .i64 (g.k : Nat)) rfl (by kernel_rfl) (by kernel_rfl) (by kernel_rfl) (fun _ _ _ h => h) (Or.inl ⟨by rfl, ?_⟩) SW ?_
    · intro W4 hW4
      obtain ⟨f0, f1, f2, f3, f4, f5⟩ := (HG1.out.grow hW4).fields
      go_simp <;> first | done | rfl | (rw [IntKind.wrap_i64]; omega) | omega
    go_simp
    refine wpAnyH_ready (rs := [9]) (by kernel_rfl) (by simp) ?_
    refine AllReadyH.cons rfl (fun K1 hK1 => ?_) AllReadyH.nil
    go_simp
    refine (HIN.out _ SW).mono ?_
    rintro e w5 ⟨rfl, hb5⟩
    refine hK1.out _ _ (SW.trans (hb5.mono SW.size)) (fun SW => ?_)
    clear hK1 K1 hb5
    go_simp
    refine wpAnyH_take (i := 10) (v := .bool false) rfl (by kernel_rfl) (by kernel_rfl) (by kernel_rfl) (fun _ _ _ h => h) (Or.inl ⟨by rfl, ?_⟩) SW ?_
    · intro W4 hW4
      go_simp <;> first | done | rfl | (rw [IntKind.wrap_i64]; omega) | omega
    go_simp
    refine wpAnyH_done (by kernel_rfl) ?_ _
    have HG5 := hide (HG1.out.grow SW)
    have HX5 := hide (HX1.out.trans (Keeps.of_all SW))
    clear SW
    obtain ⟨f0, f1, f2, f3, f4, f5⟩ := HG5.out.fields
    obtain ⟨cp, fp⟩ := HG5.out.cell hpn
    have HG6 : Hid (GS g (w5.setCell ⟨g.cb, p, none⟩ (.int .i64 0)) Z) := hide (by have := HG5.out.set HOK.out p 0; rwa [HSB.out] at this)
    have HX6 : Hid (Keeps g.X w (w5.setCell ⟨g.cb, p, none⟩ (.int .i64 0))) := hide (HX5.out.setCell (p := ⟨g.cb, p, none⟩) (Or.inl rfl) _)
    go_wp2_with fail
    go_ret
    exact ⟨ret_int HRV.out.symm, HG6.out, HX6.out⟩
  | false =>
    have HRV : Hid (R = -V) := hide (by rw [HMV.out]; rfl)
    refine wp_region_held (S := fun W4 => Below W1.heap.size W1 W4) (by kernel_rfl) ?_
    change wpAnyH _ _ _ _ _ _ _ _ (World.drew _)
    have SW : Below W1.heap.size W1 W1.drew := (Below.refl _ W1).drew
    refine wpAnyH_take (i := 0) (v := .pointer (some ⟨g.gb, 0, none⟩)) rfl (by kernel_rfl) (by kernel_rfl) (by kernel_rfl) (fun _ _ _ h => h) (Or.inl ⟨by rfl, ?_⟩) SW ?_
    · intro W4 hW4
      go_simp <;> first | done | rfl | (rw [IntKind.wrap_i64]; omega) | omega
    go_simp
    refine wpAnyH_take (i := 1) (v := .pointer (some ⟨g.gb, 0, none⟩)) rfl (by kernel_rfl) (by kernel_rfl) (by kernel_rfl) (fun _ _ _ h => h) (Or.inl ⟨by rfl, ?_⟩) SW ?_
    · intro W4 hW4
      go_simp <;> first | done | rfl | (rw [IntKind.wrap_i64]; omega) | omega
    go_simp
    refine wpAnyH_take (i := 2) (v := .pointer (some ⟨g.gb, 0, none⟩)) rfl (by kernel_rfl) (by kernel_rfl) (by kernel_rfl) (fun _ _ _ h => h) (Or.inl ⟨by rfl, ?_⟩) SW ?_
    · intro W4 hW4
      go_simp <;> first | done | rfl | (rw [IntKind.wrap_i64]; omega) | omega
    go_simp
    refine wpAnyH_take (i := 3) (v := .agg (gdA g.W g.H (some ⟨g.cb, 0, none⟩) g.n g.cc)) rfl (by kernel_rfl) (by kernel_rfl) (by kernel_rfl) (fun _ _ _ h => h) (yieldsIf_load_mid (by rfl) 24 _ rfl g.gb 0 (by rfl) [.int .i64 g.W, .int .i64 g.H, .slice (some ⟨g.cb, 0, none⟩) g.n g.cc] _ (fun W hW => (HG1.out.grow hW).range) Tryd.underlying24 rfl size24) SW ?_
    go_simp
    refine wpAnyH_take (i := 4) (v := .int .i64 p) rfl (by kernel_rfl) (by kernel_rfl) (by kernel_rfl) (fun _ _ _ h => h) (Or.inl ⟨by rfl, ?_⟩) SW ?_
    · intro W4 hW4
      go_simp <;> first | done | rfl | (rw [IntKind.wrap_i64]; omega) | omega
    go_simp
    refine wpAnyH_take (i := 5) (v := .pointer (some ⟨g.gb, 0, none⟩)) rfl (by kernel_rfl) (by kernel_rfl) (by kernel_rfl) (fun _ _ _ h => h) (Or.inl ⟨by rfl, ?_⟩) SW ?_
    · intro W4 hW4
      go_simp <;> first | done | rfl | (rw [IntKind.wrap_i64]; omega) | omega
    go_simp
    refine wpAnyH_take (i := 6) (v := .pointer (some ⟨g.gb, 0, none⟩)) rfl (by kernel_rfl) (by kernel_rfl) (by kernel_rfl) (fun _ _ _ h => h) (Or.inl ⟨by rfl, ?_⟩) SW ?_
    · intro W4 hW4
      go_simp <;> first | done | rfl | (rw [IntKind.wrap_i64]; omega) | omega
    go_simp
    refine wpAnyH_take (i := 7) (v := .pointer (some ⟨g.gb, 3, none⟩)) rfl (by kernel_rfl) (by kernel_rfl) (by kernel_rfl) (fun _ _ _ h => h) (Or.inl ⟨by rfl, ?_⟩) SW ?_
    · intro W4 hW4
      go_simp <;> first | done | rfl | (rw [IntKind.wrap_i64]; omega) | omega
    go_simp
    refine wpAnyH_take (i := 8) (v := .int .i64 (g.k : Nat)) rfl (by kernel_rfl) (by kernel_rfl) (by kernel_rfl) (fun _ _ _ h => h) (Or.inl ⟨by rfl, ?_⟩) SW ?_
    · intro W4 hW4
      obtain ⟨f0, f1, f2, f3, f4, f5⟩ := (HG1.out.grow hW4).fields
      go_simp <;> first | done | rfl | (rw [IntKind.wrap_i64]; omega) | omega
    go_simp
    refine wpAnyH_ready (rs := [9]) (by kernel_rfl) (by simp) ?_
    refine AllReadyH.cons rfl (fun K1 hK1 => ?_) AllReadyH.nil
    go_simp
    refine (HIN.out _ SW).mono ?_
    rintro e w5 ⟨rfl, hb5⟩
    refine hK1.out _ _ (SW.trans (hb5.mono SW.size)) (fun SW => ?_)
    clear hK1 K1 hb5
    go_simp
    refine wpAnyH_take (i := 10) (v := .bool true) rfl (by kernel_rfl) (by kernel_rfl) (by kernel_rfl) (fun _ _ _ h => h) (Or.inl ⟨by rfl, ?_⟩) SW ?_
    · intro W4 hW4
      go_simp <;> first | done | rfl | (rw [IntKind.wrap_i64]; omega) | omega
    go_simp
    refine wpAnyH_done (by kernel_rfl) ?_ _
    have HG5 := hide (HG1.out.grow SW)
    have HX5 := hide (HX1.out.trans (Keeps.of_all SW))
    clear SW
    go_wp2_with fail
    refine (theOther_any m (by omega) _).mono ?_
    rintro e6 wx ⟨rfl, hwx⟩
    subst wx
    go_wp2_with fail
    refine (HV.out _ HG5.out).mono ?_
    rintro e6 w6 ⟨rfl, hg6, hk6⟩
    have HG6 := hide hg6
    have HX6 := hide (HX5.out.trans hk6)
    clear hg6 hk6 HG5 HX5
    obtain ⟨f0, f1, f2, f3, f4, f5⟩ := HG6.out.fields
    obtain ⟨cp, fp⟩ := HG6.out.cell hpn
    have HG7 : Hid (GS g (w6.setCell ⟨g.cb, p, none⟩ (.int .i64 0)) Z) := hide (by have := HG6.out.set HOK.out p 0; rwa [HSB.out] at this)
    have HX7 : Hid (Keeps g.X w (w6.setCell ⟨g.cb, p, none⟩ (.int .i64 0))) := hide (HX6.out.setCell (p := ⟨g.cb, p, none⟩) (Or.inl rfl) _)
    go_wp2_with fail
    go_ret
    exact ⟨ret_int HRV.out.symm, HG7.out, HX7.out⟩

def BestOk (g : Gp) (e : Nat) : Prop := ∀ (Z : List Int) (m : Nat) (w : World), Rc g.O g.Z0 Z → nE g.O Z = e → m = mvr g.O g.m0 Z → GS g w Z →
  Calls Tryd.prog 31 #[.pointer (some ⟨g.gb, 0, none⟩), .int .i64 m] w fun r w' => ∃ a' c', r = .returned (.tuple #[.int .i64 (bsj g.W g.H g.k (val g.W g.H g.k g.O (e - 1)) g.O Z m g.ol).1, .slice a' (bsj g.W g.H g.k (val g.W g.H g.k g.O (e - 1)) g.O Z m g.ol).2.length c']) ∧ w'.ownsRow w.heap.size 3 1 (.slice a' (bsj g.W g.H g.k (val g.W g.H g.k g.O (e - 1)) g.O Z m g.ol).2.length c') (bsj g.W g.H g.k (val g.W g.H g.k g.O (e - 1)) g.O Z m g.ol).2.length ((toI (bsj g.W g.H g.k (val g.W g.H g.k g.O (e - 1)) g.O Z m g.ol).2).map (Value.int .i64)) ∧ GS g w' Z ∧ Keeps g.X w w'

attribute [local irreducible] bsj

theorem wp_store_ky {o : Oper} {a : Act} {w : World} {K : Act → World → Prop} {Q : Exit → Act → World → Prop} (x y : Operand) (ho : o.op = .store 115 x y)
    (b : Nat) (S T : List Int) (hS : S.length = 9) (hT : T.length = 9) (hx : a.eval x = .pointer (some ⟨b, 0, none⟩)) (hy : a.eval y = .agg (ivs S).toArray) (hb : Blk w b 115 T)
    (h : ∀ w', Blk w' b 115 S → Keeps (fun k => k = b) w w' → K (a.put o.dst undef) w') : o.wp Tryd.prog a w K Q := by
  have hb' : w.heap[b]? = _ := hb
  refine wp_store_row 115 x y ho b (ivs S).toArray hx hy 115 _ hb' (by rw [List.size_toArray, ivs_length, hS]; exact size115) (by simp [ivs_length, hS, hT]) (ivs_one S) ?_
  refine h _ ?_ ?_
  · have hTl : (ivs T).length = 9 := by rw [ivs_length, hT]
    simp [Blk, World.setRow, Array.getElem?_modify, hb']
  · exact ⟨rfl, rfl, rfl, by simp [World.setRow], fun k _ hk => by simp [World.setRow, Array.getElem?_modify, show ¬ b = k from fun e => hk e.symm]⟩

set_option maxRecDepth 100000 in
set_option maxHeartbeats 8000000 in
theorem value_ok (g : Gp) (hg : g.Ok) (e : Nat) (hb : BestOk g e) : ValOk g e := by
  intro Z m w hR hE hm h
  have HVE : Hid (val g.W g.H g.k g.O e Z m = (bsj g.W g.H g.k (val g.W g.H g.k g.O (e - 1)) g.O Z m g.ol).1) := hide (by rw [val_eq hE, hg.ol])
  have HBD := hide (fun W hW => hb Z m W hR hE hm hW)
  have HKL := hide (ky_len (O := g.O) (by rw [hg.ol]; exact hg.o9) Z)
  have hvb := val_bd g.W g.H g.k g.O e Z m
  have HLK := hide (fun W (hM : Mp g.W g.H g.k g.O g.Z0 g.m0 W g.mb) => hM.look (by rw [hg.ol]; exact hg.o9) (fun p hp => by rw [hg.z]; exact hg.lt p hp) hR)
  have HPU := hide (fun W (hM : Mp g.W g.H g.k g.O g.Z0 g.m0 W g.mb) => hM.put (by rw [hg.ol]; exact hg.o9) (fun p hp => by rw [hg.z]; exact hg.lt p hp) hR)
  rw [hE, ← hm] at HLK HPU
  obtain ⟨V, hVe⟩ : ∃ V, val g.W g.H g.k g.O e Z m = V := ⟨_, rfl⟩
  rw [hVe] at HVE HLK HPU hvb ⊢
  have HLD := hide (fun W (hW : Below w.heap.size w W) => laid_any g hg Z W (h.grow hW))
  have HG0 := hide h
  have HOO := hide h.o
  have HOK := hide hg
  obtain ⟨hl1, hl2, hl3⟩ := h.lt
  clear hb hVe hR hE hm h hg
  go_enter Tryd.func59, Tryd.ntmps59
  go_upto_region 1 with fail
  refine wp_region_held (S := fun W4 => Below w.heap.size w W4) (by kernel_rfl) ?_
  change wpAnyH _ _ _ _ _ _ _ _ (World.drew _)
  have SW : Below w.heap.size w w.drew := (Below.refl _ w).drew
  refine wpAnyH_take (i := 0) (v := .pointer (some ⟨g.gb, 0, none⟩)) rfl (by kernel_rfl) (by kernel_rfl) (by kernel_rfl) (fun _ _ _ h => h) (Or.inl ⟨by rfl, ?_⟩) SW ?_
  · intro W4 hW4
    go_simp <;> first | done | rfl | (rw [IntKind.wrap_i64]; omega) | omega
  go_simp
  refine wpAnyH_take (i := 1) (v := .pointer (some ⟨g.gb, 0, none⟩)) rfl (by kernel_rfl) (by kernel_rfl) (by kernel_rfl) (fun _ _ _ h => h) (Or.inl ⟨by rfl, ?_⟩) SW ?_
  · intro W4 hW4
    go_simp <;> first | done | rfl | (rw [IntKind.wrap_i64]; omega) | omega
  go_simp
  refine wpAnyH_take (i := 2) (v := .pointer (some ⟨g.gb, 0, none⟩)) rfl (by kernel_rfl) (by kernel_rfl) (by kernel_rfl) (fun _ _ _ h => h) (Or.inl ⟨by rfl, ?_⟩) SW ?_
  · intro W4 hW4
    go_simp <;> first | done | rfl | (rw [IntKind.wrap_i64]; omega) | omega
  go_simp
  refine wpAnyH_take (i := 3) (v := .agg (gdA g.W g.H (some ⟨g.cb, 0, none⟩) g.n g.cc)) rfl (by kernel_rfl) (by kernel_rfl) (by kernel_rfl) (fun _ _ _ h => h) (yieldsIf_load_mid (by rfl) 24 _ rfl g.gb 0 (by rfl) [.int .i64 g.W, .int .i64 g.H, .slice (some ⟨g.cb, 0, none⟩) g.n g.cc] _ (fun W hW => (HG0.out.grow hW).range) Tryd.underlying24 rfl size24) SW ?_
  go_simp
  refine wpAnyH_take (i := 4) (v := .pointer (some ⟨g.gb, 0, none⟩)) rfl (by kernel_rfl) (by kernel_rfl) (by kernel_rfl) (fun _ _ _ h => h) (Or.inl ⟨by rfl, ?_⟩) SW ?_
  · intro W4 hW4
    go_simp <;> first | done | rfl | (rw [IntKind.wrap_i64]; omega) | omega
  go_simp
  refine wpAnyH_take (i := 5) (v := .pointer (some ⟨g.gb, 0, none⟩)) rfl (by kernel_rfl) (by kernel_rfl) (by kernel_rfl) (fun _ _ _ h => h) (Or.inl ⟨by rfl, ?_⟩) SW ?_
  · intro W4 hW4
    go_simp <;> first | done | rfl | (rw [IntKind.wrap_i64]; omega) | omega
  go_simp
  refine wpAnyH_take (i := 6) (v := .pointer (some ⟨g.gb, 4, none⟩)) rfl (by kernel_rfl) (by kernel_rfl) (by kernel_rfl) (fun _ _ _ h => h) (Or.inl ⟨by rfl, ?_⟩) SW ?_
  · intro W4 hW4
    go_simp <;> first | done | rfl | (rw [IntKind.wrap_i64]; omega) | omega
  go_simp
  refine wpAnyH_take (i := 7) (v := .slice g.oa g.ol g.oc) rfl (by kernel_rfl) (by kernel_rfl) (by kernel_rfl) (fun _ _ _ h => h) (Or.inl ⟨by rfl, ?_⟩) SW ?_
  · intro W4 hW4
    obtain ⟨f0, f1, f2, f3, f4, f5⟩ := (HG0.out.grow hW4).fields
    go_simp <;> first | done | rfl | (rw [IntKind.wrap_i64]; omega) | omega
  go_simp
  refine wpAnyH_ready (rs := [8, 9]) (by kernel_rfl) (by simp) ?_
  refine AllReadyH.cons rfl (fun K1 hK1 => ?_) (AllReadyH.cons rfl (fun K1 hK1 => ?_) AllReadyH.nil)
  · go_simp
    refine (HLD.out _ SW).mono ?_
    rintro e1 w6 ⟨rfl, hb6⟩
    have SW6 : Below w.heap.size w w6 := SW.trans (hb6.mono SW.size)
    refine hK1.out _ _ SW6 (fun SW => ?_)
    clear hK1 K1 hb6 SW6
    go_simp
    refine wpAnyH_ready (rs := [9]) (by kernel_rfl) (by simp) ?_
    refine AllReadyH.cons rfl (fun K1 hK1 => ?_) AllReadyH.nil
    go_simp
    have SW8 : Below w.heap.size w (w6.alloc (.cells #[.int .i64 0, .int .i64 0, .int .i64 0, .int .i64 0, .int .i64 0, .int .i64 0, .int .i64 0, .int .i64 0, .int .i64 0] 115)) := SW.alloc SW.size _
    have hs1 : w.heap.size ≤ w6.heap.size := SW.size
    refine hK1.out _ _ SW8 (fun SW => ?_)
    clear hK1 K1
    have NZ : Blk (w6.alloc (.cells #[.int .i64 0, .int .i64 0, .int .i64 0, .int .i64 0, .int .i64 0, .int .i64 0, .int .i64 0, .int .i64 0, .int .i64 0] 115)) w6.heap.size 115 z9 := Blk.new w6 115 z9 _ rfl
    obtain ⟨kb, hkb⟩ : ∃ kb, w6.heap.size = kb := ⟨_, rfl⟩
    rw [hkb] at NZ hs1 ⊢
    clear SW8 hkb
    generalize w6.alloc (.cells #[.int .i64 0, .int .i64 0, .int .i64 0, .int .i64 0, .int .i64 0, .int .i64 0, .int .i64 0, .int .i64 0, .int .i64 0] 115) = w8 at *
    refine wpAnyH_ready (rs := [10]) (by kernel_rfl) (by simp) ?_
    refine AllReadyH.cons rfl (fun K1 hK1 => ?_) AllReadyH.nil
    refine wp_store_ky (.tmp 5) (.tmp 18) rfl kb (ky g.O Z) z9 HKL.out rfl rfl rfl NZ ?_
    intro W3 hb3 hk3
    have B9 : Below w.heap.size w W3 := SW.trans (hk3.below SW.size (fun q hq e => by omega))
    refine hK1.out _ _ B9 (fun _ => ?_)
    clear hK1 K1
    refine wpAnyH_done (by kernel_rfl) ?_ _
    have HG3 : Hid (GS g W3 Z) := hide (HG0.out.grow B9)
    have HX3 : Hid (Keeps g.X w W3) := hide (Keeps.of_all B9)
    have HK3 := hide hb3
    clear hb3 hk3 B9 SW NZ HLD HG0
    go_upto_region 2 with fail
    rcases HLK.out W3.drew ((HG3.out.grow (Below.refl _ W3).drew).m) with LK | LK
    · clear HPU HBD HLK
      refine wp_region_held (S := fun W4 => Below W3.heap.size W3 W4) (by kernel_rfl) ?_
      change wpAnyH _ _ _ _ _ _ _ _ (World.drew _)
      have SW : Below W3.heap.size W3 W3.drew := (Below.refl _ W3).drew
      refine wpAnyH_take (i := 0) (v := .pointer (some ⟨g.gb, 0, none⟩)) rfl (by kernel_rfl) (by kernel_rfl) (by kernel_rfl) (fun _ _ _ h => h) (Or.inl ⟨by rfl, ?_⟩) SW ?_
      · intro W4 hW4
        go_simp <;> first | done | rfl | (rw [IntKind.wrap_i64]; omega) | omega
      go_simp
      refine wpAnyH_take (i := 1) (v := .pointer (some ⟨g.gb, 0, none⟩)) rfl (by kernel_rfl) (by kernel_rfl) (by kernel_rfl) (fun _ _ _ h => h) (Or.inl ⟨by rfl, ?_⟩) SW ?_
      · intro W4 hW4
        go_simp <;> first | done | rfl | (rw [IntKind.wrap_i64]; omega) | omega
      go_simp
      refine wpAnyH_take (i := 2) (v := .pointer (some ⟨g.gb, 5, none⟩)) rfl (by kernel_rfl) (by kernel_rfl) (by kernel_rfl) (fun _ _ _ h => h) (Or.inl ⟨by rfl, ?_⟩) SW ?_
      · intro W4 hW4
        go_simp <;> first | done | rfl | (rw [IntKind.wrap_i64]; omega) | omega
      go_simp
      refine wpAnyH_take (i := 3) (v := .map (some g.mb)) rfl (by kernel_rfl) (by kernel_rfl) (by kernel_rfl) (fun _ _ _ h => h) (Or.inl ⟨by rfl, ?_⟩) SW ?_
      · intro W4 hW4
        obtain ⟨f0, f1, f2, f3, f4, f5⟩ := (HG3.out.grow hW4).fields
        go_simp <;> first | done | rfl | (rw [IntKind.wrap_i64]; omega) | omega
      go_simp
      refine wpAnyH_take (i := 4) (v := .agg (ivs (ky g.O Z)).toArray) rfl (by kernel_rfl) (by kernel_rfl) (by kernel_rfl) (fun _ _ _ h => h) (yieldsIf_load_mid (by rfl) 115 _ rfl kb 0 (by rfl) (ivs (ky g.O Z)) _ (fun W hW => (HK3.out.below hW HK3.out.lt).range) Tryd.underlying115 rfl (by rw [ivs_length, HKL.out]; exact size115)) SW ?_
      go_simp
      refine wpAnyH_ready (rs := [5]) (by kernel_rfl) (by simp) ?_
      refine AllReadyH.cons rfl (fun K1 hK1 => ?_) AllReadyH.nil
      go_simp
      refine hK1.out _ _ SW (fun SW => ?_)
      clear hK1 K1 LK
      go_simp
      refine wpAnyH_take (i := 6) (v := .tuple #[.int .i64 V, .bool true]) rfl (by kernel_rfl) (by kernel_rfl) (by kernel_rfl) (fun _ _ _ h => h) (Or.inl ⟨by rfl, ?_⟩) SW ?_
      · intro W4 hW4
        go_simp <;> first | done | rfl | (rw [IntKind.wrap_i64]; omega) | omega
      go_simp
      refine wpAnyH_take (i := 7) (v := .int .i64 V) rfl (by kernel_rfl) (by kernel_rfl) (by kernel_rfl) (fun _ _ _ h => h) (Or.inl ⟨by rfl, ?_⟩) SW ?_
      · intro W4 hW4
        go_simp <;> first | done | rfl | (rw [IntKind.wrap_i64]; omega) | omega
      go_simp
      refine wpAnyH_take (i := 8) (v := .bool true) rfl (by kernel_rfl) (by kernel_rfl) (by kernel_rfl) (fun _ _ _ h => h) (Or.inl ⟨by rfl, ?_⟩) SW ?_
      · intro W4 hW4
        go_simp <;> first | done | rfl | (rw [IntKind.wrap_i64]; omega) | omega
      go_simp
      refine wpAnyH_take (i := 9) (v := .int .i64 V) rfl (by kernel_rfl) (by kernel_rfl) (by kernel_rfl) (fun _ _ _ h => h) (Or.inl ⟨by rfl, ?_⟩) SW ?_
      · intro W4 hW4
        go_simp <;> first | done | rfl | (rw [IntKind.wrap_i64]; omega) | omega
      go_simp
      refine wpAnyH_take (i := 10) (v := .bool true) rfl (by kernel_rfl) (by kernel_rfl) (by kernel_rfl) (fun _ _ _ h => h) (Or.inl ⟨by rfl, ?_⟩) SW ?_
      · intro W4 hW4
        go_simp <;> first | done | rfl | (rw [IntKind.wrap_i64]; omega) | omega
      go_simp
      refine wpAnyH_done (by kernel_rfl) ?_ _
      have HG4 := hide (HG3.out.grow SW)
      have HX4 := hide (HX3.out.trans (Keeps.of_all SW))
      clear SW
      go_wp2_with fail
      go_ret
      exact ⟨rfl, HG4.out, HX4.out⟩
    · clear HLK
      refine wp_region_held (S := fun W4 => Below W3.heap.size W3 W4) (by kernel_rfl) ?_
      change wpAnyH _ _ _ _ _ _ _ _ (World.drew _)
      have SW : Below W3.heap.size W3 W3.drew := (Below.refl _ W3).drew
      refine wpAnyH_take (i := 0) (v := .pointer (some ⟨g.gb, 0, none⟩)) rfl (by kernel_rfl) (by kernel_rfl) (by kernel_rfl) (fun _ _ _ h => h) (Or.inl ⟨by rfl, ?_⟩) SW ?_
      · intro W4 hW4
        go_simp <;> first | done | rfl | (rw [IntKind.wrap_i64]; omega) | omega
      go_simp
      refine wpAnyH_take (i := 1) (v := .pointer (some ⟨g.gb, 0, none⟩)) rfl (by kernel_rfl) (by kernel_rfl) (by kernel_rfl) (fun _ _ _ h => h) (Or.inl ⟨by rfl, ?_⟩) SW ?_
      · intro W4 hW4
        go_simp <;> first | done | rfl | (rw [IntKind.wrap_i64]; omega) | omega
      go_simp
      refine wpAnyH_take (i := 2) (v := .pointer (some ⟨g.gb, 5, none⟩)) rfl (by kernel_rfl) (by kernel_rfl) (by kernel_rfl) (fun _ _ _ h => h) (Or.inl ⟨by rfl, ?_⟩) SW ?_
      · intro W4 hW4
        go_simp <;> first | done | rfl | (rw [IntKind.wrap_i64]; omega) | omega
      go_simp
      refine wpAnyH_take (i := 3) (v := .map (some g.mb)) rfl (by kernel_rfl) (by kernel_rfl) (by kernel_rfl) (fun _ _ _ h => h) (Or.inl ⟨by rfl, ?_⟩) SW ?_
      · intro W4 hW4
        obtain ⟨f0, f1, f2, f3, f4, f5⟩ := (HG3.out.grow hW4).fields
        go_simp <;> first | done | rfl | (rw [IntKind.wrap_i64]; omega) | omega
      go_simp
      refine wpAnyH_take (i := 4) (v := .agg (ivs (ky g.O Z)).toArray) rfl (by kernel_rfl) (by kernel_rfl) (by kernel_rfl) (fun _ _ _ h => h) (yieldsIf_load_mid (by rfl) 115 _ rfl kb 0 (by rfl) (ivs (ky g.O Z)) _ (fun W hW => (HK3.out.below hW HK3.out.lt).range) Tryd.underlying115 rfl (by rw [ivs_length, HKL.out]; exact size115)) SW ?_
      go_simp
      refine wpAnyH_ready (rs := [5]) (by kernel_rfl) (by simp) ?_
      refine AllReadyH.cons rfl (fun K1 hK1 => ?_) AllReadyH.nil
      go_simp
      refine hK1.out _ _ SW (fun SW => ?_)
      clear hK1 K1 LK
      go_simp
      refine wpAnyH_take (i := 6) (v := .tuple #[.int .i64 0, .bool false]) rfl (by kernel_rfl) (by kernel_rfl) (by kernel_rfl) (fun _ _ _ h => h) (Or.inl ⟨by rfl, ?_⟩) SW ?_
      · intro W4 hW4
        go_simp <;> first | done | rfl | (rw [IntKind.wrap_i64]; omega) | omega
      go_simp
      refine wpAnyH_take (i := 7) (v := .int .i64 0) rfl (by kernel_rfl) (by kernel_rfl) (by kernel_rfl) (fun _ _ _ h => h) (Or.inl ⟨by rfl, ?_⟩) SW ?_
      · intro W4 hW4
        go_simp <;> first | done | rfl | (rw [IntKind.wrap_i64]; omega) | omega
      go_simp
      refine wpAnyH_take (i := 8) (v := .bool false) rfl (by kernel_rfl) (by kernel_rfl) (by kernel_rfl) (fun _ _ _ h => h) (Or.inl ⟨by rfl, ?_⟩) SW ?_
      · intro W4 hW4
        go_simp <;> first | done | rfl | (rw [IntKind.wrap_i64]; omega) | omega
      go_simp
      refine wpAnyH_take (i := 9) (v := .int .i64 0) rfl (by kernel_rfl) (by kernel_rfl) (by kernel_rfl) (fun _ _ _ h => h) (Or.inl ⟨by rfl, ?_⟩) SW ?_
      · intro W4 hW4
        go_simp <;> first | done | rfl | (rw [IntKind.wrap_i64]; omega) | omega
      go_simp
      refine wpAnyH_take (i := 10) (v := .bool false) rfl (by kernel_rfl) (by kernel_rfl) (by kernel_rfl) (fun _ _ _ h => h) (Or.inl ⟨by rfl, ?_⟩) SW ?_
      · intro W4 hW4
        go_simp <;> first | done | rfl | (rw [IntKind.wrap_i64]; omega) | omega
      go_simp
      refine wpAnyH_done (by kernel_rfl) ?_ _
      have HG4 := hide (HG3.out.grow SW)
      have HX4 := hide (HX3.out.trans (Keeps.of_all SW))
      have HK4 := hide (HK3.out.below SW HK3.out.lt)
      clear SW HK3 HG3 HX3
      generalize bsj g.W g.H g.k (val g.W g.H g.k g.O (e - 1)) g.O Z m g.ol = B at *
      obtain ⟨V2, B2⟩ := B
      have hVV : V = V2 := HVE.out
      subst hVV
      clear HVE
      go_wp2_with fail
      refine (HBD.out _ HG4.out).mono ?_
      rintro e5 W5 ⟨a5, c5, rfl, -, hg5, hk5⟩
      have hkbX : ¬ g.X kb := by rintro (hx | hx) <;> omega
      have hkb5 := HK4.out.keeps hk5 hkbX
      have HX5 := hide (HX4.out.trans hk5)
      have hgd := hg5.grow (Below.refl _ W5).drew
      obtain ⟨w6, PU, hM6, hk6⟩ := HPU.out W5.drew hgd.m
      have hgk := HOK.out.gm
      have hkm : kb ≠ g.mb := fun e => hkbX (Or.inr e)
      have HF5 : Hid (∀ W4, W5.drew.grownBy W4 (some g.mb) → W4.cell? ⟨g.gb, 5, none⟩ = some (.map (some g.mb))) := hide (fun W4 hW => (keeps_grown hW).cell hgd.fields.2.2.2.2.2 (fun e => hgk (Option.some.inj e).symm))
      have HK5 : Hid (∀ W4, W5.drew.grownBy W4 (some g.mb) → Blk W4 kb 115 (ky g.O Z)) := hide (fun W4 hW => Blk.keeps (w := W5.drew) hkb5 (keeps_grown hW) (fun e => hkm (Option.some.inj e).symm))
      have HG6 := hide (GS.putm HOK.out hgd hk6 hM6)
      have HX6 : Hid (Keeps g.X w w6) := hide ((HX5.out.drew).trans (hk6.mono (fun k _ h => Or.inr h)))
      clear hg5 hk5 hkb5 hgd hM6 HPU HBD HG4 HX4 HK4 HX5
      go_wp2_with fail
      refine wp_region_held (S := fun W4 => W5.drew.grownBy W4 (some g.mb)) (by kernel_rfl) ?_
      change wpAnyH _ _ _ _ _ _ _ _ (World.drew _)
      have SW : W5.drew.grownBy W5.drew (some g.mb) := World.grownBy.refl _ _
      refine wpAnyH_take (i := 0) (v := .pointer (some ⟨g.gb, 0, none⟩)) rfl (by kernel_rfl) (by kernel_rfl) (by kernel_rfl) (fun _ _ _ h => h) (Or.inl ⟨by rfl, ?_⟩) SW ?_
      · intro W4 hW4
        go_simp <;> first | done | rfl | (rw [IntKind.wrap_i64]; omega) | omega
      go_simp
      refine wpAnyH_take (i := 1) (v := .pointer (some ⟨g.gb, 0, none⟩)) rfl (by kernel_rfl) (by kernel_rfl) (by kernel_rfl) (fun _ _ _ h => h) (Or.inl ⟨by rfl, ?_⟩) SW ?_
      · intro W4 hW4
        go_simp <;> first | done | rfl | (rw [IntKind.wrap_i64]; omega) | omega
      go_simp
      refine wpAnyH_take (i := 2) (v := .pointer (some ⟨g.gb, 5, none⟩)) rfl (by kernel_rfl) (by kernel_rfl) (by kernel_rfl) (fun _ _ _ h => h) (Or.inl ⟨by rfl, ?_⟩) SW ?_
      · intro W4 hW4
        go_simp <;> first | done | rfl | (rw [IntKind.wrap_i64]; omega) | omega
      go_simp
      refine wpAnyH_take (i := 3) (v := .map (some g.mb)) rfl (by kernel_rfl) (by kernel_rfl) (by kernel_rfl) (fun _ _ _ h => h) (Or.inl ⟨by rfl, ?_⟩) SW ?_
      · intro W4 hW4
        have f5 := HF5.out W4 hW4
        go_simp <;> first | done | rfl | (rw [IntKind.wrap_i64]; omega) | omega
      go_simp
      refine wpAnyH_take (i := 4) (v := .agg (ivs (ky g.O Z)).toArray) rfl (by kernel_rfl) (by kernel_rfl) (by kernel_rfl) (fun _ _ _ h => h) (yieldsIf_load_mid (by rfl) 115 _ rfl kb 0 (by rfl) (ivs (ky g.O Z)) _ (fun W hW => (HK5.out W hW).range) Tryd.underlying115 rfl (by rw [ivs_length, HKL.out]; exact size115)) SW ?_
      go_simp
      refine wpAnyH_take (i := 5) (v := .int .i64 V) rfl (by kernel_rfl) (by kernel_rfl) (by kernel_rfl) (fun _ _ _ h => h) (Or.inl ⟨by rfl, ?_⟩) SW ?_
      · intro W4 hW4
        go_simp <;> first | done | rfl | (rw [IntKind.wrap_i64]; omega) | omega
      go_simp
      refine wpAnyH_ready (rs := [6]) (by kernel_rfl) (by simp) ?_
      refine AllReadyH.cons rfl (fun K1 hK1 => ?_) AllReadyH.nil
      go_simp
      refine hK1.out _ _ hk6.grown (fun SW => ?_)
      clear hK1 K1 PU
      refine wpAnyH_done (by kernel_rfl) ?_ _
      clear SW
      go_wp2_with fail
      go_ret
      exact ⟨rfl, HG6.out, HX6.out⟩
  · go_simp
    have SW8 : Below w.heap.size w (w.alloc (.cells #[.int .i64 0, .int .i64 0, .int .i64 0, .int .i64 0, .int .i64 0, .int .i64 0, .int .i64 0, .int .i64 0, .int .i64 0] 115)).drew := ((Below.refl _ w).alloc (Nat.le_refl _) _).drew
    refine hK1.out _ _ SW8 (fun SW => ?_)
    clear hK1 K1
    have NZ0 : Blk (w.alloc (.cells #[.int .i64 0, .int .i64 0, .int .i64 0, .int .i64 0, .int .i64 0, .int .i64 0, .int .i64 0, .int .i64 0, .int .i64 0] 115)).drew w.heap.size 115 z9 := Blk.new w 115 z9 _ rfl
    clear SW8
    generalize (w.alloc (.cells #[.int .i64 0, .int .i64 0, .int .i64 0, .int .i64 0, .int .i64 0, .int .i64 0, .int .i64 0, .int .i64 0, .int .i64 0] 115)).drew = w8 at *
    refine wpAnyH_ready (rs := [8]) (by kernel_rfl) (by simp) ?_
    refine AllReadyH.cons rfl (fun K1 hK1 => ?_) AllReadyH.nil
    go_simp
    refine (HLD.out _ SW).mono ?_
    rintro e1 w6 ⟨rfl, hb6⟩
    have SW6 : Below w.heap.size w w6 := SW.trans (hb6.mono SW.size)
    have NZ := NZ0.below hb6 NZ0.lt
    refine hK1.out _ _ SW6 (fun SW => ?_)
    clear hK1 K1 hb6 SW6 NZ0
    go_simp
    refine wpAnyH_ready (rs := [10]) (by kernel_rfl) (by simp) ?_
    refine AllReadyH.cons rfl (fun K1 hK1 => ?_) AllReadyH.nil
    refine wp_store_ky (.tmp 5) (.tmp 18) rfl w.heap.size (ky g.O Z) z9 HKL.out rfl rfl rfl NZ ?_
    intro W3 hb3 hk3
    have B9 : Below w.heap.size w W3 := SW.trans (hk3.below SW.size (fun q hq e => by omega))
    refine hK1.out _ _ B9 (fun _ => ?_)
    clear hK1 K1
    refine wpAnyH_done (by kernel_rfl) ?_ _
    have HG3 : Hid (GS g W3 Z) := hide (HG0.out.grow B9)
    have HX3 : Hid (Keeps g.X w W3) := hide (Keeps.of_all B9)
    have hs1 : w.heap.size ≤ w.heap.size := Nat.le_refl _
    obtain ⟨kb, hkb⟩ : ∃ kb, w.heap.size = kb := ⟨_, rfl⟩
    have hs1 : w.heap.size ≤ kb := by omega
    rw [hkb] at hb3 ⊢
    have HK3 := hide hb3
    clear hb3 hk3 B9 SW NZ HLD HG0 hkb
    go_upto_region 2 with fail
    rcases HLK.out W3.drew ((HG3.out.grow (Below.refl _ W3).drew).m) with LK | LK
    · clear HPU HBD HLK
      refine wp_region_held (S := fun W4 => Below W3.heap.size W3 W4) (by kernel_rfl) ?_
      change wpAnyH _ _ _ _ _ _ _ _ (World.drew _)
      have SW : Below W3.heap.size W3 W3.drew := (Below.refl _ W3).drew
      refine wpAnyH_take (i := 0) (v := .pointer (some ⟨g.gb, 0, none⟩)) rfl (by kernel_rfl) (by kernel_rfl) (by kernel_rfl) (fun _ _ _ h => h) (Or.inl ⟨by rfl, ?_⟩) SW ?_
      · intro W4 hW4
        go_simp <;> first | done | rfl | (rw [IntKind.wrap_i64]; omega) | omega
      go_simp
      refine wpAnyH_take (i := 1) (v := .pointer (some ⟨g.gb, 0, none⟩)) rfl (by kernel_rfl) (by kernel_rfl) (by kernel_rfl) (fun _ _ _ h => h) (Or.inl ⟨by rfl, ?_⟩) SW ?_
      · intro W4 hW4
        go_simp <;> first | done | rfl | (rw [IntKind.wrap_i64]; omega) | omega
      go_simp
      refine wpAnyH_take (i := 2) (v := .pointer (some ⟨g.gb, 5, none⟩)) rfl (by kernel_rfl) (by kernel_rfl) (by kernel_rfl) (fun _ _ _ h => h) (Or.inl ⟨by rfl, ?_⟩) SW ?_
      · intro W4 hW4
        go_simp <;> first | done | rfl | (rw [IntKind.wrap_i64]; omega) | omega
      go_simp
      refine wpAnyH_take (i := 3) (v := .map (some g.mb)) rfl (by kernel_rfl) (by kernel_rfl) (by kernel_rfl) (fun _ _ _ h => h) (Or.inl ⟨by rfl, ?_⟩) SW ?_
      · intro W4 hW4
        obtain ⟨f0, f1, f2, f3, f4, f5⟩ := (HG3.out.grow hW4).fields
        go_simp <;> first | done | rfl | (rw [IntKind.wrap_i64]; omega) | omega
      go_simp
      refine wpAnyH_take (i := 4) (v := .agg (ivs (ky g.O Z)).toArray) rfl (by kernel_rfl) (by kernel_rfl) (by kernel_rfl) (fun _ _ _ h => h) (yieldsIf_load_mid (by rfl) 115 _ rfl kb 0 (by rfl) (ivs (ky g.O Z)) _ (fun W hW => (HK3.out.below hW HK3.out.lt).range) Tryd.underlying115 rfl (by rw [ivs_length, HKL.out]; exact size115)) SW ?_
      go_simp
      refine wpAnyH_ready (rs := [5]) (by kernel_rfl) (by simp) ?_
      refine AllReadyH.cons rfl (fun K1 hK1 => ?_) AllReadyH.nil
      go_simp
      refine hK1.out _ _ SW (fun SW => ?_)
      clear hK1 K1 LK
      go_simp
      refine wpAnyH_take (i := 6) (v := .tuple #[.int .i64 V, .bool true]) rfl (by kernel_rfl) (by kernel_rfl) (by kernel_rfl) (fun _ _ _ h => h) (Or.inl ⟨by rfl, ?_⟩) SW ?_
      · intro W4 hW4
        go_simp <;> first | done | rfl | (rw [IntKind.wrap_i64]; omega) | omega
      go_simp
      refine wpAnyH_take (i := 7) (v := .int .i64 V) rfl (by kernel_rfl) (by kernel_rfl) (by kernel_rfl) (fun _ _ _ h => h) (Or.inl ⟨by rfl, ?_⟩) SW ?_
      · intro W4 hW4
        go_simp <;> first | done | rfl | (rw [IntKind.wrap_i64]; omega) | omega
      go_simp
      refine wpAnyH_take (i := 8) (v := .bool true) rfl (by kernel_rfl) (by kernel_rfl) (by kernel_rfl) (fun _ _ _ h => h) (Or.inl ⟨by rfl, ?_⟩) SW ?_
      · intro W4 hW4
        go_simp <;> first | done | rfl | (rw [IntKind.wrap_i64]; omega) | omega
      go_simp
      refine wpAnyH_take (i := 9) (v := .int .i64 V) rfl (by kernel_rfl) (by kernel_rfl) (by kernel_rfl) (fun _ _ _ h => h) (Or.inl ⟨by rfl, ?_⟩) SW ?_
      · intro W4 hW4
        go_simp <;> first | done | rfl | (rw [IntKind.wrap_i64]; omega) | omega
      go_simp
      refine wpAnyH_take (i := 10) (v := .bool true) rfl (by kernel_rfl) (by kernel_rfl) (by kernel_rfl) (fun _ _ _ h => h) (Or.inl ⟨by rfl, ?_⟩) SW ?_
      · intro W4 hW4
        go_simp <;> first | done | rfl | (rw [IntKind.wrap_i64]; omega) | omega
      go_simp
      refine wpAnyH_done (by kernel_rfl) ?_ _
      have HG4 := hide (HG3.out.grow SW)
      have HX4 := hide (HX3.out.trans (Keeps.of_all SW))
      clear SW
      go_wp2_with fail
      go_ret
      exact ⟨rfl, HG4.out, HX4.out⟩
    · clear HLK
      refine wp_region_held (S := fun W4 => Below W3.heap.size W3 W4) (by kernel_rfl) ?_
      change wpAnyH _ _ _ _ _ _ _ _ (World.drew _)
      have SW : Below W3.heap.size W3 W3.drew := (Below.refl _ W3).drew
      refine wpAnyH_take (i := 0) (v := .pointer (some ⟨g.gb, 0, none⟩)) rfl (by kernel_rfl) (by kernel_rfl) (by kernel_rfl) (fun _ _ _ h => h) (Or.inl ⟨by rfl, ?_⟩) SW ?_
      · intro W4 hW4
        go_simp <;> first | done | rfl | (rw [IntKind.wrap_i64]; omega) | omega
      go_simp
      refine wpAnyH_take (i := 1) (v := .pointer (some ⟨g.gb, 0, none⟩)) rfl (by kernel_rfl) (by kernel_rfl) (by kernel_rfl) (fun _ _ _ h => h) (Or.inl ⟨by rfl, ?_⟩) SW ?_
      · intro W4 hW4
        go_simp <;> first | done | rfl | (rw [IntKind.wrap_i64]; omega) | omega
      go_simp
      refine wpAnyH_take (i := 2) (v := .pointer (some ⟨g.gb, 5, none⟩)) rfl (by kernel_rfl) (by kernel_rfl) (by kernel_rfl) (fun _ _ _ h => h) (Or.inl ⟨by rfl, ?_⟩) SW ?_
      · intro W4 hW4
        go_simp <;> first | done | rfl | (rw [IntKind.wrap_i64]; omega) | omega
      go_simp
      refine wpAnyH_take (i := 3) (v := .map (some g.mb)) rfl (by kernel_rfl) (by kernel_rfl) (by kernel_rfl) (fun _ _ _ h => h) (Or.inl ⟨by rfl, ?_⟩) SW ?_
      · intro W4 hW4
        obtain ⟨f0, f1, f2, f3, f4, f5⟩ := (HG3.out.grow hW4).fields
        go_simp <;> first | done | rfl | (rw [IntKind.wrap_i64]; omega) | omega
      go_simp
      refine wpAnyH_take (i := 4) (v := .agg (ivs (ky g.O Z)).toArray) rfl (by kernel_rfl) (by kernel_rfl) (by kernel_rfl) (fun _ _ _ h => h) (yieldsIf_load_mid (by rfl) 115 _ rfl kb 0 (by rfl) (ivs (ky g.O Z)) _ (fun W hW => (HK3.out.below hW HK3.out.lt).range) Tryd.underlying115 rfl (by rw [ivs_length, HKL.out]; exact size115)) SW ?_
      go_simp
      refine wpAnyH_ready (rs := [5]) (by kernel_rfl) (by simp) ?_
      refine AllReadyH.cons rfl (fun K1 hK1 => ?_) AllReadyH.nil
      go_simp
      refine hK1.out _ _ SW (fun SW => ?_)
      clear hK1 K1 LK
      go_simp
      refine wpAnyH_take (i := 6) (v := .tuple #[.int .i64 0, .bool false]) rfl (by kernel_rfl) (by kernel_rfl) (by kernel_rfl) (fun _ _ _ h => h) (Or.inl ⟨by rfl, ?_⟩) SW ?_
      · intro W4 hW4
        go_simp <;> first | done | rfl | (rw [IntKind.wrap_i64]; omega) | omega
      go_simp
      refine wpAnyH_take (i := 7) (v := .int .i64 0) rfl (by kernel_rfl) (by kernel_rfl) (by kernel_rfl) (fun _ _ _ h => h) (Or.inl ⟨by rfl, ?_⟩) SW ?_
      · intro W4 hW4
        go_simp <;> first | done | rfl | (rw [IntKind.wrap_i64]; omega) | omega
      go_simp
      refine wpAnyH_take (i := 8) (v := .bool false) rfl (by kernel_rfl) (by kernel_rfl) (by kernel_rfl) (fun _ _ _ h => h) (Or.inl ⟨by rfl, ?_⟩) SW ?_
      · intro W4 hW4
        go_simp <;> first | done | rfl | (rw [IntKind.wrap_i64]; omega) | omega
      go_simp
      refine wpAnyH_take (i := 9) (v := .int .i64 0) rfl (by kernel_rfl) (by kernel_rfl) (by kernel_rfl) (fun _ _ _ h => h) (Or.inl ⟨by rfl, ?_⟩) SW ?_
      · intro W4 hW4
        go_simp <;> first | done | rfl | (rw [IntKind.wrap_i64]; omega) | omega
      go_simp
      refine wpAnyH_take (i := 10) (v := .bool false) rfl (by kernel_rfl) (by kernel_rfl) (by kernel_rfl) (fun _ _ _ h => h) (Or.inl ⟨by rfl, ?_⟩) SW ?_
      · intro W4 hW4
        go_simp <;> first | done | rfl | (rw [IntKind.wrap_i64]; omega) | omega
      go_simp
      refine wpAnyH_done (by kernel_rfl) ?_ _
      have HG4 := hide (HG3.out.grow SW)
      have HX4 := hide (HX3.out.trans (Keeps.of_all SW))
      have HK4 := hide (HK3.out.below SW HK3.out.lt)
      clear SW HK3 HG3 HX3
      generalize bsj g.W g.H g.k (val g.W g.H g.k g.O (e - 1)) g.O Z m g.ol = B at *
      obtain ⟨V2, B2⟩ := B
      have hVV : V = V2 := HVE.out
      subst hVV
      clear HVE
      go_wp2_with fail
      refine (HBD.out _ HG4.out).mono ?_
      rintro e5 W5 ⟨a5, c5, rfl, -, hg5, hk5⟩
      have hkbX : ¬ g.X kb := by rintro (hx | hx) <;> omega
      have hkb5 := HK4.out.keeps hk5 hkbX
      have HX5 := hide (HX4.out.trans hk5)
      have hgd := hg5.grow (Below.refl _ W5).drew
      obtain ⟨w6, PU, hM6, hk6⟩ := HPU.out W5.drew hgd.m
      have hgk := HOK.out.gm
      have hkm : kb ≠ g.mb := fun e => hkbX (Or.inr e)
      have HF5 : Hid (∀ W4, W5.drew.grownBy W4 (some g.mb) → W4.cell? ⟨g.gb, 5, none⟩ = some (.map (some g.mb))) := hide (fun W4 hW => (keeps_grown hW).cell hgd.fields.2.2.2.2.2 (fun e => hgk (Option.some.inj e).symm))
      have HK5 : Hid (∀ W4, W5.drew.grownBy W4 (some g.mb) → Blk W4 kb 115 (ky g.O Z)) := hide (fun W4 hW => Blk.keeps (w := W5.drew) hkb5 (keeps_grown hW) (fun e => hkm (Option.some.inj e).symm))
      have HG6 := hide (GS.putm HOK.out hgd hk6 hM6)
      have HX6 : Hid (Keeps g.X w w6) := hide ((HX5.out.drew).trans (hk6.mono (fun k _ h => Or.inr h)))
      clear hg5 hk5 hkb5 hgd hM6 HPU HBD HG4 HX4 HK4 HX5
      go_wp2_with fail
      refine wp_region_held (S := fun W4 => W5.drew.grownBy W4 (some g.mb)) (by kernel_rfl) ?_
      change wpAnyH _ _ _ _ _ _ _ _ (World.drew _)
      have SW : W5.drew.grownBy W5.drew (some g.mb) := World.grownBy.refl _ _
      refine wpAnyH_take (i := 0) (v := .pointer (some ⟨g.gb, 0, none⟩)) rfl (by kernel_rfl) (by kernel_rfl) (by kernel_rfl) (fun _ _ _ h => h) (Or.inl ⟨by rfl, ?_⟩) SW ?_
      · intro W4 hW4
        go_simp <;> first | done | rfl | (rw [IntKind.wrap_i64]; omega) | omega
      go_simp
      refine wpAnyH_take (i := 1) (v := .pointer (some ⟨g.gb, 0, none⟩)) rfl (by kernel_rfl) (by kernel_rfl) (by kernel_rfl) (fun _ _ _ h => h) (Or.inl ⟨by rfl, ?_⟩) SW ?_
      · intro W4 hW4
        go_simp <;> first | done | rfl | (rw [IntKind.wrap_i64]; omega) | omega
      go_simp
      refine wpAnyH_take (i := 2) (v := .pointer (some ⟨g.gb, 5, none⟩)) rfl (by kernel_rfl) (by kernel_rfl) (by kernel_rfl) (fun _ _ _ h => h) (Or.inl ⟨by rfl, ?_⟩) SW ?_
      · intro W4 hW4
        go_simp <;> first | done | rfl | (rw [IntKind.wrap_i64]; omega) | omega
      go_simp
      refine wpAnyH_take (i := 3) (v := .map (some g.mb)) rfl (by kernel_rfl) (by kernel_rfl) (by kernel_rfl) (fun _ _ _ h => h) (Or.inl ⟨by rfl, ?_⟩) SW ?_
      · intro W4 hW4
        have f5 := HF5.out W4 hW4
        go_simp <;> first | done | rfl | (rw [IntKind.wrap_i64]; omega) | omega
      go_simp
      refine wpAnyH_take (i := 4) (v := .agg (ivs (ky g.O Z)).toArray) rfl (by kernel_rfl) (by kernel_rfl) (by kernel_rfl) (fun _ _ _ h => h) (yieldsIf_load_mid (by rfl) 115 _ rfl kb 0 (by rfl) (ivs (ky g.O Z)) _ (fun W hW => (HK5.out W hW).range) Tryd.underlying115 rfl (by rw [ivs_length, HKL.out]; exact size115)) SW ?_
      go_simp
      refine wpAnyH_take (i := 5) (v := .int .i64 V) rfl (by kernel_rfl) (by kernel_rfl) (by kernel_rfl) (fun _ _ _ h => h) (Or.inl ⟨by rfl, ?_⟩) SW ?_
      · intro W4 hW4
        go_simp <;> first | done | rfl | (rw [IntKind.wrap_i64]; omega) | omega
      go_simp
      refine wpAnyH_ready (rs := [6]) (by kernel_rfl) (by simp) ?_
      refine AllReadyH.cons rfl (fun K1 hK1 => ?_) AllReadyH.nil
      go_simp
      refine hK1.out _ _ hk6.grown (fun SW => ?_)
      clear hK1 K1 PU
      refine wpAnyH_done (by kernel_rfl) ?_ _
      clear SW
      go_wp2_with fail
      go_ret
      exact ⟨rfl, HG6.out, HX6.out⟩

end Go.Proofs.YthdnbbjehcicbaaDoor
