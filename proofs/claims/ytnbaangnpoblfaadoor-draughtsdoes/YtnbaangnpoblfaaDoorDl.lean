/-
  Do where the board may not be; a row copied by the law. No conditions beyond those that each theorem bears.
  A row copied by the law. No conditions beyond those that each theorem bears.
  Draughts: Do and Count beside what the document says: the law, walked. No conditions beyond those that each theorem bears.
-/
import Derived.Test.YtnbaangnpoblfaaDoorDd
import Derived.Test.YtnbaangnpoblfaaDoorKp
import Derived.Test.YtnbaangnpoblfaaDoorCf
import Derived.Test.YtnbaangnpoblfaaDoorDn
import Derived.Test.YtnbaangnpoblfaaDoorSa
namespace Go.Proofs.YtnbaangnpoblfaaDoor
open Go.RowKit Go.Shelf

attribute [local go_sem] build24z
attribute [local irreducible] mayD

set_option maxRecDepth 100000 in
set_option maxHeartbeats 4000000 in
theorem Do_no (t : Int) (a : Option Addr) (n c : Nat) (Z : List Int) (xa : Option Addr) (xn xc : Nat) (w : World) (h : Rd w a n c Z) (hno : mayD Z t = false) :
    Calls Tryd.prog 17 #[.agg (dgA a n c t), .slice xa xn xc] w fun e w' => e = .returned (.tuple #[.agg (dgA none 0 0 0), .int .i64 12]) ∧ Below w.heap.size w w' := by
  obtain ⟨w1, hw1⟩ : ∃ w1, (((w.alloc (.cells (dgA a n c t) 24)).alloc (.cells #[.slice xa xn xc] 22)).alloc (.cells #[.slice none 0 0, .int .i64 0] 24)).alloc (.cells #[.int .i64 0] 28) = w1 := ⟨_, rfl⟩
  have HB1 : Hid (Below w.heap.size w w1) := hide (by rw [← hw1]; exact ((((Below.refl _ _).alloc (Nat.le_refl _) _).alloc (by simp) _).alloc (by simp; omega) _).alloc (by simp; omega) _)
  have G1 : Dg w1 w.heap.size a n c t := by rw [← hw1]; exact (((Dg.new _ _ _ _ _).old _).old _).old _
  have Z1 : Dg w1 (w.heap.size + 2) none 0 0 0 := by
    rw [← hw1]
    have := Dg.new ((w.alloc (.cells (dgA a n c t) 24)).alloc (.cells #[.slice xa xn xc] 22)) none 0 0 0
    rw [World.size_alloc, World.size_alloc] at this
    exact this.old _
  have E1 : Vb w1 (w.heap.size + 3) 28 [.int .i64 0] := by
    rw [← hw1]
    have := Vb.new (((w.alloc (.cells (dgA a n c t) 24)).alloc (.cells #[.slice xa xn xc] 22)).alloc (.cells #[.slice none 0 0, .int .i64 0] 24)) 28 [.int .i64 0]
    rw [World.size_alloc, World.size_alloc, World.size_alloc] at this
    exact this
  have hm1 := May_any t a n c Z w1 (h.mono HB1.out)
  rw [hno] at hm1
  have HM := hide hm1
  have HZ1 := hide Z1
  have HE1 := hide E1
  clear h hm1 Z1 E1 hno
  go_enter Tryd.func17, Tryd.ntmps17
  go_upto_region 1 with fail
  clear hw1
  go_wp2_with (refine wpList_load_dg rfl (.tmp 2) rfl w.heap.size rfl G1 ?_)
  refine HM.out.mono ?_
  rintro e w2 ⟨rfl, hb2⟩
  have HB2 := hide (HB1.out.trans (hb2.mono HB1.out.size))
  have Z2 := HZ1.out.below hb2 HZ1.out.lt
  have E2 := HE1.out.mono hb2
  have c6 := E2.cell (i := 0) rfl
  have f6 := E2.frozen 0
  clear hb2 G1 HM HB1 HZ1 HE1 E2
  go_wp2_with (refine wpList_store_dg rfl (.tmp 4) (.tmp 11) rfl (w.heap.size + 2) rfl rfl Z2 ?_; intro w7 k7 kk7; have c7 := kk7.cell c6 (fun e => by dsimp only at e; omega); have f7 := (kk7.frozen (p := ⟨w.heap.size + 3, 0, none⟩) (World.block_lt_of_cell? w2 _ c6) (fun e => by dsimp only at e; omega)).trans f6)
  have K8 : Keeps (fun k => k = w.heap.size + 3) w7 (w7.setCell ⟨w.heap.size + 1 + 1 + 1, 0, none⟩ (.int .i64 12)) := Keeps.set1 w7 (w.heap.size + 3) 0 _
  have c8 : (w7.setCell ⟨w.heap.size + 1 + 1 + 1, 0, none⟩ (.int .i64 12)).cell? ⟨w.heap.size + 3, 0, none⟩ = some (.int .i64 12) := World.cell?_setCell_same _ _ _ c7
  have k8 := k7.keeps K8 (by show ¬ w.heap.size + 2 = w.heap.size + 3; omega)
  refine bodyPost_ret (results_dge rfl _ _ (w.heap.size + 2) (w.heap.size + 3) rfl rfl k8 c8) rfl ⟨rfl, ?_⟩
  exact HB2.out.trans (((kk7.mono (Y := fun k => w.heap.size ≤ k) (fun k _ e => by omega)).trans (K8.mono (fun k _ e => by omega))).below HB2.out.size (fun k hk e => by omega))

end Go.Proofs.YtnbaangnpoblfaaDoor

namespace Go.Proofs.YtnbaangnpoblfaaDoor
open Go.RowKit

set_option maxHeartbeats 4000000 in
theorem intsL_own (a : Option Addr) (n c : Nat) (zs : List Int) (w : World) (h : Rd w a n c zs) (hr : n * 8 ≤ 140737488351232) :
    Calls Tryd.prog 18 #[.slice a n c] w fun e w' => ∃ a' c', e = .returned (.slice a' n c') ∧ w'.ownsRow w.heap.size 3 1 (.slice a' n c') n (zs.map (Value.int .i64)) ∧ Below w.heap.size w w' := by
  obtain ⟨i0, hi, hz0, hz1, hz2⟩ := info_parts Tryd.info3
  cases a with
  | none =>
    obtain rfl := h.nil rfl
    obtain rfl : n = 0 := by have := h.cap; omega
    go_enter Tryd.func18, Tryd.ntmps18
    go_wp2_with (at_builtin; refine wpList_append_own_none rfl _ _ 22 rfl w.heap.size 3 i0 1 Tryd.underlying22 hi _ 0 [] rfl (World.ownsRow_nil _ _ _ _) rfl ?_)
    go_ret
    have hz : zs = [] := List.eq_nil_of_length_eq_zero h.len
    subst hz
    exact ⟨_, _, rfl, World.ownsRow_nil _ _ _ _, Below.refl _ _⟩
  | some ad =>
    have hcell : ∀ j u, (zs.map (Value.int .i64))[j]? = some u → w.cell? (ad.add j) = some u := by
      intro j u hu
      have hj : j < n := by have := (List.getElem?_eq_some_iff.1 hu).1; simpa [h.len] using this
      obtain ⟨b, off, he, hc⟩ := h.cells (by omega)
      obtain rfl := Option.some.inj he
      rw [Addr.add_lit, hc j hj]
      have hz : j < zs.length := by rw [h.len]; exact hj
      simpa [List.getD, hz] using hu
    have hl : (zs.map (Value.int .i64)).length = n * 1 := by simp [h.len]
    have hone := ints_oneCell .i64 zs
    have hmax : 0 + n ≤ maxLen := by have := h.cap; have := h.max; omega
    have hle : Hid (zs.length = n) := h.len
    go_enter Tryd.func18, Tryd.ntmps18
    go_wp2_with (at_builtin; refine wpList_append_own _ rfl _ _ 22 rfl w.heap.size 3 i0 (.int .i64 0) 1 8 Tryd.underlying22 hi hz0 hz1 hz2 rfl (by decide) _ 0 [] rfl (World.ownsRow_nil _ _ _ _) ad n c (zs.map (Value.int .i64)) rfl hl hcell hone hmax (by omega) (Nat.le_refl _) ?_)
    intro v' w1 hown hgrow _
    have hex : ∃ a' c', v' = .slice a' n c' := by
      rcases hown.2 with ⟨hv, h0⟩ | ⟨g, cap, cur, hv, _⟩
      · exact ⟨none, 0, by rw [hv]; simp; omega⟩
      · exact ⟨_, _, hv⟩
    obtain ⟨a', c', rfl⟩ := hex
    have B : Below w.heap.size w w1 := (Below.refl _ _).grown hgrow (Nat.le_refl _) (fun k hk => by simp [Value.ownBlock] at hk)
    clear hgrow
    have HO := hide hown
    clear hown
    go_wp2
    go_ret
    exact ⟨_, _, rfl, HO.out, B⟩


end Go.Proofs.YtnbaangnpoblfaaDoor

namespace Go.Proofs.YtnbaangnpoblfaaDoor
open Go.RowKit Go.Shelf

theorem Dg.range {w : World} {b : Nat} {a : Option Addr} {n c : Nat} {t : Int} (h : Dg w b a n c t) : w.rangeAt b 0 [.slice a n c, .int .i64 t] := (show Vb w b 24 [.slice a n c, .int .i64 t] from h).range

theorem afN_mov {Z : List Int} {t : Nat} (hM : Mb Z t) {y : List Nat × List Nat} (hy : y ∈ wyN Z t) : (afN Z t y).mov = 3 - t := by rw [← sn_doR hM hy]; rfl

theorem row_in {Z : List Int} {t : Nat} (hM : Mb Z t) {y : List Nat × List Nat} (hy : y ∈ wyN Z t) : toI y.1 ∈ (rMv Z t).map toI := by
  rw [rMv_eq hM]
  exact List.mem_map.2 ⟨y.1, List.mem_map.2 ⟨y, hy, rfl⟩, rfl⟩
theorem row_of {Z : List Int} {t : Nat} (hM : Mb Z t) {X : List Int} (h : X ∈ (rMv Z t).map toI) : ∃ y, y ∈ wyN Z t ∧ toI y.1 = X := by
  rw [rMv_eq hM] at h
  obtain ⟨v, hv, rfl⟩ := List.mem_map.1 h
  obtain ⟨y, hy, rfl⟩ := List.mem_map.1 hv
  exact ⟨y, hy, rfl⟩
theorem getD_memL {L : List (List Int)} {i : Nat} (h : i < L.length) : L.getD i [] ∈ L := by simp [List.getD, h]

attribute [local irreducible] mayD mvN rMv toI wyN afN doR cntR tol

set_option maxRecDepth 100000 in
set_option maxHeartbeats 16000000 in
theorem does_law (t : Int) (a : Option Addr) (n c : Nat) (Z : List Int) (xa : Option Addr) (xn xc : Nat) (X : List Int) (p : Int) (w : World) (hL : DTab w ∧ TzT w) (h : Rd w a n c Z) (hr : n * 8 ≤ 140737488351232) (hX : Rd w xa xn xc X) (hxr : xn * 8 ≤ 140737488351232) :
    Calls Tryd.prog 4 #[.agg (dgA a n c t), .slice xa xn xc, .int .i64 p] w fun e w' => e = .returned (.bool true) ∧ Below w.heap.size w w' := by
  cases hmay : mayD Z t with
  | false =>
    obtain ⟨w1, hw1⟩ : ∃ w1, w.alloc (.cells (dgA a n c t) 24) = w1 := ⟨_, rfl⟩
    have B1 : Below w.heap.size w w1 := by rw [← hw1]; exact (Below.refl _ _).alloc (Nat.le_refl _) _
    have hch : Dg w1 w.heap.size a n c t := by rw [← hw1]; exact Dg.new _ _ _ _ _
    have HB0 := hide B1
    have HCH : Hid (∀ W, Below w1.heap.size w1 W → Dg W w.heap.size a n c t) := hide (fun W hb => hch.below hb hch.lt)
    have HZW : Hid (∀ W, Below w1.heap.size w1 W → Rd W a n c Z) := hide (fun W hb => (h.mono B1).mono hb)
    have HXW : Hid (∀ W, Below w1.heap.size w1 W → Rd W xa xn xc X) := hide (fun W hb => (hX.mono B1).mono hb)
    have HTW : Hid (∀ W, Below w1.heap.size w1 W → DTab W ∧ TzT W) := hide (fun W hb => ⟨(hL.1.mono B1).mono hb, (hL.2.mono B1).mono hb⟩)
    have HOF : Hid (∀ W, Below w1.heap.size w1 W → Calls Tryd.prog 9 #[.agg (dgA a n c t)] W fun e w' => ∃ a' c', e = .returned (.agg (dgA a' n c' t)) ∧ w'.ownsRow W.heap.size 3 1 (.slice a' n c') n (Z.map (Value.int .i64)) ∧ Below W.heap.size W w') := hide (fun W hb => DraughtsOf_own t a n c Z W (HZW.out W hb) hr)
    have HIN : Hid (∀ W, Below w1.heap.size w1 W → Calls Tryd.prog 18 #[.slice xa xn xc] W fun e w' => ∃ a' c', e = .returned (.slice a' xn c') ∧ w'.ownsRow W.heap.size 3 1 (.slice a' xn c') xn (X.map (Value.int .i64)) ∧ Below W.heap.size W w') := hide (fun W hb => intsL_own xa xn xc X W (HXW.out W hb) hxr)
    have HDM : Hid (∀ W, Below w1.heap.size w1 W → Calls Tryd.prog 14 #[.agg (dgA a n c t)] W fun e w' => e = .returned (.bool (mayD Z t)) ∧ Below W.heap.size W w') := hide (fun W hb => DraughtsMay_any t a n c Z W (HZW.out W hb))
    have HB1 : Hid (Below w1.heap.size w1 w1) := hide (Below.refl _ _)
    clear h hX hL B1
    have HMY := hide hmay
    clear hmay
    go_enter Tryd.func4, Tryd.ntmps4
    go_upto_region 1 with fail
    clear hw1
    go_wp2_with (refine wpList_load_dg rfl (.tmp 3) rfl w.heap.size rfl hch ?_)
    refine (HOF.out w1 HB1.out).mono ?_
    rintro r w2 ⟨a2, c2, rfl, hO, hb⟩
    have HB2 : Hid (Below w1.heap.size w1 w2) := hide (HB1.out.trans (hb.mono HB1.out.size))
    have hch := HCH.out w2 HB2.out
    have HR2 := hide (Rd.of_own hO)
    clear hO
    clear hb
    go_wp2_with fail
    refine (HIN.out w2 HB2.out).mono ?_
    rintro r w3 ⟨a3, c3, rfl, hO, hb⟩
    have HB3 : Hid (Below w1.heap.size w1 w3) := hide (HB2.out.trans (hb.mono HB2.out.size))
    have hch := HCH.out w3 HB3.out
    have HX3 := hide (Rd.of_own hO)
    have HR3 := hide (HR2.out.mono hb)
    clear hO
    clear hb
    go_wp2_with fail
    refine (Do_no t a2 n c2 Z a3 xn c3 w3 HR3.out HMY.out).mono ?_
    rintro r w4 ⟨rfl, hb⟩
    have HB4 : Hid (Below w1.heap.size w1 w4) := hide (HB3.out.trans (hb.mono HB3.out.size))
    have hch := HCH.out w4 HB4.out
    clear hb
    go_wp2_with (first | (refine wpList_store_dg rfl (.tmp 7) (.tmp 19) rfl w4.heap.size rfl rfl (Dg.new w4 none 0 0 0) ?_; intro w5 kx kk; have hb5 : Below w4.heap.size w4 w5 := (((Keeps.refl (fun k => k = w4.heap.size) w4).alloc _).trans kk).below (Nat.le_refl _) (fun k hk e => by omega); have hch := HCH.out w5 (HB4.out.trans (hb5.mono HB4.out.size))) | (refine wpList_load_dg rfl (.tmp 3) rfl w.heap.size rfl hch ?_))
    have HB5 : Hid (Below w1.heap.size w1 w5) := hide (HB4.out.trans (hb5.mono HB4.out.size))
    have HKX : Hid (∀ W, Below w5.heap.size w5 W → Dg W w4.heap.size none 0 0 0) := hide (fun W hb => kx.below hb kx.lt)
    have HQ5 : Hid (Below w5.heap.size w5 w5) := hide (Below.refl _ _)
    clear kk kx hb5
    refine (HOF.out w5 HB5.out).mono ?_
    rintro r w6 ⟨a6, c6, rfl, hO, hb⟩
    have HB6 : Hid (Below w1.heap.size w1 w6) := hide (HB5.out.trans (hb.mono HB5.out.size))
    have hch := HCH.out w6 HB6.out
    have HQ6 : Hid (Below w5.heap.size w5 w6) := hide (HQ5.out.trans (hb.mono HQ5.out.size))
    have HR6 := hide (Rd.of_own hO)
    clear hO
    clear hb
    go_wp2_with fail
    refine (Count_no t a6 n c6 Z p w6 HR6.out HMY.out).mono ?_
    rintro r w7 ⟨rfl, hb⟩
    have HB7 : Hid (Below w1.heap.size w1 w7) := hide (HB6.out.trans (hb.mono HB6.out.size))
    have hch := HCH.out w7 HB7.out
    have HQ7 : Hid (Below w5.heap.size w5 w7) := hide (HQ6.out.trans (hb.mono HQ6.out.size))
    clear hb
    go_wp2_with (refine wpList_load_dg rfl (.tmp 3) rfl w.heap.size rfl hch ?_)
    refine (HDM.out w7 HB7.out).mono ?_
    rintro r w8 ⟨rfl, hb⟩
    have HB8 : Hid (Below w1.heap.size w1 w8) := hide (HB7.out.trans (hb.mono HB7.out.size))
    have hch := HCH.out w8 HB8.out
    have HQ8 : Hid (Below w5.heap.size w5 w8) := hide (HQ7.out.trans (hb.mono HQ7.out.size))
    clear hb
    rw [HMY.out]
    obtain ⟨x0, x1⟩ := (HKX.out w8 HQ8.out).cells
    go_wp2_with fail
    go_ret
    exact ⟨rfl, HB0.out.trans (HB8.out.mono HB0.out.size)⟩
  | true =>
    have hM0 := (mayD_iff Z t).1 hmay
    obtain ⟨s, hs⟩ : ∃ s : Nat, t = (s : Int) := ⟨t.toNat, by have := hM0.tt; omega⟩
    subst hs
    have hn : n = 33 := by have := h.len; have := hM0.len; omega
    subst hn
    have ht2 : s = 1 ∨ s = 2 := by have := hM0.tt; omega
    obtain ⟨w1, hw1⟩ : ∃ w1, w.alloc (.cells (dgA a 33 c (s : Nat)) 24) = w1 := ⟨_, rfl⟩
    have B1 : Below w.heap.size w w1 := by rw [← hw1]; exact (Below.refl _ _).alloc (Nat.le_refl _) _
    have hch : Dg w1 w.heap.size a 33 c (s : Nat) := by rw [← hw1]; exact Dg.new _ _ _ _ _
    have HB0 := hide B1
    have HCH : Hid (∀ W, Below w1.heap.size w1 W → Dg W w.heap.size a 33 c (s : Nat)) := hide (fun W hb => hch.below hb hch.lt)
    have HZW : Hid (∀ W, Below w1.heap.size w1 W → Rd W a 33 c Z) := hide (fun W hb => (h.mono B1).mono hb)
    have HXW : Hid (∀ W, Below w1.heap.size w1 W → Rd W xa xn xc X) := hide (fun W hb => (hX.mono B1).mono hb)
    have HTW : Hid (∀ W, Below w1.heap.size w1 W → DTab W ∧ TzT W) := hide (fun W hb => ⟨(hL.1.mono B1).mono hb, (hL.2.mono B1).mono hb⟩)
    have HOF : Hid (∀ W, Below w1.heap.size w1 W → Calls Tryd.prog 9 #[.agg (dgA a 33 c (s : Nat))] W fun e w' => ∃ a' c', e = .returned (.agg (dgA a' 33 c' (s : Nat))) ∧ w'.ownsRow W.heap.size 3 1 (.slice a' 33 c') 33 (Z.map (Value.int .i64)) ∧ Below W.heap.size W w') := hide (fun W hb => DraughtsOf_own (s : Nat) a 33 c Z W (HZW.out W hb) hr)
    have HIN : Hid (∀ W, Below w1.heap.size w1 W → Calls Tryd.prog 18 #[.slice xa xn xc] W fun e w' => ∃ a' c', e = .returned (.slice a' xn c') ∧ w'.ownsRow W.heap.size 3 1 (.slice a' xn c') xn (X.map (Value.int .i64)) ∧ Below W.heap.size W w') := hide (fun W hb => intsL_own xa xn xc X W (HXW.out W hb) hxr)
    have HDM : Hid (∀ W, Below w1.heap.size w1 W → Calls Tryd.prog 14 #[.agg (dgA a 33 c (s : Nat))] W fun e w' => e = .returned (.bool (mayD Z (s : Nat))) ∧ Below W.heap.size W w') := hide (fun W hb => DraughtsMay_any (s : Nat) a 33 c Z W (HZW.out W hb))
    have HB1 : Hid (Below w1.heap.size w1 w1) := hide (Below.refl _ _)
    clear h hX hL B1
    have HMY := hide hmay
    have HM := hide hM0
    clear hmay hM0
    by_cases hp : 0 ≤ p ∧ p ≤ 6
    · obtain ⟨f, rfl⟩ := Int.eq_ofNat_of_zero_le hp.1
      have hf6 : f ≤ 6 := by omega
      go_enter Tryd.func4, Tryd.ntmps4
      go_upto_region 1 with fail
      clear hw1
      go_wp2_with (refine wpList_load_dg rfl (.tmp 3) rfl w.heap.size rfl hch ?_)
      refine (HOF.out w1 HB1.out).mono ?_
      rintro r w2 ⟨a2, c2, rfl, hO, hb⟩
      have HB2 : Hid (Below w1.heap.size w1 w2) := hide (HB1.out.trans (hb.mono HB1.out.size))
      have hch := HCH.out w2 HB2.out
      have HR2 := hide (Rd.of_own hO)
      clear hO
      clear hb
      go_wp2_with fail
      refine (HIN.out w2 HB2.out).mono ?_
      rintro r w3 ⟨a3, c3, rfl, hO, hb⟩
      have HB3 : Hid (Below w1.heap.size w1 w3) := hide (HB2.out.trans (hb.mono HB2.out.size))
      have hch := HCH.out w3 HB3.out
      have HX3 := hide (Rd.of_own hO)
      have HR3 := hide (HR2.out.mono hb)
      clear hO
      clear hb
      go_wp2_with fail
      refine (Do_may s a2 c2 Z a3 xn c3 X w3 HR3.out HX3.out HM.out (HTW.out w3 HB3.out).1 (HTW.out w3 HB3.out).2).mono ?_
      rintro r w4 ⟨hdo, hb⟩
      have HB4 : Hid (Below w1.heap.size w1 w4) := hide (HB3.out.trans (hb.mono HB3.out.size))
      have hch := HCH.out w4 HB4.out
      clear hb
      rcases hdo with ⟨y, hy, hyX, ax, cx, rfl, hRx⟩ | ⟨hno, rfl⟩
      · have HYM := hide hy
        have HYX := hide hyX
        have HRX0 := hide hRx
        rw [afN_mov HM.out hy]
        clear hy hyX hRx
        go_wp2_with (first | (refine wpList_store_dg rfl (.tmp 7) (.tmp 19) rfl w4.heap.size rfl rfl (Dg.new w4 none 0 0 0) ?_; intro w5 kx kk; have hb5 : Below w4.heap.size w4 w5 := (((Keeps.refl (fun k => k = w4.heap.size) w4).alloc _).trans kk).below (Nat.le_refl _) (fun k hk e => by omega); have hch := HCH.out w5 (HB4.out.trans (hb5.mono HB4.out.size))) | (refine wpList_load_dg rfl (.tmp 3) rfl w.heap.size rfl hch ?_))
        have HB5 : Hid (Below w1.heap.size w1 w5) := hide (HB4.out.trans (hb5.mono HB4.out.size))
        have HKX : Hid (∀ W, Below w5.heap.size w5 W → Dg W w4.heap.size ax 33 cx ((3 - s : Nat))) := hide (fun W hb => kx.below hb kx.lt)
        have HQ5 : Hid (Below w5.heap.size w5 w5) := hide (Below.refl _ _)
        have HRX : Hid (∀ W, Below w5.heap.size w5 W → Rd W ax 33 cx (tol (afN Z s y))) := hide (fun W hb => (HRX0.out.mono hb5).mono hb)
        clear kk kx hb5
        refine (HOF.out w5 HB5.out).mono ?_
        rintro r w6 ⟨a6, c6, rfl, hO, hb⟩
        have HB6 : Hid (Below w1.heap.size w1 w6) := hide (HB5.out.trans (hb.mono HB5.out.size))
        have hch := HCH.out w6 HB6.out
        have HQ6 : Hid (Below w5.heap.size w5 w6) := hide (HQ5.out.trans (hb.mono HQ5.out.size))
        have HR6 := hide (Rd.of_own hO)
        clear hO
        clear hb
        go_wp2_with fail
        refine (Count_yes s a6 c6 Z f hf6 w6 HR6.out HM.out (HTW.out w6 HB6.out).1 (HTW.out w6 HB6.out).2).mono ?_
        rintro r w7 ⟨rfl, hb⟩
        have HB7 : Hid (Below w1.heap.size w1 w7) := hide (HB6.out.trans (hb.mono HB6.out.size))
        have hch := HCH.out w7 HB7.out
        have HQ7 : Hid (Below w5.heap.size w5 w7) := hide (HQ6.out.trans (hb.mono HQ6.out.size))
        clear hb
        go_wp2_with (refine wpList_load_dg rfl (.tmp 3) rfl w.heap.size rfl hch ?_)
        refine (HDM.out w7 HB7.out).mono ?_
        rintro r w8 ⟨rfl, hb⟩
        have HB8 : Hid (Below w1.heap.size w1 w8) := hide (HB7.out.trans (hb.mono HB7.out.size))
        have hch := HCH.out w8 HB8.out
        have HQ8 : Hid (Below w5.heap.size w5 w8) := hide (HQ7.out.trans (hb.mono HQ7.out.size))
        clear hb
        rw [HMY.out]
        have hpl : ¬ (f : Int) < 0 := by omega
        have hpg : ¬ (6 : Int) < (f : Int) := by omega
        have HDC := hide (DraughtsCount_all f hf6 Z s HM.out a c w8 (HZW.out w8 HB8.out))
        generalize cntR f Z s = cv at *
        go_wp2_with (refine wpList_load_dg rfl (.tmp 3) rfl w.heap.size rfl hch ?_)
        refine HDC.out.mono ?_
        rintro r w9 ⟨rfl, hb⟩
        have HB9 : Hid (Below w1.heap.size w1 w9) := hide (HB8.out.trans (hb.mono HB8.out.size))
        have hch := HCH.out w9 HB9.out
        have HQ9 : Hid (Below w5.heap.size w5 w9) := hide (HQ8.out.trans (hb.mono HQ8.out.size))
        clear hb
        go_wp2_with (refine wpList_load_dg rfl (.tmp 3) rfl w.heap.size rfl hch ?_)
        refine (DraughtsMoves_any s a c Z w9 (HZW.out w9 HB9.out) HM.out (fun p hp => jumpsOn_all Z s p HM.out hp 13 (Nat.le_refl _))).mono ?_
        rintro r wm ⟨vm, rfl, hF, hb⟩
        have HBM : Hid (Below w1.heap.size w1 wm) := hide (HB9.out.trans (hb.mono HB9.out.size))
        have HQM : Hid (Below w5.heap.size w5 wm) := hide (HQ9.out.trans (hb.mono HQ9.out.size))
        obtain ⟨am, cm, rfl⟩ := hF.form
        have HFM := hide hF.fr
        obtain ⟨L, hLL⟩ : ∃ L, (rMv Z s).map toI = L := ⟨_, rfl⟩
        rw [hLL] at HFM ⊢
        have HLL := hide hLL
        obtain ⟨N, hN⟩ : ∃ N, L.length = N := ⟨_, rfl⟩
        rw [hN] at HFM ⊢
        have HN := hide hN
        have hcmm := HFM.out.max
        unfold maxLen at hcmm
        have hccm := HFM.out.cap
        clear hb hF hLL hN hch
        go_wp2_with fail
        go_loopw [12] (fun v wr => ∃ i : Nat, v = .int .i64 i ∧ i ≤ N ∧ Hid (∀ j, j < i → L.getD j [] ≠ X) ∧ Hid (Below wm.heap.size wm wr)) (fun v _ => N - (intOf v).toNat)
        case atStart => exact ⟨0, rfl, by omega, hide (fun j hj => absurd hj (by omega)), hide (Below.refl _ _)⟩
        case round =>
          obtain ⟨i, rfl, hi, hall, hbl⟩ := hrel
          have HBR : Hid (Below w1.heap.size w1 wr) := hide (HBM.out.trans (hbl.out.mono HBM.out.size))
          have HQR : Hid (Below w5.heap.size w5 wr) := hide (HQM.out.trans (hbl.out.mono HQM.out.size))
          by_cases hlt : i < N
          · have hlt' : (i : Int) < (N : Int) := by omega
            obtain ⟨zb, zo, rfl, hcl⟩ := (HFM.out.mono hbl.out).cells (by omega)
            obtain ⟨ai, ci, ei, ri⟩ := hcl i hlt
            have HSI := hide (sameIntsL_any ai xa _ ci xn xc _ X wr ri.rd (HXW.out wr HBR.out))
            have HNX : Hid (L.getD i [] ≠ X → ∀ j, j < i + 1 → L.getD j [] ≠ X) := hide (fun ho j hj => by
              by_cases e : j = i
              · subst e; exact ho
              · exact hall.out j (by omega))
            obtain ⟨Li, hLi⟩ : ∃ Li, L.getD i [] = Li := ⟨_, rfl⟩
            have HLI := hide hLi
            rw [hLi] at ei HSI HNX
            clear hcl ri hLi
            go_wp2_with fail
            refine HSI.out.mono ?_
            rintro r w20 ⟨rfl, q20, hq20⟩
            have HB20 : Hid (Below wr.heap.size wr w20) := hide (by rw [hq20]; exact drewN_below _ _ _)
            clear hq20
            by_cases hse : Li = X
            · rw [decide_eq_true hse]
              have HBS : Hid (Below w1.heap.size w1 w20) := hide (HBR.out.trans (HB20.out.mono HBR.out.size))
              have HQS : Hid (Below w5.heap.size w5 w20) := hide (HQR.out.trans (HB20.out.mono HQR.out.size))
              have hok := wyN_ok HM.out HYM.out
              have hxl : xn = y.1.length := by have := (HXW.out w1 HB1.out).len; rw [← HYX.out, toI_len] at this; omega
              have HDD : Hid (∀ W, Below w1.heap.size w1 W → Calls Tryd.prog 22 #[.agg (dgA a 33 c (s : Nat)), .slice xa xn xc] W fun e w' => ∃ a' c', e = .returned (.agg (dgA a' 33 c' ((3 - s : Nat)))) ∧ Rd w' a' 33 c' (doR Z y.1) ∧ Below W.heap.size W w') := hide (fun W hb => by
                have hx1 := HXW.out W hb
                rw [← HYX.out, hxl] at hx1
                rw [hxl]
                exact DraughtsDo_any s a c Z xa xc y.1 W (HZW.out W hb) hx1 hok.two hok.le hok.rng ht2)
              have HTA := hide (tol_afN HM.out HYM.out)
              clear HNX hse hok hxl
              go_upto_region 15 with fail
              refine wp_region_held (S := fun W4 => Below w20.heap.size w20 W4) (by kernel_rfl) ?_
              change wpAnyH _ _ _ _ _ _ _ _ (World.drew _)
              have SW : Below w20.heap.size w20 w20.drew := (Below.refl _ w20).drew
              refine wpAnyH_take (i := 0) (v := .int .i64 0) rfl (by kernel_rfl) (by kernel_rfl) (by kernel_rfl) (fun _ _ _ h => h) (Or.inl ⟨by rfl, ?_⟩) SW ?_
              · intro W4 hW4
                go_simp <;> first | done | rfl | (rw [IntKind.wrap_i64]; omega) | omega
              go_simp
              refine wpAnyH_take (i := 1) (v := .bool true) rfl (by kernel_rfl) (by kernel_rfl) (by kernel_rfl) (fun _ _ _ h => h) (Or.inl ⟨by rfl, ?_⟩) SW ?_
              · intro W4 hW4
                go_simp <;> first | done | rfl | (rw [IntKind.wrap_i64]; omega) | omega
              go_simp
              refine wpAnyH_take (i := 2) (v := .bool true) rfl (by kernel_rfl) (by kernel_rfl) (by kernel_rfl) (fun _ _ _ h => h) (Or.inl ⟨by rfl, ?_⟩) SW ?_
              · intro W4 hW4
                go_simp <;> first | done | rfl | (rw [IntKind.wrap_i64]; omega) | omega
              go_simp
              refine wpAnyH_take (i := 3) (v := .agg (dgA ax 33 cx ((3 - s : Nat)))) rfl (by kernel_rfl) (by kernel_rfl) (by kernel_rfl) (fun _ _ _ h => h) (yieldsIf_load_mid (by rfl) 24 _ rfl w4.heap.size 0 (by rfl) [.slice ax 33 cx, .int .i64 ((3 - s : Nat))] _ (fun W hW => (HKX.out W (HQS.out.trans (hW.mono HQS.out.size))).range) Tryd.underlying24 rfl size24) SW ?_
              go_simp
              refine wpAnyH_take (i := 4) (v := .agg (dgA a 33 c (s : Nat))) rfl (by kernel_rfl) (by kernel_rfl) (by kernel_rfl) (fun _ _ _ h => h) (yieldsIf_load_mid (by rfl) 24 _ rfl w.heap.size 0 (by rfl) [.slice a 33 c, .int .i64 (s : Nat)] _ (fun W hW => (HCH.out W (HBS.out.trans (hW.mono HBS.out.size))).range) Tryd.underlying24 rfl size24) SW ?_
              go_simp
              refine wpAnyH_take (i := 5) (v := .slice xa xn xc) rfl (by kernel_rfl) (by kernel_rfl) (by kernel_rfl) (fun _ _ _ h => h) (Or.inl ⟨by rfl, ?_⟩) SW ?_
              · intro W4 hW4
                go_simp <;> first | done | rfl | (rw [IntKind.wrap_i64]; omega) | omega
              go_simp
              refine wpAnyH_ready (rs := [6]) (by kernel_rfl) (by simp) ?_
              refine AllReadyH.cons rfl (fun K1 hK1 => ?_) AllReadyH.nil
              go_simp
              refine (HDD.out _ (HBS.out.trans (SW.mono HBS.out.size))).mono ?_
              rintro r w21 ⟨a21, c21, rfl, hR21, hb21⟩
              have B21 := SW.trans (hb21.mono SW.size)
              have HSD := hide (sameD_any ((3 - s : Nat)) ((3 - s : Nat)) ax 33 cx _ a21 33 c21 _ w21 (HRX.out w21 (HQS.out.trans (B21.mono HQS.out.size))) hR21)
              rw [HTA.out, decide_eq_true rfl, decide_eq_true rfl, Bool.and_self] at HSD
              refine hK1.out _ _ B21 (fun SW => ?_)
              clear hK1 K1 hb21 hR21 B21
              go_simp
              refine wpAnyH_ready (rs := [7]) (by kernel_rfl) (by simp) ?_
              refine AllReadyH.cons rfl (fun K1 hK1 => ?_) AllReadyH.nil
              go_simp
              refine HSD.out.mono ?_
              rintro r w22 ⟨rfl, hb22⟩
              refine hK1.out _ _ (SW.trans (hb22.mono SW.size)) (fun SW => ?_)
              clear hK1 K1 hb22
              go_simp
              refine wpAnyH_take (i := 8) (v := .bool true) rfl (by kernel_rfl) (by kernel_rfl) (by kernel_rfl) (fun _ _ _ h => h) (Or.inl ⟨by rfl, ?_⟩) SW ?_
              · intro W4 hW4
                go_simp <;> first | done | rfl | (rw [IntKind.wrap_i64]; omega) | omega
              go_simp
              refine wpAnyH_take (i := 9) (v := .bool true) rfl (by kernel_rfl) (by kernel_rfl) (by kernel_rfl) (fun _ _ _ h => h) (Or.inl ⟨by rfl, ?_⟩) SW ?_
              · intro W4 hW4
                go_simp <;> first | done | rfl | (rw [IntKind.wrap_i64]; omega) | omega
              go_simp
              refine wpAnyH_done (by kernel_rfl) ?_ _
              have HBE := hide (HBS.out.trans (SW.mono HBS.out.size))
              clear SW
              go_wp2_with fail
              go_ret
              exact ⟨rfl, HB0.out.trans (HBE.out.mono HB0.out.size)⟩
            · rw [decide_eq_false hse]
              have HO1 := hide (HNX.out hse)
              have HBN : Hid (Below wm.heap.size wm w20) := hide (hbl.out.trans (HB20.out.mono hbl.out.size))
              clear HNX hse
              go_wp2_with fail
              exact ⟨⟨i + 1, by go_num, by omega, HO1, HBN⟩, by simp [intOf]; omega⟩
          · obtain rfl : i = N := by omega
            exfalso
            have hm := row_in HM.out HYM.out
            rw [HYX.out, HLL.out] at hm
            obtain ⟨j, hj, he⟩ := List.getElem_of_mem hm
            refine hall.out j (by rw [← HN.out]; exact hj) ?_
            simp [List.getD, hj, he]
      · have HNO := hide hno
        clear hno
        go_wp2_with (first | (refine wpList_store_dg rfl (.tmp 7) (.tmp 19) rfl w4.heap.size rfl rfl (Dg.new w4 none 0 0 0) ?_; intro w5 kx kk; have hb5 : Below w4.heap.size w4 w5 := (((Keeps.refl (fun k => k = w4.heap.size) w4).alloc _).trans kk).below (Nat.le_refl _) (fun k hk e => by omega); have hch := HCH.out w5 (HB4.out.trans (hb5.mono HB4.out.size))) | (refine wpList_load_dg rfl (.tmp 3) rfl w.heap.size rfl hch ?_))
        have HB5 : Hid (Below w1.heap.size w1 w5) := hide (HB4.out.trans (hb5.mono HB4.out.size))
        have HKX : Hid (∀ W, Below w5.heap.size w5 W → Dg W w4.heap.size none 0 0 0) := hide (fun W hb => kx.below hb kx.lt)
        have HQ5 : Hid (Below w5.heap.size w5 w5) := hide (Below.refl _ _)
        clear kk kx hb5
        refine (HOF.out w5 HB5.out).mono ?_
        rintro r w6 ⟨a6, c6, rfl, hO, hb⟩
        have HB6 : Hid (Below w1.heap.size w1 w6) := hide (HB5.out.trans (hb.mono HB5.out.size))
        have hch := HCH.out w6 HB6.out
        have HQ6 : Hid (Below w5.heap.size w5 w6) := hide (HQ5.out.trans (hb.mono HQ5.out.size))
        have HR6 := hide (Rd.of_own hO)
        clear hO
        clear hb
        go_wp2_with fail
        refine (Count_yes s a6 c6 Z f hf6 w6 HR6.out HM.out (HTW.out w6 HB6.out).1 (HTW.out w6 HB6.out).2).mono ?_
        rintro r w7 ⟨rfl, hb⟩
        have HB7 : Hid (Below w1.heap.size w1 w7) := hide (HB6.out.trans (hb.mono HB6.out.size))
        have hch := HCH.out w7 HB7.out
        have HQ7 : Hid (Below w5.heap.size w5 w7) := hide (HQ6.out.trans (hb.mono HQ6.out.size))
        clear hb
        go_wp2_with (refine wpList_load_dg rfl (.tmp 3) rfl w.heap.size rfl hch ?_)
        refine (HDM.out w7 HB7.out).mono ?_
        rintro r w8 ⟨rfl, hb⟩
        have HB8 : Hid (Below w1.heap.size w1 w8) := hide (HB7.out.trans (hb.mono HB7.out.size))
        have hch := HCH.out w8 HB8.out
        have HQ8 : Hid (Below w5.heap.size w5 w8) := hide (HQ7.out.trans (hb.mono HQ7.out.size))
        clear hb
        rw [HMY.out]
        have hpl : ¬ (f : Int) < 0 := by omega
        have hpg : ¬ (6 : Int) < (f : Int) := by omega
        have HDC := hide (DraughtsCount_all f hf6 Z s HM.out a c w8 (HZW.out w8 HB8.out))
        generalize cntR f Z s = cv at *
        go_wp2_with (refine wpList_load_dg rfl (.tmp 3) rfl w.heap.size rfl hch ?_)
        refine HDC.out.mono ?_
        rintro r w9 ⟨rfl, hb⟩
        have HB9 : Hid (Below w1.heap.size w1 w9) := hide (HB8.out.trans (hb.mono HB8.out.size))
        have hch := HCH.out w9 HB9.out
        have HQ9 : Hid (Below w5.heap.size w5 w9) := hide (HQ8.out.trans (hb.mono HQ8.out.size))
        clear hb
        go_wp2_with (refine wpList_load_dg rfl (.tmp 3) rfl w.heap.size rfl hch ?_)
        refine (DraughtsMoves_any s a c Z w9 (HZW.out w9 HB9.out) HM.out (fun p hp => jumpsOn_all Z s p HM.out hp 13 (Nat.le_refl _))).mono ?_
        rintro r wm ⟨vm, rfl, hF, hb⟩
        have HBM : Hid (Below w1.heap.size w1 wm) := hide (HB9.out.trans (hb.mono HB9.out.size))
        have HQM : Hid (Below w5.heap.size w5 wm) := hide (HQ9.out.trans (hb.mono HQ9.out.size))
        obtain ⟨am, cm, rfl⟩ := hF.form
        have HFM := hide hF.fr
        obtain ⟨L, hLL⟩ : ∃ L, (rMv Z s).map toI = L := ⟨_, rfl⟩
        rw [hLL] at HFM ⊢
        have HLL := hide hLL
        obtain ⟨N, hN⟩ : ∃ N, L.length = N := ⟨_, rfl⟩
        rw [hN] at HFM ⊢
        have HN := hide hN
        have hcmm := HFM.out.max
        unfold maxLen at hcmm
        have hccm := HFM.out.cap
        clear hb hF hLL hN hch
        go_wp2_with fail
        go_loopw [12] (fun v wr => ∃ i : Nat, v = .int .i64 i ∧ i ≤ N ∧ Hid (∀ j, j < i → L.getD j [] ≠ X) ∧ Hid (Below wm.heap.size wm wr)) (fun v _ => N - (intOf v).toNat)
        case atStart => exact ⟨0, rfl, by omega, hide (fun j hj => absurd hj (by omega)), hide (Below.refl _ _)⟩
        case round =>
          obtain ⟨i, rfl, hi, hall, hbl⟩ := hrel
          have HBR : Hid (Below w1.heap.size w1 wr) := hide (HBM.out.trans (hbl.out.mono HBM.out.size))
          have HQR : Hid (Below w5.heap.size w5 wr) := hide (HQM.out.trans (hbl.out.mono HQM.out.size))
          by_cases hlt : i < N
          · have hlt' : (i : Int) < (N : Int) := by omega
            obtain ⟨zb, zo, rfl, hcl⟩ := (HFM.out.mono hbl.out).cells (by omega)
            obtain ⟨ai, ci, ei, ri⟩ := hcl i hlt
            have HSI := hide (sameIntsL_any ai xa _ ci xn xc _ X wr ri.rd (HXW.out wr HBR.out))
            have HNX : Hid (L.getD i [] ≠ X → ∀ j, j < i + 1 → L.getD j [] ≠ X) := hide (fun ho j hj => by
              by_cases e : j = i
              · subst e; exact ho
              · exact hall.out j (by omega))
            obtain ⟨Li, hLi⟩ : ∃ Li, L.getD i [] = Li := ⟨_, rfl⟩
            have HLI := hide hLi
            rw [hLi] at ei HSI HNX
            clear hcl ri hLi
            go_wp2_with fail
            refine HSI.out.mono ?_
            rintro r w20 ⟨rfl, q20, hq20⟩
            have HB20 : Hid (Below wr.heap.size wr w20) := hide (by rw [hq20]; exact drewN_below _ _ _)
            clear hq20
            by_cases hse : Li = X
            · exfalso
              obtain ⟨y, hy, hyX⟩ := row_of HM.out (show X ∈ (rMv Z s).map toI by
                rw [HLL.out, ← hse, ← HLI.out]; exact getD_memL (by rw [HN.out]; exact hlt))
              exact HNO.out y hy hyX
            · rw [decide_eq_false hse]
              have HO1 := hide (HNX.out hse)
              have HBN : Hid (Below wm.heap.size wm w20) := hide (hbl.out.trans (HB20.out.mono hbl.out.size))
              clear HNX hse
              go_wp2_with fail
              exact ⟨⟨i + 1, by go_num, by omega, HO1, HBN⟩, by simp [intOf]; omega⟩
          · obtain rfl : i = N := by omega
            obtain ⟨x0, x1⟩ := (HKX.out wr HQR.out).cells
            go_wp2_with fail
            go_ret
            exact ⟨rfl, HB0.out.trans (HBR.out.mono HB0.out.size)⟩
    · go_enter Tryd.func4, Tryd.ntmps4
      go_upto_region 1 with fail
      clear hw1
      go_wp2_with (refine wpList_load_dg rfl (.tmp 3) rfl w.heap.size rfl hch ?_)
      refine (HOF.out w1 HB1.out).mono ?_
      rintro r w2 ⟨a2, c2, rfl, hO, hb⟩
      have HB2 : Hid (Below w1.heap.size w1 w2) := hide (HB1.out.trans (hb.mono HB1.out.size))
      have hch := HCH.out w2 HB2.out
      have HR2 := hide (Rd.of_own hO)
      clear hO
      clear hb
      go_wp2_with fail
      refine (HIN.out w2 HB2.out).mono ?_
      rintro r w3 ⟨a3, c3, rfl, hO, hb⟩
      have HB3 : Hid (Below w1.heap.size w1 w3) := hide (HB2.out.trans (hb.mono HB2.out.size))
      have hch := HCH.out w3 HB3.out
      have HX3 := hide (Rd.of_own hO)
      have HR3 := hide (HR2.out.mono hb)
      clear hO
      clear hb
      go_wp2_with fail
      refine (Do_may s a2 c2 Z a3 xn c3 X w3 HR3.out HX3.out HM.out (HTW.out w3 HB3.out).1 (HTW.out w3 HB3.out).2).mono ?_
      rintro r w4 ⟨hdo, hb⟩
      have HB4 : Hid (Below w1.heap.size w1 w4) := hide (HB3.out.trans (hb.mono HB3.out.size))
      have hch := HCH.out w4 HB4.out
      clear hb
      rcases hdo with ⟨y, hy, hyX, ax, cx, rfl, hRx⟩ | ⟨hno, rfl⟩
      · have HYM := hide hy
        have HYX := hide hyX
        have HRX0 := hide hRx
        rw [afN_mov HM.out hy]
        clear hy hyX hRx
        go_wp2_with (first | (refine wpList_store_dg rfl (.tmp 7) (.tmp 19) rfl w4.heap.size rfl rfl (Dg.new w4 none 0 0 0) ?_; intro w5 kx kk; have hb5 : Below w4.heap.size w4 w5 := (((Keeps.refl (fun k => k = w4.heap.size) w4).alloc _).trans kk).below (Nat.le_refl _) (fun k hk e => by omega); have hch := HCH.out w5 (HB4.out.trans (hb5.mono HB4.out.size))) | (refine wpList_load_dg rfl (.tmp 3) rfl w.heap.size rfl hch ?_))
        have HB5 : Hid (Below w1.heap.size w1 w5) := hide (HB4.out.trans (hb5.mono HB4.out.size))
        have HKX : Hid (∀ W, Below w5.heap.size w5 W → Dg W w4.heap.size ax 33 cx ((3 - s : Nat))) := hide (fun W hb => kx.below hb kx.lt)
        have HQ5 : Hid (Below w5.heap.size w5 w5) := hide (Below.refl _ _)
        have HRX : Hid (∀ W, Below w5.heap.size w5 W → Rd W ax 33 cx (tol (afN Z s y))) := hide (fun W hb => (HRX0.out.mono hb5).mono hb)
        clear kk kx hb5
        refine (HOF.out w5 HB5.out).mono ?_
        rintro r w6 ⟨a6, c6, rfl, hO, hb⟩
        have HB6 : Hid (Below w1.heap.size w1 w6) := hide (HB5.out.trans (hb.mono HB5.out.size))
        have hch := HCH.out w6 HB6.out
        have HQ6 : Hid (Below w5.heap.size w5 w6) := hide (HQ5.out.trans (hb.mono HQ5.out.size))
        have HR6 := hide (Rd.of_own hO)
        clear hO
        clear hb
        go_wp2_with fail
        refine (Count_range (s : Nat) a6 33 c6 Z p w6 HR6.out HMY.out hp).mono ?_
        rintro r w7 ⟨rfl, hb⟩
        have HB7 : Hid (Below w1.heap.size w1 w7) := hide (HB6.out.trans (hb.mono HB6.out.size))
        have hch := HCH.out w7 HB7.out
        have HQ7 : Hid (Below w5.heap.size w5 w7) := hide (HQ6.out.trans (hb.mono HQ6.out.size))
        clear hb
        go_wp2_with (refine wpList_load_dg rfl (.tmp 3) rfl w.heap.size rfl hch ?_)
        refine (HDM.out w7 HB7.out).mono ?_
        rintro r w8 ⟨rfl, hb⟩
        have HB8 : Hid (Below w1.heap.size w1 w8) := hide (HB7.out.trans (hb.mono HB7.out.size))
        have hch := HCH.out w8 HB8.out
        have HQ8 : Hid (Below w5.heap.size w5 w8) := hide (HQ7.out.trans (hb.mono HQ7.out.size))
        clear hb
        rw [HMY.out]
        have hp3 : p < 0 ∨ (¬ p < 0 ∧ 6 < p) := by omega
        rcases hp3 with q | ⟨q, q2⟩
        · go_wp2_with (refine wpList_load_dg rfl (.tmp 3) rfl w.heap.size rfl hch ?_)
          refine (DraughtsMoves_any s a c Z w8 (HZW.out w8 HB8.out) HM.out (fun p hp => jumpsOn_all Z s p HM.out hp 13 (Nat.le_refl _))).mono ?_
          rintro r wm ⟨vm, rfl, hF, hb⟩
          have HBM : Hid (Below w1.heap.size w1 wm) := hide (HB8.out.trans (hb.mono HB8.out.size))
          have HQM : Hid (Below w5.heap.size w5 wm) := hide (HQ8.out.trans (hb.mono HQ8.out.size))
          obtain ⟨am, cm, rfl⟩ := hF.form
          have HFM := hide hF.fr
          obtain ⟨L, hLL⟩ : ∃ L, (rMv Z s).map toI = L := ⟨_, rfl⟩
          rw [hLL] at HFM ⊢
          have HLL := hide hLL
          obtain ⟨N, hN⟩ : ∃ N, L.length = N := ⟨_, rfl⟩
          rw [hN] at HFM ⊢
          have HN := hide hN
          have hcmm := HFM.out.max
          unfold maxLen at hcmm
          have hccm := HFM.out.cap
          clear hb hF hLL hN hch
          go_wp2_with fail
          go_loopw [12] (fun v wr => ∃ i : Nat, v = .int .i64 i ∧ i ≤ N ∧ Hid (∀ j, j < i → L.getD j [] ≠ X) ∧ Hid (Below wm.heap.size wm wr)) (fun v _ => N - (intOf v).toNat)
          case atStart => exact ⟨0, rfl, by omega, hide (fun j hj => absurd hj (by omega)), hide (Below.refl _ _)⟩
          case round =>
            obtain ⟨i, rfl, hi, hall, hbl⟩ := hrel
            have HBR : Hid (Below w1.heap.size w1 wr) := hide (HBM.out.trans (hbl.out.mono HBM.out.size))
            have HQR : Hid (Below w5.heap.size w5 wr) := hide (HQM.out.trans (hbl.out.mono HQM.out.size))
            by_cases hlt : i < N
            · have hlt' : (i : Int) < (N : Int) := by omega
              obtain ⟨zb, zo, rfl, hcl⟩ := (HFM.out.mono hbl.out).cells (by omega)
              obtain ⟨ai, ci, ei, ri⟩ := hcl i hlt
              have HSI := hide (sameIntsL_any ai xa _ ci xn xc _ X wr ri.rd (HXW.out wr HBR.out))
              have HNX : Hid (L.getD i [] ≠ X → ∀ j, j < i + 1 → L.getD j [] ≠ X) := hide (fun ho j hj => by
                by_cases e : j = i
                · subst e; exact ho
                · exact hall.out j (by omega))
              obtain ⟨Li, hLi⟩ : ∃ Li, L.getD i [] = Li := ⟨_, rfl⟩
              have HLI := hide hLi
              rw [hLi] at ei HSI HNX
              clear hcl ri hLi
              go_wp2_with fail
              refine HSI.out.mono ?_
              rintro r w20 ⟨rfl, q20, hq20⟩
              have HB20 : Hid (Below wr.heap.size wr w20) := hide (by rw [hq20]; exact drewN_below _ _ _)
              clear hq20
              by_cases hse : Li = X
              · rw [decide_eq_true hse]
                have HBS : Hid (Below w1.heap.size w1 w20) := hide (HBR.out.trans (HB20.out.mono HBR.out.size))
                have HQS : Hid (Below w5.heap.size w5 w20) := hide (HQR.out.trans (HB20.out.mono HQR.out.size))
                have hok := wyN_ok HM.out HYM.out
                have hxl : xn = y.1.length := by have := (HXW.out w1 HB1.out).len; rw [← HYX.out, toI_len] at this; omega
                have HDD : Hid (∀ W, Below w1.heap.size w1 W → Calls Tryd.prog 22 #[.agg (dgA a 33 c (s : Nat)), .slice xa xn xc] W fun e w' => ∃ a' c', e = .returned (.agg (dgA a' 33 c' ((3 - s : Nat)))) ∧ Rd w' a' 33 c' (doR Z y.1) ∧ Below W.heap.size W w') := hide (fun W hb => by
                  have hx1 := HXW.out W hb
                  rw [← HYX.out, hxl] at hx1
                  rw [hxl]
                  exact DraughtsDo_any s a c Z xa xc y.1 W (HZW.out W hb) hx1 hok.two hok.le hok.rng ht2)
                have HTA := hide (tol_afN HM.out HYM.out)
                clear HNX hse hok hxl
                go_upto_region 15 with fail
                refine wp_region_held (S := fun W4 => Below w20.heap.size w20 W4) (by kernel_rfl) ?_
                change wpAnyH _ _ _ _ _ _ _ _ (World.drew _)
                have SW : Below w20.heap.size w20 w20.drew := (Below.refl _ w20).drew
                refine wpAnyH_take (i := 0) (v := .int .i64 0) rfl (by kernel_rfl) (by kernel_rfl) (by kernel_rfl) (fun _ _ _ h => h) (Or.inl ⟨by rfl, ?_⟩) SW ?_
                · intro W4 hW4
                  go_simp <;> first | done | rfl | (rw [IntKind.wrap_i64]; omega) | omega
                go_simp
                refine wpAnyH_take (i := 1) (v := .bool true) rfl (by kernel_rfl) (by kernel_rfl) (by kernel_rfl) (fun _ _ _ h => h) (Or.inl ⟨by rfl, ?_⟩) SW ?_
                · intro W4 hW4
                  go_simp <;> first | done | rfl | (rw [IntKind.wrap_i64]; omega) | omega
                go_simp
                refine wpAnyH_take (i := 2) (v := .bool true) rfl (by kernel_rfl) (by kernel_rfl) (by kernel_rfl) (fun _ _ _ h => h) (Or.inl ⟨by rfl, ?_⟩) SW ?_
                · intro W4 hW4
                  go_simp <;> first | done | rfl | (rw [IntKind.wrap_i64]; omega) | omega
                go_simp
                refine wpAnyH_take (i := 3) (v := .agg (dgA ax 33 cx ((3 - s : Nat)))) rfl (by kernel_rfl) (by kernel_rfl) (by kernel_rfl) (fun _ _ _ h => h) (yieldsIf_load_mid (by rfl) 24 _ rfl w4.heap.size 0 (by rfl) [.slice ax 33 cx, .int .i64 ((3 - s : Nat))] _ (fun W hW => (HKX.out W (HQS.out.trans (hW.mono HQS.out.size))).range) Tryd.underlying24 rfl size24) SW ?_
                go_simp
                refine wpAnyH_take (i := 4) (v := .agg (dgA a 33 c (s : Nat))) rfl (by kernel_rfl) (by kernel_rfl) (by kernel_rfl) (fun _ _ _ h => h) (yieldsIf_load_mid (by rfl) 24 _ rfl w.heap.size 0 (by rfl) [.slice a 33 c, .int .i64 (s : Nat)] _ (fun W hW => (HCH.out W (HBS.out.trans (hW.mono HBS.out.size))).range) Tryd.underlying24 rfl size24) SW ?_
                go_simp
                refine wpAnyH_take (i := 5) (v := .slice xa xn xc) rfl (by kernel_rfl) (by kernel_rfl) (by kernel_rfl) (fun _ _ _ h => h) (Or.inl ⟨by rfl, ?_⟩) SW ?_
                · intro W4 hW4
                  go_simp <;> first | done | rfl | (rw [IntKind.wrap_i64]; omega) | omega
                go_simp
                refine wpAnyH_ready (rs := [6]) (by kernel_rfl) (by simp) ?_
                refine AllReadyH.cons rfl (fun K1 hK1 => ?_) AllReadyH.nil
                go_simp
                refine (HDD.out _ (HBS.out.trans (SW.mono HBS.out.size))).mono ?_
                rintro r w21 ⟨a21, c21, rfl, hR21, hb21⟩
                have B21 := SW.trans (hb21.mono SW.size)
                have HSD := hide (sameD_any ((3 - s : Nat)) ((3 - s : Nat)) ax 33 cx _ a21 33 c21 _ w21 (HRX.out w21 (HQS.out.trans (B21.mono HQS.out.size))) hR21)
                rw [HTA.out, decide_eq_true rfl, decide_eq_true rfl, Bool.and_self] at HSD
                refine hK1.out _ _ B21 (fun SW => ?_)
                clear hK1 K1 hb21 hR21 B21
                go_simp
                refine wpAnyH_ready (rs := [7]) (by kernel_rfl) (by simp) ?_
                refine AllReadyH.cons rfl (fun K1 hK1 => ?_) AllReadyH.nil
                go_simp
                refine HSD.out.mono ?_
                rintro r w22 ⟨rfl, hb22⟩
                refine hK1.out _ _ (SW.trans (hb22.mono SW.size)) (fun SW => ?_)
                clear hK1 K1 hb22
                go_simp
                refine wpAnyH_take (i := 8) (v := .bool true) rfl (by kernel_rfl) (by kernel_rfl) (by kernel_rfl) (fun _ _ _ h => h) (Or.inl ⟨by rfl, ?_⟩) SW ?_
                · intro W4 hW4
                  go_simp <;> first | done | rfl | (rw [IntKind.wrap_i64]; omega) | omega
                go_simp
                refine wpAnyH_take (i := 9) (v := .bool true) rfl (by kernel_rfl) (by kernel_rfl) (by kernel_rfl) (fun _ _ _ h => h) (Or.inl ⟨by rfl, ?_⟩) SW ?_
                · intro W4 hW4
                  go_simp <;> first | done | rfl | (rw [IntKind.wrap_i64]; omega) | omega
                go_simp
                refine wpAnyH_done (by kernel_rfl) ?_ _
                have HBE := hide (HBS.out.trans (SW.mono HBS.out.size))
                clear SW
                go_wp2_with fail
                go_ret
                exact ⟨rfl, HB0.out.trans (HBE.out.mono HB0.out.size)⟩
              · rw [decide_eq_false hse]
                have HO1 := hide (HNX.out hse)
                have HBN : Hid (Below wm.heap.size wm w20) := hide (hbl.out.trans (HB20.out.mono hbl.out.size))
                clear HNX hse
                go_wp2_with fail
                exact ⟨⟨i + 1, by go_num, by omega, HO1, HBN⟩, by simp [intOf]; omega⟩
            · obtain rfl : i = N := by omega
              exfalso
              have hm := row_in HM.out HYM.out
              rw [HYX.out, HLL.out] at hm
              obtain ⟨j, hj, he⟩ := List.getElem_of_mem hm
              refine hall.out j (by rw [← HN.out]; exact hj) ?_
              simp [List.getD, hj, he]
        · go_wp2_with (refine wpList_load_dg rfl (.tmp 3) rfl w.heap.size rfl hch ?_)
          refine (DraughtsMoves_any s a c Z w8 (HZW.out w8 HB8.out) HM.out (fun p hp => jumpsOn_all Z s p HM.out hp 13 (Nat.le_refl _))).mono ?_
          rintro r wm ⟨vm, rfl, hF, hb⟩
          have HBM : Hid (Below w1.heap.size w1 wm) := hide (HB8.out.trans (hb.mono HB8.out.size))
          have HQM : Hid (Below w5.heap.size w5 wm) := hide (HQ8.out.trans (hb.mono HQ8.out.size))
          obtain ⟨am, cm, rfl⟩ := hF.form
          have HFM := hide hF.fr
          obtain ⟨L, hLL⟩ : ∃ L, (rMv Z s).map toI = L := ⟨_, rfl⟩
          rw [hLL] at HFM ⊢
          have HLL := hide hLL
          obtain ⟨N, hN⟩ : ∃ N, L.length = N := ⟨_, rfl⟩
          rw [hN] at HFM ⊢
          have HN := hide hN
          have hcmm := HFM.out.max
          unfold maxLen at hcmm
          have hccm := HFM.out.cap
          clear hb hF hLL hN hch
          go_wp2_with fail
          go_loopw [12] (fun v wr => ∃ i : Nat, v = .int .i64 i ∧ i ≤ N ∧ Hid (∀ j, j < i → L.getD j [] ≠ X) ∧ Hid (Below wm.heap.size wm wr)) (fun v _ => N - (intOf v).toNat)
          case atStart => exact ⟨0, rfl, by omega, hide (fun j hj => absurd hj (by omega)), hide (Below.refl _ _)⟩
          case round =>
            obtain ⟨i, rfl, hi, hall, hbl⟩ := hrel
            have HBR : Hid (Below w1.heap.size w1 wr) := hide (HBM.out.trans (hbl.out.mono HBM.out.size))
            have HQR : Hid (Below w5.heap.size w5 wr) := hide (HQM.out.trans (hbl.out.mono HQM.out.size))
            by_cases hlt : i < N
            · have hlt' : (i : Int) < (N : Int) := by omega
              obtain ⟨zb, zo, rfl, hcl⟩ := (HFM.out.mono hbl.out).cells (by omega)
              obtain ⟨ai, ci, ei, ri⟩ := hcl i hlt
              have HSI := hide (sameIntsL_any ai xa _ ci xn xc _ X wr ri.rd (HXW.out wr HBR.out))
              have HNX : Hid (L.getD i [] ≠ X → ∀ j, j < i + 1 → L.getD j [] ≠ X) := hide (fun ho j hj => by
                by_cases e : j = i
                · subst e; exact ho
                · exact hall.out j (by omega))
              obtain ⟨Li, hLi⟩ : ∃ Li, L.getD i [] = Li := ⟨_, rfl⟩
              have HLI := hide hLi
              rw [hLi] at ei HSI HNX
              clear hcl ri hLi
              go_wp2_with fail
              refine HSI.out.mono ?_
              rintro r w20 ⟨rfl, q20, hq20⟩
              have HB20 : Hid (Below wr.heap.size wr w20) := hide (by rw [hq20]; exact drewN_below _ _ _)
              clear hq20
              by_cases hse : Li = X
              · rw [decide_eq_true hse]
                have HBS : Hid (Below w1.heap.size w1 w20) := hide (HBR.out.trans (HB20.out.mono HBR.out.size))
                have HQS : Hid (Below w5.heap.size w5 w20) := hide (HQR.out.trans (HB20.out.mono HQR.out.size))
                have hok := wyN_ok HM.out HYM.out
                have hxl : xn = y.1.length := by have := (HXW.out w1 HB1.out).len; rw [← HYX.out, toI_len] at this; omega
                have HDD : Hid (∀ W, Below w1.heap.size w1 W → Calls Tryd.prog 22 #[.agg (dgA a 33 c (s : Nat)), .slice xa xn xc] W fun e w' => ∃ a' c', e = .returned (.agg (dgA a' 33 c' ((3 - s : Nat)))) ∧ Rd w' a' 33 c' (doR Z y.1) ∧ Below W.heap.size W w') := hide (fun W hb => by
                  have hx1 := HXW.out W hb
                  rw [← HYX.out, hxl] at hx1
                  rw [hxl]
                  exact DraughtsDo_any s a c Z xa xc y.1 W (HZW.out W hb) hx1 hok.two hok.le hok.rng ht2)
                have HTA := hide (tol_afN HM.out HYM.out)
                clear HNX hse hok hxl
                go_upto_region 15 with fail
                refine wp_region_held (S := fun W4 => Below w20.heap.size w20 W4) (by kernel_rfl) ?_
                change wpAnyH _ _ _ _ _ _ _ _ (World.drew _)
                have SW : Below w20.heap.size w20 w20.drew := (Below.refl _ w20).drew
                refine wpAnyH_take (i := 0) (v := .int .i64 0) rfl (by kernel_rfl) (by kernel_rfl) (by kernel_rfl) (fun _ _ _ h => h) (Or.inl ⟨by rfl, ?_⟩) SW ?_
                · intro W4 hW4
                  go_simp <;> first | done | rfl | (rw [IntKind.wrap_i64]; omega) | omega
                go_simp
                refine wpAnyH_take (i := 1) (v := .bool true) rfl (by kernel_rfl) (by kernel_rfl) (by kernel_rfl) (fun _ _ _ h => h) (Or.inl ⟨by rfl, ?_⟩) SW ?_
                · intro W4 hW4
                  go_simp <;> first | done | rfl | (rw [IntKind.wrap_i64]; omega) | omega
                go_simp
                refine wpAnyH_take (i := 2) (v := .bool true) rfl (by kernel_rfl) (by kernel_rfl) (by kernel_rfl) (fun _ _ _ h => h) (Or.inl ⟨by rfl, ?_⟩) SW ?_
                · intro W4 hW4
                  go_simp <;> first | done | rfl | (rw [IntKind.wrap_i64]; omega) | omega
                go_simp
                refine wpAnyH_take (i := 3) (v := .agg (dgA ax 33 cx ((3 - s : Nat)))) rfl (by kernel_rfl) (by kernel_rfl) (by kernel_rfl) (fun _ _ _ h => h) (yieldsIf_load_mid (by rfl) 24 _ rfl w4.heap.size 0 (by rfl) [.slice ax 33 cx, .int .i64 ((3 - s : Nat))] _ (fun W hW => (HKX.out W (HQS.out.trans (hW.mono HQS.out.size))).range) Tryd.underlying24 rfl size24) SW ?_
                go_simp
                refine wpAnyH_take (i := 4) (v := .agg (dgA a 33 c (s : Nat))) rfl (by kernel_rfl) (by kernel_rfl) (by kernel_rfl) (fun _ _ _ h => h) (yieldsIf_load_mid (by rfl) 24 _ rfl w.heap.size 0 (by rfl) [.slice a 33 c, .int .i64 (s : Nat)] _ (fun W hW => (HCH.out W (HBS.out.trans (hW.mono HBS.out.size))).range) Tryd.underlying24 rfl size24) SW ?_
                go_simp
                refine wpAnyH_take (i := 5) (v := .slice xa xn xc) rfl (by kernel_rfl) (by kernel_rfl) (by kernel_rfl) (fun _ _ _ h => h) (Or.inl ⟨by rfl, ?_⟩) SW ?_
                · intro W4 hW4
                  go_simp <;> first | done | rfl | (rw [IntKind.wrap_i64]; omega) | omega
                go_simp
                refine wpAnyH_ready (rs := [6]) (by kernel_rfl) (by simp) ?_
                refine AllReadyH.cons rfl (fun K1 hK1 => ?_) AllReadyH.nil
                go_simp
                refine (HDD.out _ (HBS.out.trans (SW.mono HBS.out.size))).mono ?_
                rintro r w21 ⟨a21, c21, rfl, hR21, hb21⟩
                have B21 := SW.trans (hb21.mono SW.size)
                have HSD := hide (sameD_any ((3 - s : Nat)) ((3 - s : Nat)) ax 33 cx _ a21 33 c21 _ w21 (HRX.out w21 (HQS.out.trans (B21.mono HQS.out.size))) hR21)
                rw [HTA.out, decide_eq_true rfl, decide_eq_true rfl, Bool.and_self] at HSD
                refine hK1.out _ _ B21 (fun SW => ?_)
                clear hK1 K1 hb21 hR21 B21
                go_simp
                refine wpAnyH_ready (rs := [7]) (by kernel_rfl) (by simp) ?_
                refine AllReadyH.cons rfl (fun K1 hK1 => ?_) AllReadyH.nil
                go_simp
                refine HSD.out.mono ?_
                rintro r w22 ⟨rfl, hb22⟩
                refine hK1.out _ _ (SW.trans (hb22.mono SW.size)) (fun SW => ?_)
                clear hK1 K1 hb22
                go_simp
                refine wpAnyH_take (i := 8) (v := .bool true) rfl (by kernel_rfl) (by kernel_rfl) (by kernel_rfl) (fun _ _ _ h => h) (Or.inl ⟨by rfl, ?_⟩) SW ?_
                · intro W4 hW4
                  go_simp <;> first | done | rfl | (rw [IntKind.wrap_i64]; omega) | omega
                go_simp
                refine wpAnyH_take (i := 9) (v := .bool true) rfl (by kernel_rfl) (by kernel_rfl) (by kernel_rfl) (fun _ _ _ h => h) (Or.inl ⟨by rfl, ?_⟩) SW ?_
                · intro W4 hW4
                  go_simp <;> first | done | rfl | (rw [IntKind.wrap_i64]; omega) | omega
                go_simp
                refine wpAnyH_done (by kernel_rfl) ?_ _
                have HBE := hide (HBS.out.trans (SW.mono HBS.out.size))
                clear SW
                go_wp2_with fail
                go_ret
                exact ⟨rfl, HB0.out.trans (HBE.out.mono HB0.out.size)⟩
              · rw [decide_eq_false hse]
                have HO1 := hide (HNX.out hse)
                have HBN : Hid (Below wm.heap.size wm w20) := hide (hbl.out.trans (HB20.out.mono hbl.out.size))
                clear HNX hse
                go_wp2_with fail
                exact ⟨⟨i + 1, by go_num, by omega, HO1, HBN⟩, by simp [intOf]; omega⟩
            · obtain rfl : i = N := by omega
              exfalso
              have hm := row_in HM.out HYM.out
              rw [HYX.out, HLL.out] at hm
              obtain ⟨j, hj, he⟩ := List.getElem_of_mem hm
              refine hall.out j (by rw [← HN.out]; exact hj) ?_
              simp [List.getD, hj, he]
      · have HNO := hide hno
        clear hno
        go_wp2_with (first | (refine wpList_store_dg rfl (.tmp 7) (.tmp 19) rfl w4.heap.size rfl rfl (Dg.new w4 none 0 0 0) ?_; intro w5 kx kk; have hb5 : Below w4.heap.size w4 w5 := (((Keeps.refl (fun k => k = w4.heap.size) w4).alloc _).trans kk).below (Nat.le_refl _) (fun k hk e => by omega); have hch := HCH.out w5 (HB4.out.trans (hb5.mono HB4.out.size))) | (refine wpList_load_dg rfl (.tmp 3) rfl w.heap.size rfl hch ?_))
        have HB5 : Hid (Below w1.heap.size w1 w5) := hide (HB4.out.trans (hb5.mono HB4.out.size))
        have HKX : Hid (∀ W, Below w5.heap.size w5 W → Dg W w4.heap.size none 0 0 0) := hide (fun W hb => kx.below hb kx.lt)
        have HQ5 : Hid (Below w5.heap.size w5 w5) := hide (Below.refl _ _)
        clear kk kx hb5
        refine (HOF.out w5 HB5.out).mono ?_
        rintro r w6 ⟨a6, c6, rfl, hO, hb⟩
        have HB6 : Hid (Below w1.heap.size w1 w6) := hide (HB5.out.trans (hb.mono HB5.out.size))
        have hch := HCH.out w6 HB6.out
        have HQ6 : Hid (Below w5.heap.size w5 w6) := hide (HQ5.out.trans (hb.mono HQ5.out.size))
        have HR6 := hide (Rd.of_own hO)
        clear hO
        clear hb
        go_wp2_with fail
        refine (Count_range (s : Nat) a6 33 c6 Z p w6 HR6.out HMY.out hp).mono ?_
        rintro r w7 ⟨rfl, hb⟩
        have HB7 : Hid (Below w1.heap.size w1 w7) := hide (HB6.out.trans (hb.mono HB6.out.size))
        have hch := HCH.out w7 HB7.out
        have HQ7 : Hid (Below w5.heap.size w5 w7) := hide (HQ6.out.trans (hb.mono HQ6.out.size))
        clear hb
        go_wp2_with (refine wpList_load_dg rfl (.tmp 3) rfl w.heap.size rfl hch ?_)
        refine (HDM.out w7 HB7.out).mono ?_
        rintro r w8 ⟨rfl, hb⟩
        have HB8 : Hid (Below w1.heap.size w1 w8) := hide (HB7.out.trans (hb.mono HB7.out.size))
        have hch := HCH.out w8 HB8.out
        have HQ8 : Hid (Below w5.heap.size w5 w8) := hide (HQ7.out.trans (hb.mono HQ7.out.size))
        clear hb
        rw [HMY.out]
        have hp3 : p < 0 ∨ (¬ p < 0 ∧ 6 < p) := by omega
        rcases hp3 with q | ⟨q, q2⟩
        · go_wp2_with (refine wpList_load_dg rfl (.tmp 3) rfl w.heap.size rfl hch ?_)
          refine (DraughtsMoves_any s a c Z w8 (HZW.out w8 HB8.out) HM.out (fun p hp => jumpsOn_all Z s p HM.out hp 13 (Nat.le_refl _))).mono ?_
          rintro r wm ⟨vm, rfl, hF, hb⟩
          have HBM : Hid (Below w1.heap.size w1 wm) := hide (HB8.out.trans (hb.mono HB8.out.size))
          have HQM : Hid (Below w5.heap.size w5 wm) := hide (HQ8.out.trans (hb.mono HQ8.out.size))
          obtain ⟨am, cm, rfl⟩ := hF.form
          have HFM := hide hF.fr
          obtain ⟨L, hLL⟩ : ∃ L, (rMv Z s).map toI = L := ⟨_, rfl⟩
          rw [hLL] at HFM ⊢
          have HLL := hide hLL
          obtain ⟨N, hN⟩ : ∃ N, L.length = N := ⟨_, rfl⟩
          rw [hN] at HFM ⊢
          have HN := hide hN
          have hcmm := HFM.out.max
          unfold maxLen at hcmm
          have hccm := HFM.out.cap
          clear hb hF hLL hN hch
          go_wp2_with fail
          go_loopw [12] (fun v wr => ∃ i : Nat, v = .int .i64 i ∧ i ≤ N ∧ Hid (∀ j, j < i → L.getD j [] ≠ X) ∧ Hid (Below wm.heap.size wm wr)) (fun v _ => N - (intOf v).toNat)
          case atStart => exact ⟨0, rfl, by omega, hide (fun j hj => absurd hj (by omega)), hide (Below.refl _ _)⟩
          case round =>
            obtain ⟨i, rfl, hi, hall, hbl⟩ := hrel
            have HBR : Hid (Below w1.heap.size w1 wr) := hide (HBM.out.trans (hbl.out.mono HBM.out.size))
            have HQR : Hid (Below w5.heap.size w5 wr) := hide (HQM.out.trans (hbl.out.mono HQM.out.size))
            by_cases hlt : i < N
            · have hlt' : (i : Int) < (N : Int) := by omega
              obtain ⟨zb, zo, rfl, hcl⟩ := (HFM.out.mono hbl.out).cells (by omega)
              obtain ⟨ai, ci, ei, ri⟩ := hcl i hlt
              have HSI := hide (sameIntsL_any ai xa _ ci xn xc _ X wr ri.rd (HXW.out wr HBR.out))
              have HNX : Hid (L.getD i [] ≠ X → ∀ j, j < i + 1 → L.getD j [] ≠ X) := hide (fun ho j hj => by
                by_cases e : j = i
                · subst e; exact ho
                · exact hall.out j (by omega))
              obtain ⟨Li, hLi⟩ : ∃ Li, L.getD i [] = Li := ⟨_, rfl⟩
              have HLI := hide hLi
              rw [hLi] at ei HSI HNX
              clear hcl ri hLi
              go_wp2_with fail
              refine HSI.out.mono ?_
              rintro r w20 ⟨rfl, q20, hq20⟩
              have HB20 : Hid (Below wr.heap.size wr w20) := hide (by rw [hq20]; exact drewN_below _ _ _)
              clear hq20
              by_cases hse : Li = X
              · exfalso
                obtain ⟨y, hy, hyX⟩ := row_of HM.out (show X ∈ (rMv Z s).map toI by
                  rw [HLL.out, ← hse, ← HLI.out]; exact getD_memL (by rw [HN.out]; exact hlt))
                exact HNO.out y hy hyX
              · rw [decide_eq_false hse]
                have HO1 := hide (HNX.out hse)
                have HBN : Hid (Below wm.heap.size wm w20) := hide (hbl.out.trans (HB20.out.mono hbl.out.size))
                clear HNX hse
                go_wp2_with fail
                exact ⟨⟨i + 1, by go_num, by omega, HO1, HBN⟩, by simp [intOf]; omega⟩
            · obtain rfl : i = N := by omega
              obtain ⟨x0, x1⟩ := (HKX.out wr HQR.out).cells
              go_wp2_with fail
              go_ret
              exact ⟨rfl, HB0.out.trans (HBR.out.mono HB0.out.size)⟩
        · go_wp2_with (refine wpList_load_dg rfl (.tmp 3) rfl w.heap.size rfl hch ?_)
          refine (DraughtsMoves_any s a c Z w8 (HZW.out w8 HB8.out) HM.out (fun p hp => jumpsOn_all Z s p HM.out hp 13 (Nat.le_refl _))).mono ?_
          rintro r wm ⟨vm, rfl, hF, hb⟩
          have HBM : Hid (Below w1.heap.size w1 wm) := hide (HB8.out.trans (hb.mono HB8.out.size))
          have HQM : Hid (Below w5.heap.size w5 wm) := hide (HQ8.out.trans (hb.mono HQ8.out.size))
          obtain ⟨am, cm, rfl⟩ := hF.form
          have HFM := hide hF.fr
          obtain ⟨L, hLL⟩ : ∃ L, (rMv Z s).map toI = L := ⟨_, rfl⟩
          rw [hLL] at HFM ⊢
          have HLL := hide hLL
          obtain ⟨N, hN⟩ : ∃ N, L.length = N := ⟨_, rfl⟩
          rw [hN] at HFM ⊢
          have HN := hide hN
          have hcmm := HFM.out.max
          unfold maxLen at hcmm
          have hccm := HFM.out.cap
          clear hb hF hLL hN hch
          go_wp2_with fail
          go_loopw [12] (fun v wr => ∃ i : Nat, v = .int .i64 i ∧ i ≤ N ∧ Hid (∀ j, j < i → L.getD j [] ≠ X) ∧ Hid (Below wm.heap.size wm wr)) (fun v _ => N - (intOf v).toNat)
          case atStart => exact ⟨0, rfl, by omega, hide (fun j hj => absurd hj (by omega)), hide (Below.refl _ _)⟩
          case round =>
            obtain ⟨i, rfl, hi, hall, hbl⟩ := hrel
            have HBR : Hid (Below w1.heap.size w1 wr) := hide (HBM.out.trans (hbl.out.mono HBM.out.size))
            have HQR : Hid (Below w5.heap.size w5 wr) := hide (HQM.out.trans (hbl.out.mono HQM.out.size))
            by_cases hlt : i < N
            · have hlt' : (i : Int) < (N : Int) := by omega
              obtain ⟨zb, zo, rfl, hcl⟩ := (HFM.out.mono hbl.out).cells (by omega)
              obtain ⟨ai, ci, ei, ri⟩ := hcl i hlt
              have HSI := hide (sameIntsL_any ai xa _ ci xn xc _ X wr ri.rd (HXW.out wr HBR.out))
              have HNX : Hid (L.getD i [] ≠ X → ∀ j, j < i + 1 → L.getD j [] ≠ X) := hide (fun ho j hj => by
                by_cases e : j = i
                · subst e; exact ho
                · exact hall.out j (by omega))
              obtain ⟨Li, hLi⟩ : ∃ Li, L.getD i [] = Li := ⟨_, rfl⟩
              have HLI := hide hLi
              rw [hLi] at ei HSI HNX
              clear hcl ri hLi
              go_wp2_with fail
              refine HSI.out.mono ?_
              rintro r w20 ⟨rfl, q20, hq20⟩
              have HB20 : Hid (Below wr.heap.size wr w20) := hide (by rw [hq20]; exact drewN_below _ _ _)
              clear hq20
              by_cases hse : Li = X
              · exfalso
                obtain ⟨y, hy, hyX⟩ := row_of HM.out (show X ∈ (rMv Z s).map toI by
                  rw [HLL.out, ← hse, ← HLI.out]; exact getD_memL (by rw [HN.out]; exact hlt))
                exact HNO.out y hy hyX
              · rw [decide_eq_false hse]
                have HO1 := hide (HNX.out hse)
                have HBN : Hid (Below wm.heap.size wm w20) := hide (hbl.out.trans (HB20.out.mono hbl.out.size))
                clear HNX hse
                go_wp2_with fail
                exact ⟨⟨i + 1, by go_num, by omega, HO1, HBN⟩, by simp [intOf]; omega⟩
            · obtain rfl : i = N := by omega
              obtain ⟨x0, x1⟩ := (HKX.out wr HQR.out).cells
              go_wp2_with fail
              go_ret
              exact ⟨rfl, HB0.out.trans (HBR.out.mono HB0.out.size)⟩

end Go.Proofs.YtnbaangnpoblfaaDoor
