/-
  Chess: the face Count, walked. No conditions beyond those that each theorem bears.
  Chess: all moves of a position, collected; the face All. No conditions beyond those that each theorem bears.
  Chess: a state told as a position: walked. No conditions beyond those that each theorem bears.
-/
import Derived.Test.YtdmlamnonbmboaaGreatDoorV39
import Derived.Test.YtdmlamnonbmboaaGreatDoorV34
import Derived.Test.YtdmlamnonbmboaaGreatDoorV37
import Derived.Test.YtdmlamnonbmboaaGreatDoorV38
import Derived.Lib.SliceRun
namespace Go.Proofs.YtdmlamnonbmboaaGreatDoor
open Go.RowKit Go.Shelf

theorem ps_of {Z : List Int} {t k e h f : Int} (H : MayC Z t k e h f) : ∃ p : Ps, MayP p ∧ p.Z = Z ∧ ((p.t : Nat) : Int) = t ∧ ((p.k : Nat) : Int) = k ∧ p.e = e ∧ ((p.h : Nat) : Int) = h ∧ ((p.f : Nat) : Int) = f := by
  obtain ⟨h1, h2, h3, h4, h5, h6, h7, h8, h9⟩ := H
  have hk := h3.1
  refine ⟨⟨Z, t.toNat, k.toNat, e, h.toNat, f.toNat⟩, ?_, rfl, by show ((t.toNat : Nat) : Int) = t; omega, by show ((k.toNat : Nat) : Int) = k; omega, rfl, by show ((h.toNat : Nat) : Int) = h; omega, by show ((f.toNat : Nat) : Int) = f; omega⟩
  have e1 : ((t.toNat : Nat) : Int) = t := by omega
  have e2 : ((k.toNat : Nat) : Int) = k := by omega
  have e3 : ((h.toNat : Nat) : Int) = h := by omega
  have e4 : ((f.toNat : Nat) : Int) = f := by omega
  unfold MayP
  dsimp only
  rw [e1, e2, e3, e4]
  exact ⟨h1, h2, h3, h4, h5, h6, h7, h8, h9⟩
theorem MayP.eb {p : Ps} (h : MayP p) : -9223372036854775808 ≤ p.e ∧ p.e ≤ 9223372036854775807 := by
  have := h.pas
  unfold Pas at this
  omega
abbrev chP (a : Option Addr) (c : Nat) (p : Ps) : Array Value := chA a 64 c (p.t : Nat) (p.k : Nat) p.e (p.h : Nat) (p.f : Nat)

attribute [local irreducible] cnP

section
variable (a : Option Addr) (n c : Nat) (Z : List Int) (t k e h f : Int) (he1 : -9223372036854775808 ≤ e) (he2 : e ≤ 9223372036854775807) (w : World) (hz : Rd w a n c Z) (hT : Tabs w)
include he1 he2 hz hT
end

section
variable (a : Option Addr) (c : Nat) (p : Ps) (hM : MayP p) (w : World) (hz : Rd w a 64 c p.Z) (hT : Tabs w)
include hM hz hT
end

end Go.Proofs.YtdmlamnonbmboaaGreatDoor

namespace Go.Proofs.YtdmlamnonbmboaaGreatDoor
open Go.RowKit Go.Shelf

/-- What is held while moves are collected: g: the list's place. -/
structure CmI (g : Nat) (w : World) (O : Nat → Prop) (s : List (Nat × Nat × Nat)) (v : Value) (V : World) : Prop where
  o : ∀ j, O j ↔ (j = g ∨ v.ownBlock = some j)
  b : Vb V g 28 [v]
  r : V.ownsRow (g + 1) 32 3 v s.length (flM s)
  bl : Below w.heap.size w V

theorem own_lt26 {w : World} {base n : Nat} {v : Value} {xs : List Value} (h : w.ownsRow base 32 3 v n xs) {g : Nat} (hg : v.ownBlock = some g) : base ≤ g ∧ g < w.heap.size := by
  rcases h.2 with ⟨rfl, _⟩ | ⟨g', cap, cur, rfl, hb, hg', _⟩
  · cases hg
  · have : g' = g := by simpa [Value.ownBlock] using hg
    subst this
    exact ⟨hb, (Array.getElem?_eq_some_iff.1 hg').1⟩
theorem own_blk26 {w w' : World} {base n : Nat} {v : Value} {xs : List Value} (h : w.ownsRow base 32 3 v n xs) (hb : ∀ g, v.ownBlock = some g → w'.heap[g]? = w.heap[g]?) : w'.ownsRow base 32 3 v n xs := by
  refine ⟨h.1, ?_⟩
  rcases h.2 with h2 | ⟨g, cap, cur, h1, h2, h3, h4⟩
  · exact Or.inl h2
  · exact Or.inr ⟨g, cap, cur, h1, h2, (hb g (by rw [h1]; rfl)).trans h3, h4⟩
theorem own_form26 {w : World} {base n : Nat} {v : Value} {xs : List Value} (h : w.ownsRow base 32 3 v n xs) : ∃ a c, v = .slice a n c := by
  rcases h.2 with ⟨rfl, rfl⟩ | ⟨g, cap, cur, rfl, _⟩
  · exact ⟨none, 0, rfl⟩
  · exact ⟨_, _, rfl⟩
theorem CmI.keeps {g : Nat} {w : World} {O X : Nat → Prop} {s : List (Nat × Nat × Nat)} {v : Value} {V V' : World} (h : CmI g w O s v V) (hk : Keeps X V V') (hX : ∀ k, X k → w.heap.size ≤ k ∧ ¬ O k) : CmI g w O s v V' :=
  ⟨h.o, h.b.keeps hk (fun e => (hX _ e).2 ((h.o g).2 (Or.inl rfl))), own_blk26 h.r (fun q hq => hk.block q (own_lt26 h.r hq).2 (fun e => (hX _ e).2 ((h.o q).2 (Or.inr hq)))), h.bl.trans (hk.below h.bl.size (fun j hj e => by have := (hX _ e).1; omega))⟩

attribute [local irreducible] mvs
attribute [local go_sem] Oper.semAt_some wide_fn wide_fn0 wide_depth

set_option maxRecDepth 100000 in
set_option maxHeartbeats 8000000 in
theorem appendSeq_any (sb b : Nat) (p : Ps) (hM : MayP p) (w : World) (hR : MlR sb b p.Z (p.t : Nat) (p.k : Nat) p.e (p.h : Nat) (p.f : Nat) w) :
    Calls Tryz.prog 44 #[.slice none 0 0, .func (.func 60) #[] #[.pointer (some ⟨sb, 0, none⟩)]] w fun e w' => ∃ v, e = .returned v ∧ w'.ownsRow w.heap.size 32 3 v (mvs p).length (flM (mvs p)) ∧ Below w.heap.size w w' := by
  have HLT := hide hR.lt
  have HSQ := hide (movesP_seq sb b p hM)
  have hln := mvs_len p
  obtain ⟨XS, hXS⟩ : ∃ XS, mvs p = XS := ⟨_, rfl⟩
  rw [hXS] at HSQ hln ⊢
  clear hXS
  have HLN := hide hln
  obtain ⟨g, hg⟩ : ∃ g, w.heap.size = g := ⟨_, rfl⟩
  obtain ⟨w1, hw1⟩ : ∃ w1, w.alloc (.cells #[.slice none 0 0] 28) = w1 := ⟨_, rfl⟩
  have B1 : Below w.heap.size w w1 := by rw [← hw1]; exact (Below.refl _ w).alloc (Nat.le_refl _) _
  have s1 : w1.heap.size = g + 1 := by rw [← hw1, ← hg]; simp
  have R1 := hR.keeps (X := fun _ => False) (Keeps.of_all B1) (fun _ _ e => e)
  have HI1 : Hid (CmI g w (fun j => j = g) [] (.slice none 0 0) w1) := hide ⟨fun j => by simp [Value.ownBlock], by rw [← hw1, ← hg]; exact Vb.new w 28 [.slice none 0 0], World.ownsRow_nil _ _ _ _, B1⟩
  have HS1 := hide s1
  have HR1 := hide R1
  have HG := hide hg
  clear hR hln B1 R1
  refine (callsIn_wide (n := 3)).1 ?_
  refine callsIn_of_wp_marks Tryz.func44 rfl trivial ?_ rfl
  simp only [Tryz.ntmps44, List.size_toArray, List.length_cons, List.length_nil, Nat.reduceAdd, Nat.reduceSub, Array.replicate_succ, Array.replicate_zero, List.push_toArray, List.append_toArray, List.nil_append, List.cons_append]
  refine wpIn_wide.2 ?_
  go_upto_region 1 with fail
  try rw [hg]
  clear hw1 s1
  go_wp2_with fail
  refine (wpIn_wide (n := 1)).1 (wp_range_o (gf := 60) (lb := #[.pointer (some ⟨sb, 0, none⟩)]) (G := MvG) (xs := XS) (R := MlR sb b p.Z (p.t : Nat) (p.k : Nat) p.e (p.h : Nat) (p.f : Nat)) (T := MlT sb b) (by simp [Act.eval]) (enters_of Tryz.func60 (by kernel_rfl) rfl)
    HSQ.out (fun j hj => HR1.out.lt j hj) (fun A hA => HR1.out.keeps (X := fun _ => False) (Keeps.of_all hA) (fun _ _ h => h)) (fun x args W' hG => by rw [hG]; rfl)
    (fun O s W' => ∃ v, CmI g w O s v W') (fun _ _ _ => False) (fun j => j = g) ?hC ⟨_, HI1.out⟩ ?round ?done (fun _ _ _ _ _ h => h.elim))
  case hC =>
    intro d
    have z1 := HS1.out
    have zg := HG.out
    refine ⟨?_, (fun _ _ h => h.elim), ?_, (fun _ _ _ h => h.elim)⟩
    · rintro O s A ⟨v, h⟩ j hj
      rcases (h.o j).1 hj with rfl | e
      · exact ⟨h.b.lt, fun e => by have := HLT.out _ e; omega⟩
      · have := own_lt26 h.r e
        exact ⟨this.2, fun e => by have := HLT.out _ e; omega⟩
    · rintro O s A B ⟨v, h⟩ hk
      exact ⟨v, h.keeps hk (fun k e => ⟨by have := e.1; omega, e.2⟩)⟩
  case round =>
    rintro l2 O s m args W6 hl2 ⟨rec, hrec⟩ ⟨v, hI6⟩ hOl _ _ hpre hGx hsz6
    obtain rfl : args = #[mvV m] := hGx
    have hpl : s.length ≤ 16384 := by
      have h1 := hpre.length_le
      rw [List.length_append, List.length_singleton] at h1
      have h2 := HLN.out
      omega
    have HPL : Hid (s.length + 1 = (s ++ [m]).length) := hide (by simp)
    have HOL := hide hOl
    have HSZ6 := hide hsz6
    have HL2 := hide hl2
    obtain ⟨gA, hgA⟩ : ∃ gA, W6.heap.size = gA := ⟨_, rfl⟩
    obtain ⟨WB, hWB⟩ : ∃ WB, W6.alloc (.cells #[.int .i64 0, .int .i64 0, .int .i64 0] 32) = WB := ⟨_, rfl⟩
    have VB : Vb WB gA 32 [.int .i64 0, .int .i64 0, .int .i64 0] := by rw [← hWB, ← hgA]; exact Vb.new W6 32 _
    have BB : Below W6.heap.size W6 WB := by rw [← hWB]; exact (Below.refl _ _).alloc (Nat.le_refl _) _
    have HI6 := hide (hI6.keeps (X := fun _ => False) (Keeps.of_all BB) (fun _ e => e.elim))
    have HOO : Hid (∀ j, O j → j < W6.heap.size) := hide (fun j hj => by
      rcases (hI6.o j).1 hj with rfl | e
      · exact hI6.b.lt
      · exact (own_lt26 hI6.r e).2)
    have HBB := hide BB
    have HGA := hide hgA
    clear hI6 hpre hrec hOl hsz6 hl2 BB
    gi_wp2_with (refine wpListIn_store_vb rfl 32 (.tmp 5) (.tmp 7) rfl gA (mvC m) _ (by simp [Act.eval]) rfl VB rfl row26 (mvC_one m) ?_; intro WC VC KC)
    clear hWB VB
    have BC : Below W6.heap.size W6 WC := HBB.out.trans (KC.below HBB.out.size (fun j hj e => by have := HGA.out; omega))
    refine ⟨BC, ?_⟩
    intro W3 hk3
    have zl := HL2.out
    have zs := HSZ6.out
    have z1 := HS1.out
    have zg := HGA.out
    have zw := HG.out
    have K3 : Keeps (fun j => j = gA ∨ j = l2) WB W3 := (KC.mono (fun _ _ e => Or.inl e)).trans (hk3.mono (fun _ _ e => Or.inr e))
    have I3 : CmI g w O s v W3 := HI6.out.keeps K3 (fun k e => ⟨by omega, fun h => by
      rcases e with rfl | rfl
      · have := HOO.out _ h; omega
      · exact HOL.out h⟩)
    have M3 := VC.keeps hk3 (fun e => by omega)
    have HW3 : Hid (g + 3 ≤ W3.heap.size ∧ gA < W3.heap.size) := hide ⟨by have := M3.lt; omega, M3.lt⟩
    obtain ⟨a3, c3, rfl⟩ := own_form26 I3.r
    have HI3 := hide I3
    have cs := I3.b.cell (i := 0) rfl
    have mc0 := M3.cell (i := 0) rfl
    have mc1 := M3.cell (i := 1) rfl
    have mc2 := M3.cell (i := 2) rfl
    obtain ⟨d, hd⟩ : ∃ d, W3.heap.size = d := ⟨_, rfl⟩
    obtain ⟨W4, hW4⟩ : ∃ W4, W3.alloc (.cells #[.int .i64 (m.1 : Nat), .int .i64 (m.2.1 : Nat), .int .i64 (m.2.2 : Nat)] 32) = W4 := ⟨_, rfl⟩
    have V4 : Vb W4 d 32 (mvC m) := by rw [← hW4, ← hd]; exact Vb.new W3 32 _
    have B4 : Below W3.heap.size W3 W4 := by rw [← hW4]; exact (Below.refl _ _).alloc (Nat.le_refl _) _
    have I4 := I3.keeps (X := fun _ => False) (Keeps.of_all B4) (fun _ e => e.elim)
    have hrow := I4.r
    obtain ⟨n, hn⟩ : ∃ n, s.length = n := ⟨_, rfl⟩
    have HNL := hide hn
    have HI4 := hide I4
    have HB4 := hide B4
    have hbase : g + 1 ≤ W4.heap.size := by have := HW3.out; have := B4.size; omega
    rw [hn] at hpl HPL hrow cs
    clear hk3 HI6 I3 hn I4 B4 K3 BC KC VC M3 zl zs z1 zg zw HBB HGA hgA
    gi_wp2_with (gi_at_builtin; refine wpListIn_append_m _ rfl _ _ rfl (g + 1) _ n s rfl hrow d m rfl V4 (by omega) hbase ?_)
    intro v' w4 hO4 hg4 hst
    obtain ⟨a4, c4, rfl⟩ := own_form26 hO4
    have hob : ∀ j, (Value.slice a3 n c3).ownBlock = some j → O j := fun j hj => (HI3.out.o j).2 (Or.inr (by rw [HNL.out]; exact hj))
    have hobl : ∀ j, (Value.slice a3 n c3).ownBlock = some j → g + 1 ≤ j := fun j hj => (own_lt26 HI3.out.r (by rw [HNL.out]; exact hj)).1
    have K34 : Keeps O W3 w4 := by
      refine (Keeps.of_all HB4.out).trans ?_
      exact ⟨hg4.os, hg4.tape, hg4.output, hg4.size, fun i hi hx => hg4.block i hi (fun e => hx (hob i e.symm))⟩
    have V5 : Vb w4 g 28 [.slice a3 n c3] := by
      have hb := HI4.out.b.lt
      have e1 := hg4.block g hb (fun e => by have := hobl _ e.symm; omega)
      have := HI4.out.b
      rw [HNL.out] at this
      exact e1.trans this
    have cs4 := V5.cell (i := 0) rfl
    have fs4 := V5.frozen 0
    have HB5 : Hid (Below w.heap.size w w4) := hide (HI3.out.bl.trans (K34.below HI3.out.bl.size (fun j hj e => by
      have zg := HG.out
      rcases (HI3.out.o j).1 e with e | e
      · omega
      · have := hobl j (by rw [HNL.out] at e; exact e); omega)))
    have kk := Keeps.set1 w4 g 0 (.slice a4 (n + 1) c4)
    have HO5 : Hid ((w4.setCell ⟨g, 0, none⟩ (.slice a4 (n + 1) c4)).ownsRow (g + 1) 32 3 (.slice a4 (n + 1) c4) (n + 1) (flM (s ++ [m]))) := hide (own_blk26 hO4 (fun q hq => kk.block q (own_lt26 hO4 hq).2 (fun e => by have := (own_lt26 hO4 hq).1; omega)))
    have HV5 : Hid (Vb (w4.setCell ⟨g, 0, none⟩ (.slice a4 (n + 1) c4)) g 28 [.slice a4 (n + 1) c4]) := hide (V5.set 0 _)
    have HK5 : Hid (Keeps O W3 (w4.setCell ⟨g, 0, none⟩ (.slice a4 (n + 1) c4))) := hide (K34.trans (kk.mono (fun j _ e => (HI3.out.o j).2 (Or.inl e))))
    have HB6 : Hid (Below w.heap.size w (w4.setCell ⟨g, 0, none⟩ (.slice a4 (n + 1) c4))) := hide (HB5.out.trans (kk.below HB5.out.size (fun j hj e => by have := HG.out; omega)))
    have HNW : Hid (∀ k, k < W3.heap.size → (k = g ∨ (Value.slice a4 (n + 1) c4).ownBlock = some k) → O k) := hide (fun k hk h => by
      rcases h with h | h
      · exact (HI3.out.o k).2 (Or.inl h)
      · rcases hst k h with e | e
        · exact hob k e
        · have := HB4.out.size; omega)
    clear hO4 hg4 hst K34 V5 kk hrow cs hob hobl mc0 mc1 mc2 hW4
    gi_wp2_with fail
    refine ⟨HK5.out, fun k => k = g ∨ (Value.slice a4 (n + 1) c4).ownBlock = some k, HNW.out, .slice a4 (n + 1) c4, fun _ => Iff.rfl, HV5.out, ?_, HB6.out⟩
    rw [← HPL.out]
    exact HO5.out
  case done =>
    rintro D O W5 hD ⟨v, hI⟩ _ hm hK
    obtain ⟨a5, c5, rfl⟩ := own_form26 hI.r
    have cs := hI.b.cell (i := 0) rfl
    have HMK : Hid (Mks O (g + 1) W5 [{ target := .collected D, args := #[] }]) := hide ⟨[D], rfl, by simp, fun E hE => by rw [List.mem_singleton.1 hE]; exact ⟨hK, by have := HS1.out; omega, fun h => by have := hm D (by omega) h; have := HS1.out; omega⟩⟩
    have HI := hide hI
    clear hI hm hK hD
    go_wp2
    refine leaves_mks HMK.out (fun w9 hk9 => ?_)
    refine ⟨_, results_tmp rfl _ _ _, _, rfl, ?_, ?_⟩
    · exact own_base (own_blk26 HI.out.r (fun q hq => hk9.block q (own_lt26 HI.out.r hq).2 (fun e => e.2 ((HI.out.o q).2 (Or.inr hq))))) (by have := HG.out; omega)
    · exact HI.out.bl.trans (hk9.below HI.out.bl.size (fun j hj e => by have := e.1; have := HG.out; omega))

theorem collect_any (sb b : Nat) (p : Ps) (hM : MayP p) (w : World) (hR : MlR sb b p.Z (p.t : Nat) (p.k : Nat) p.e (p.h : Nat) (p.f : Nat) w) :
    Calls Tryz.prog 17 #[.func (.func 60) #[] #[.pointer (some ⟨sb, 0, none⟩)]] w fun e w' => ∃ v, e = .returned v ∧ w'.ownsRow w.heap.size 32 3 v (mvs p).length (flM (mvs p)) ∧ Below w.heap.size w w' := by
  have H := hide (appendSeq_any sb b p hM w hR)
  clear hR
  go_enter Tryz.func17, Tryz.ntmps17
  go_wp2_with fail
  refine H.out.mono ?_
  rintro e w1 ⟨v, rfl, hO, hb⟩
  have HO := hide hO
  have HB := hide hb
  clear hO hb
  go_wp2_with fail
  go_ret
  exact ⟨v, rfl, HO.out, HB.out⟩

end Go.Proofs.YtdmlamnonbmboaaGreatDoor

namespace Go.Proofs.YtdmlamnonbmboaaGreatDoor
open Go.RowKit Go.Shelf

set_option maxRecDepth 100000 in
set_option maxHeartbeats 1000000 in
theorem Clone_any (a : Option Addr) (n c : Nat) (Z : List Int) (w : World) (h0 : 0 < n) (hn : n ≤ 1000) (hz : Rd w a n c Z) :
    Calls Tryz.prog 54 #[.slice a n c] w fun r w' => ∃ a' c', r = .returned (.slice a' n c') ∧ w'.ownsRow w.heap.size 3 1 (.slice a' n c') n (ivs Z) ∧ Below w.heap.size w w' := by
  obtain ⟨rb, ro, rfl, _⟩ := hz.5 h0
  obtain ⟨w1, hw1⟩ : ∃ w1, w.alloc (.cells #[] 3) = w1 := ⟨_, rfl⟩
  have B1 : Below w.heap.size w w1 := by rw [← hw1]; exact (Below.refl _ _).alloc (Nat.le_refl _) _
  have O1 : w1.ownsRow w.heap.size 3 1 (.slice (some ⟨w.heap.size, 0, none⟩) 0 0) 0 (([] : List Int).map (Value.int .i64)) := by
    refine ⟨rfl, Or.inr ⟨w.heap.size, 0, #[], rfl, Nat.le_refl _, by rw [← hw1]; exact heap_alloc_new w _, Nat.le_refl _, Nat.zero_le _, rfl, rfl⟩⟩
  have HR1 := hz.mono B1
  have HB1 := hide B1
  have HSZ : Hid (w.heap.size ≤ w1.heap.size) := hide B1.size
  have hq := Go.Lib.run_eql_slice_nil (P := Tryz.prog) w 22 3 (some ⟨rb, ro, none⟩) n c 0 0 Tryz.underlying22
  clear B1 hz
  go_enter Tryz.func54, Tryz.ntmps54
  go_wp2_with (first
    | (refine wpList_append_rd _ rfl (.tmp 5) (.tmp 6) rfl w.heap.size _ 0 [] rfl O1 (some ⟨rb, ro, none⟩) n c Z rfl HR1 (by omega) HSZ.out ?_; intro v' w2 hown hgrow))
  obtain ⟨a', c', rfl⟩ : ∃ a' c', v' = .slice a' n c' := by
    rcases hown.2 with ⟨_, h2⟩ | ⟨g, cap, cur, hv, _⟩
    · omega
    · exact ⟨_, _, by rw [hv, Nat.zero_add]⟩
  have B2 : Below w.heap.size w w2 := HB1.out.grown hgrow HB1.out.size (fun k hk => by simp [Act.eval, Value.ownBlock] at hk; omega)
  rw [Nat.zero_add, List.nil_append] at hown
  refine bodyPost_ret (results_tmp rfl _ _ _) rfl ⟨a', c', rfl, hown, B2⟩

set_option maxRecDepth 100000 in
set_option maxHeartbeats 4000000 in
theorem told_any (b : Nat) (Z : List Int) (T k e h f : Int) (w : World) (hs : Sb w b Z T k e h f) :
    Calls Tryz.prog 22 #[.pointer (some ⟨b, 0, none⟩)] w fun r w' => ∃ a' c', r = .returned (.agg (chA a' 64 c' T k e h f)) ∧ w'.ownsRow w.heap.size 3 1 (.slice a' 64 c') 64 (ivs Z) ∧ Below w.heap.size w w' := by
  obtain ⟨g, hg⟩ : ∃ g, w.heap.size = g := ⟨_, rfl⟩
  obtain ⟨w1, hw1⟩ : ∃ w1, w.alloc (.cells #[.slice none 0 0, .int .i64 0, .int .i64 0, .int .i64 0, .int .i64 0, .int .i64 0] 24) = w1 := ⟨_, rfl⟩
  have B1 : Below w.heap.size w w1 := by rw [← hw1]; exact (Below.refl _ _).alloc (Nat.le_refl _) _
  have C1 : Ch w1 g none 0 0 0 0 0 0 0 := by rw [← hw1, ← hg]; exact Ch.new w none 0 0 0 0 0 0 0
  have HS1 : Hid (∀ W, Keeps (fun j => j = g) w1 W → Sb W b Z T k e h f) := hide (fun W hk => (hs.mono B1).keeps hk (fun e => by have := hs.lt; omega))
  have HG := hide hg
  have HB1 := hide B1
  clear hs B1
  go_enter Tryz.func22, Tryz.ntmps22
  go_upto_region 1 with fail
  clear hw1
  try rw [hg]
  refine wp_region_held (S := fun W5 => Keeps (fun j => j = g) w1 W5) (by kernel_rfl) ?_
  change wpAnyH _ _ _ _ _ _ _ _ (World.drew _)
  have SW : (fun W5 => Keeps (fun j => j = g) w1 W5) w1.drew := (Keeps.refl _ _).drew
  have RD : Ch w1.drew g none 0 0 0 0 0 0 0 := C1.below (drewN_below _ _ 1) C1.lt
  generalize w1.drew = wd at *
  refine wpAnyH_take (i := 0) (v := .pointer (some ⟨b, 0, none⟩)) rfl (by kernel_rfl) (by kernel_rfl) (by kernel_rfl) (fun _ _ _ h => h) (Or.inl ⟨by rfl, ?_⟩) SW ?_
  · intro W5 hW5
    go_simp <;> first | done | rfl | (rw [IntKind.wrap_i64]; omega) | omega
  go_simp
  refine wpAnyH_take (i := 1) (v := .pointer (some ⟨b, 0, none⟩)) rfl (by kernel_rfl) (by kernel_rfl) (by kernel_rfl) (fun _ _ _ h => h) (Or.inl ⟨by rfl, ?_⟩) SW ?_
  · intro W5 hW5
    go_simp <;> first | done | rfl | (rw [IntKind.wrap_i64]; omega) | omega
  go_simp
  refine wpAnyH_take (i := 2) (v := .pointer (some ⟨b, 0, none⟩)) rfl (by kernel_rfl) (by kernel_rfl) (by kernel_rfl) (fun _ _ _ h => h) (Or.inl ⟨by rfl, ?_⟩) SW ?_
  · intro W5 hW5
    go_simp <;> first | done | rfl | (rw [IntKind.wrap_i64]; omega) | omega
  go_simp
  refine wpAnyH_take (i := 3) (v := .slice (some ⟨b, 0, none⟩) 64 64) rfl (by kernel_rfl) (by kernel_rfl) (by kernel_rfl) (fun _ _ _ h => h) (Or.inl ⟨by rfl, ?_⟩) SW ?_
  · intro W5 hW5
    go_simp <;> first | done | rfl | (rw [IntKind.wrap_i64]; omega) | omega
  go_simp
  refine wpAnyH_take (i := 5) (v := .pointer (some ⟨b, 0, none⟩)) rfl (by kernel_rfl) (by kernel_rfl) (by kernel_rfl) (fun _ _ _ h => h) (Or.inl ⟨by rfl, ?_⟩) SW ?_
  · intro W5 hW5
    go_simp <;> first | done | rfl | (rw [IntKind.wrap_i64]; omega) | omega
  go_simp
  refine wpAnyH_take (i := 6) (v := .pointer (some ⟨b, 0, none⟩)) rfl (by kernel_rfl) (by kernel_rfl) (by kernel_rfl) (fun _ _ _ h => h) (Or.inl ⟨by rfl, ?_⟩) SW ?_
  · intro W5 hW5
    go_simp <;> first | done | rfl | (rw [IntKind.wrap_i64]; omega) | omega
  go_simp
  refine wpAnyH_take (i := 7) (v := .pointer (some ⟨b, 64, none⟩)) rfl (by kernel_rfl) (by kernel_rfl) (by kernel_rfl) (fun _ _ _ h => h) (Or.inl ⟨by rfl, ?_⟩) SW ?_
  · intro W5 hW5
    go_simp <;> first | done | rfl | (rw [IntKind.wrap_i64]; omega) | omega
  go_simp
  refine wpAnyH_take (i := 8) (v := .int .i64 T) rfl (by kernel_rfl) (by kernel_rfl) (by kernel_rfl) (fun _ _ _ h => h) (Or.inl ⟨by rfl, ?_⟩) SW ?_
  · intro W5 hW5
    have y0 := (HS1.out W5 hW5).ends.1
    go_simp <;> first | done | rfl | (rw [IntKind.wrap_i64]; omega) | omega
  go_simp
  refine wpAnyH_take (i := 9) (v := .pointer (some ⟨b, 0, none⟩)) rfl (by kernel_rfl) (by kernel_rfl) (by kernel_rfl) (fun _ _ _ h => h) (Or.inl ⟨by rfl, ?_⟩) SW ?_
  · intro W5 hW5
    go_simp <;> first | done | rfl | (rw [IntKind.wrap_i64]; omega) | omega
  go_simp
  refine wpAnyH_take (i := 10) (v := .pointer (some ⟨b, 0, none⟩)) rfl (by kernel_rfl) (by kernel_rfl) (by kernel_rfl) (fun _ _ _ h => h) (Or.inl ⟨by rfl, ?_⟩) SW ?_
  · intro W5 hW5
    go_simp <;> first | done | rfl | (rw [IntKind.wrap_i64]; omega) | omega
  go_simp
  refine wpAnyH_take (i := 11) (v := .pointer (some ⟨b, 65, none⟩)) rfl (by kernel_rfl) (by kernel_rfl) (by kernel_rfl) (fun _ _ _ h => h) (Or.inl ⟨by rfl, ?_⟩) SW ?_
  · intro W5 hW5
    go_simp <;> first | done | rfl | (rw [IntKind.wrap_i64]; omega) | omega
  go_simp
  refine wpAnyH_take (i := 12) (v := .int .i64 k) rfl (by kernel_rfl) (by kernel_rfl) (by kernel_rfl) (fun _ _ _ h => h) (Or.inl ⟨by rfl, ?_⟩) SW ?_
  · intro W5 hW5
    have y0 := (HS1.out W5 hW5).ends.2.1
    go_simp <;> first | done | rfl | (rw [IntKind.wrap_i64]; omega) | omega
  go_simp
  refine wpAnyH_take (i := 13) (v := .pointer (some ⟨b, 0, none⟩)) rfl (by kernel_rfl) (by kernel_rfl) (by kernel_rfl) (fun _ _ _ h => h) (Or.inl ⟨by rfl, ?_⟩) SW ?_
  · intro W5 hW5
    go_simp <;> first | done | rfl | (rw [IntKind.wrap_i64]; omega) | omega
  go_simp
  refine wpAnyH_take (i := 14) (v := .pointer (some ⟨b, 0, none⟩)) rfl (by kernel_rfl) (by kernel_rfl) (by kernel_rfl) (fun _ _ _ h => h) (Or.inl ⟨by rfl, ?_⟩) SW ?_
  · intro W5 hW5
    go_simp <;> first | done | rfl | (rw [IntKind.wrap_i64]; omega) | omega
  go_simp
  refine wpAnyH_take (i := 15) (v := .pointer (some ⟨b, 66, none⟩)) rfl (by kernel_rfl) (by kernel_rfl) (by kernel_rfl) (fun _ _ _ h => h) (Or.inl ⟨by rfl, ?_⟩) SW ?_
  · intro W5 hW5
    go_simp <;> first | done | rfl | (rw [IntKind.wrap_i64]; omega) | omega
  go_simp
  refine wpAnyH_take (i := 16) (v := .int .i64 e) rfl (by kernel_rfl) (by kernel_rfl) (by kernel_rfl) (fun _ _ _ h => h) (Or.inl ⟨by rfl, ?_⟩) SW ?_
  · intro W5 hW5
    have y0 := (HS1.out W5 hW5).ends.2.2.1
    go_simp <;> first | done | rfl | (rw [IntKind.wrap_i64]; omega) | omega
  go_simp
  refine wpAnyH_take (i := 17) (v := .pointer (some ⟨b, 0, none⟩)) rfl (by kernel_rfl) (by kernel_rfl) (by kernel_rfl) (fun _ _ _ h => h) (Or.inl ⟨by rfl, ?_⟩) SW ?_
  · intro W5 hW5
    go_simp <;> first | done | rfl | (rw [IntKind.wrap_i64]; omega) | omega
  go_simp
  refine wpAnyH_take (i := 18) (v := .pointer (some ⟨b, 0, none⟩)) rfl (by kernel_rfl) (by kernel_rfl) (by kernel_rfl) (fun _ _ _ h => h) (Or.inl ⟨by rfl, ?_⟩) SW ?_
  · intro W5 hW5
    go_simp <;> first | done | rfl | (rw [IntKind.wrap_i64]; omega) | omega
  go_simp
  refine wpAnyH_take (i := 19) (v := .pointer (some ⟨b, 67, none⟩)) rfl (by kernel_rfl) (by kernel_rfl) (by kernel_rfl) (fun _ _ _ h => h) (Or.inl ⟨by rfl, ?_⟩) SW ?_
  · intro W5 hW5
    go_simp <;> first | done | rfl | (rw [IntKind.wrap_i64]; omega) | omega
  go_simp
  refine wpAnyH_take (i := 20) (v := .int .i64 h) rfl (by kernel_rfl) (by kernel_rfl) (by kernel_rfl) (fun _ _ _ h => h) (Or.inl ⟨by rfl, ?_⟩) SW ?_
  · intro W5 hW5
    have y0 := (HS1.out W5 hW5).ends.2.2.2.1
    go_simp <;> first | done | rfl | (rw [IntKind.wrap_i64]; omega) | omega
  go_simp
  refine wpAnyH_take (i := 21) (v := .pointer (some ⟨b, 0, none⟩)) rfl (by kernel_rfl) (by kernel_rfl) (by kernel_rfl) (fun _ _ _ h => h) (Or.inl ⟨by rfl, ?_⟩) SW ?_
  · intro W5 hW5
    go_simp <;> first | done | rfl | (rw [IntKind.wrap_i64]; omega) | omega
  go_simp
  refine wpAnyH_take (i := 22) (v := .pointer (some ⟨b, 0, none⟩)) rfl (by kernel_rfl) (by kernel_rfl) (by kernel_rfl) (fun _ _ _ h => h) (Or.inl ⟨by rfl, ?_⟩) SW ?_
  · intro W5 hW5
    go_simp <;> first | done | rfl | (rw [IntKind.wrap_i64]; omega) | omega
  go_simp
  refine wpAnyH_take (i := 23) (v := .pointer (some ⟨b, 68, none⟩)) rfl (by kernel_rfl) (by kernel_rfl) (by kernel_rfl) (fun _ _ _ h => h) (Or.inl ⟨by rfl, ?_⟩) SW ?_
  · intro W5 hW5
    go_simp <;> first | done | rfl | (rw [IntKind.wrap_i64]; omega) | omega
  go_simp
  refine wpAnyH_take (i := 24) (v := .int .i64 f) rfl (by kernel_rfl) (by kernel_rfl) (by kernel_rfl) (fun _ _ _ h => h) (Or.inl ⟨by rfl, ?_⟩) SW ?_
  · intro W5 hW5
    have y0 := (HS1.out W5 hW5).ends.2.2.2.2
    go_simp <;> first | done | rfl | (rw [IntKind.wrap_i64]; omega) | omega
  go_simp
  refine wpAnyH_ready (rs := [4]) (by kernel_rfl) (by simp) ?_
  refine AllReadyH.cons rfl (fun K1 hK1 => ?_) AllReadyH.nil
  go_simp
  refine (Clone_any (some ⟨b, 0, none⟩) 64 64 Z _ (by omega) (by omega) (HS1.out _ SW).rd).mono ?_
  rintro r w2 ⟨a', c', rfl, hO, hb⟩
  have HO : Hid (w2.ownsRow wd.heap.size 3 1 (.slice a' 64 c') 64 (ivs Z)) := hide hO
  have RD2 := RD.below hb RD.lt
  have SW2 := SW.trans (Keeps.of_all hb)
  have HBZ : Hid (g < wd.heap.size) := hide RD.lt
  refine hK1.out _ _ SW2 (fun SW => ?_)
  clear hK1 K1 hb hO SW2 RD
  go_simp
  refine wpAnyH_take (i := 25) (v := .agg (chA a' 64 c' T k e h f)) rfl (by kernel_rfl) (by kernel_rfl) (by kernel_rfl) (fun _ _ _ h => h) (Or.inl ⟨by rfl, ?_⟩) SW ?_
  · intro W5 hW5
    go_simp <;> first | done | rfl | (rw [IntKind.wrap_i64]; omega) | omega
  go_simp
  refine wpAnyH_ready (rs := [26]) (by kernel_rfl) (by simp) ?_
  refine AllReadyH.cons rfl (fun K1 hK1 => ?_) AllReadyH.nil
  refine wp_store_row 24 (.tmp 2) (.tmp 28) (by rfl) g (chA a' 64 c' T k e h f) (by rfl) (by rfl) 24 _ RD2 size24 rfl (by simp [Value.oneCell']) ?_
  have KE := Keeps.setRow w2 g [.slice a' 64 c', .int .i64 T, .int .i64 k, .int .i64 e, .int .i64 h, .int .i64 f]
  have VE : Ch (w2.setRow g (chA a' 64 c' T k e h f)) g a' 64 c' T k e h f := by
    have h' : w2.heap[g]? = _ := RD2
    simp [Ch, World.setRow, Array.getElem?_modify, h']
  have HOE : Hid ((w2.setRow g (chA a' 64 c' T k e h f)).ownsRow w.heap.size 3 1 (.slice a' 64 c') 64 (ivs Z)) := hide (own_base (own_keeps HO.out KE HBZ.out) (by have := HBZ.out; have := HG.out; omega))
  have KE2 : Keeps (fun j => j = g) w2 (w2.setRow g (chA a' 64 c' T k e h f)) := KE
  generalize w2.setRow g (chA a' 64 c' T k e h f) = we at *
  refine hK1.out _ _ (SW.trans KE2) (fun SW => ?_)
  clear hK1 K1 KE KE2 RD2
  go_simp
  refine wpAnyH_done (by kernel_rfl) ?_ _
  have HSW := hide SW
  clear SW
  go_wp2_with fail
  refine bodyPost_ret (results_ch rfl _ _ g rfl VE) rfl ⟨a', c', rfl, HOE.out, ?_⟩
  exact HB1.out.trans (HSW.out.below HB1.out.size (fun j hj e => by have := HG.out; omega))

end Go.Proofs.YtdmlamnonbmboaaGreatDoor
