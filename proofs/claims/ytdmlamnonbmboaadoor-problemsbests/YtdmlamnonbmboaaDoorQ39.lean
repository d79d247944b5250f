/-
  Chess: all moves of a position, collected; the face All. No conditions beyond those that each theorem bears.
  Chess: a position of the call's own, written to. No conditions beyond those that each theorem bears.
-/
import Derived.Test.YtdmlamnonbmboaaDoorQ33
import Derived.Test.YtdmlamnonbmboaaDoorQ38
import Derived.Test.YtdmlamnonbmboaaDoorQ35
namespace Go.Proofs.YtdmlamnonbmboaaDoor
open Go.RowKit Go.Shelf

/-- What is held while moves are collected: g: the list's place. -/
structure CmI (g : Nat) (w : World) (O : Nat → Prop) (s : List (Nat × Nat × Nat)) (v : Value) (V : World) : Prop where
  o : ∀ j, O j ↔ (j = g ∨ v.ownBlock = some j)
  b : Vb V g 25 [v]
  r : V.ownsRow (g + 1) 42 3 v s.length (flM s)
  bl : Below w.heap.size w V

theorem own_lt26 {w : World} {base n : Nat} {v : Value} {xs : List Value} (h : w.ownsRow base 42 3 v n xs) {g : Nat} (hg : v.ownBlock = some g) : base ≤ g ∧ g < w.heap.size := by
  rcases h.2 with ⟨rfl, _⟩ | ⟨g', cap, cur, rfl, hb, hg', _⟩
  · cases hg
  · have : g' = g := by simpa [Value.ownBlock] using hg
    subst this
    exact ⟨hb, (Array.getElem?_eq_some_iff.1 hg').1⟩
theorem own_blk26 {w w' : World} {base n : Nat} {v : Value} {xs : List Value} (h : w.ownsRow base 42 3 v n xs) (hb : ∀ g, v.ownBlock = some g → w'.heap[g]? = w.heap[g]?) : w'.ownsRow base 42 3 v n xs := by
  refine ⟨h.1, ?_⟩
  rcases h.2 with h2 | ⟨g, cap, cur, h1, h2, h3, h4⟩
  · exact Or.inl h2
  · exact Or.inr ⟨g, cap, cur, h1, h2, (hb g (by rw [h1]; rfl)).trans h3, h4⟩
theorem own_form26 {w : World} {base n : Nat} {v : Value} {xs : List Value} (h : w.ownsRow base 42 3 v n xs) : ∃ a c, v = .slice a n c := by
  rcases h.2 with ⟨rfl, rfl⟩ | ⟨g, cap, cur, rfl, _⟩
  · exact ⟨none, 0, rfl⟩
  · exact ⟨_, _, rfl⟩
theorem CmI.keeps {g : Nat} {w : World} {O X : Nat → Prop} {s : List (Nat × Nat × Nat)} {v : Value} {V V' : World} (h : CmI g w O s v V) (hk : Keeps X V V') (hX : ∀ k, X k → w.heap.size ≤ k ∧ ¬ O k) : CmI g w O s v V' :=
  ⟨h.o, h.b.keeps hk (fun e => (hX _ e).2 ((h.o g).2 (Or.inl rfl))), own_blk26 h.r (fun q hq => hk.block q (own_lt26 h.r hq).2 (fun e => (hX _ e).2 ((h.o q).2 (Or.inr hq)))), h.bl.trans (hk.below h.bl.size (fun j hj e => by have := (hX _ e).1; omega))⟩

attribute [local irreducible] mvs
attribute [local go_sem] Oper.semAt_some wide_fn wide_fn0 wide_depth

set_option maxRecDepth 100000 in
set_option maxHeartbeats 8000000 in
theorem appendSeq_any (sb b : Nat) (p : Ps) (hM : MayP p) (w : World) (hR : MlR sb b p.Z (p.t : Nat) (p.k : Nat) p.e (p.h : Nat) (p.f : Nat) w) :
    Calls Tryd.prog 45 #[.slice none 0 0, .func (.func 69) #[] #[.pointer (some ⟨sb, 0, none⟩)]] w fun e w' => ∃ v, e = .returned v ∧ w'.ownsRow w.heap.size 42 3 v (mvs p).length (flM (mvs p)) ∧ Below w.heap.size w w' := by
  have HLT := hide hR.lt
  have HSQ := hide (movesP_seq sb b p hM)
  have hln := mvs_len p
  obtain ⟨XS, hXS⟩ : ∃ XS, mvs p = XS := ⟨_, rfl⟩
  rw [hXS] at HSQ hln ⊢
  clear hXS
  have HLN := hide hln
  obtain ⟨g, hg⟩ : ∃ g, w.heap.size = g := ⟨_, rfl⟩
  obtain ⟨w1, hw1⟩ : ∃ w1, w.alloc (.cells #[.slice none 0 0] 25) = w1 := ⟨_, rfl⟩
  have B1 : Below w.heap.size w w1 := by rw [← hw1]; exact (Below.refl _ w).alloc (Nat.le_refl _) _
  have s1 : w1.heap.size = g + 1 := by rw [← hw1, ← hg]; simp
  have R1 := hR.keeps (X := fun _ => False) (Keeps.of_all B1) (fun _ _ e => e)
  have HI1 : Hid (CmI g w (fun j => j = g) [] (.slice none 0 0) w1) := hide ⟨fun j => by simp [Value.ownBlock], by rw [← hw1, ← hg]; exact Vb.new w 25 [.slice none 0 0], World.ownsRow_nil _ _ _ _, B1⟩
  have HS1 := hide s1
  have HR1 := hide R1
  have HG := hide hg
  clear hR hln B1 R1
  refine (callsIn_wide (n := 3)).1 ?_
  refine callsIn_of_wp_marks Tryd.func45 rfl trivial ?_ rfl
  simp only [Tryd.ntmps45, List.size_toArray, List.length_cons, List.length_nil, Nat.reduceAdd, Nat.reduceSub, Array.replicate_succ, Array.replicate_zero, List.push_toArray, List.append_toArray, List.nil_append, List.cons_append]
  refine wpIn_wide.2 ?_
  go_upto_region 1 with fail
  try rw [hg]
  clear hw1 s1
  go_wp2_with fail
  refine (wpIn_wide (n := 1)).1 (wp_range_o (gf := 69) (lb := #[.pointer (some ⟨sb, 0, none⟩)]) (G := MvG) (xs := XS) (R := MlR sb b p.Z (p.t : Nat) (p.k : Nat) p.e (p.h : Nat) (p.f : Nat)) (T := MlT sb b) (by simp [Act.eval]) (enters_of Tryd.func69 (by kernel_rfl) rfl)
    HSQ.out (fun j hj => HR1.out.lt j hj) (fun A hA => HR1.out.keeps (X := fun _ => False) (Keeps.of_all hA) (fun _ _ h => h)) (fun x args W' hG => by rw [hG]; rfl)
    (fun O s W' => ∃ v, CmI g w O s v W') (fun _ _ _ => False) (fun j => j = g) ?hC ⟨_, HI1.out⟩ ?round ?done (fun _ _ _ _ _ h => h.elim))
  case hC =>
    intro d
    have z1 := HS1.out
    have zg := HG.out
    refine ⟨?_, (fun _ _ h => h.elim), ?_, (fun _ _ _ h => h.elim)⟩
    · rintro O s A ⟨v, h⟩ j hj
      rcases (h.o j).1 hj with rfl | e
      · exact ⟨h.b.lt, fun e => by have := HLT.out _ e; omega⟩
      · have := own_lt26 h.r e
        exact ⟨this.2, fun e => by have := HLT.out _ e; omega⟩
    · rintro O s A B ⟨v, h⟩ hk
      exact ⟨v, h.keeps hk (fun k e => ⟨by have := e.1; omega, e.2⟩)⟩
  case round =>
    rintro l2 O s m args W6 hl2 ⟨rec, hrec⟩ ⟨v, hI6⟩ hOl _ _ hpre hGx hsz6
    obtain rfl : args = #[mvV m] := hGx
    have hpl : s.length ≤ 16384 := by
      have h1 := hpre.length_le
      rw [List.length_append, List.length_singleton] at h1
      have h2 := HLN.out
      omega
    have HPL : Hid (s.length + 1 = (s ++ [m]).length) := hide (by simp)
    have HOL := hide hOl
    have HSZ6 := hide hsz6
    have HL2 := hide hl2
    obtain ⟨gA, hgA⟩ : ∃ gA, W6.heap.size = gA := ⟨_, rfl⟩
    obtain ⟨WB, hWB⟩ : ∃ WB, W6.alloc (.cells #[.int .i64 0, .int .i64 0, .int .i64 0] 42) = WB := ⟨_, rfl⟩
    have VB : Vb WB gA 42 [.int .i64 0, .int .i64 0, .int .i64 0] := by rw [← hWB, ← hgA]; exact Vb.new W6 42 _
    have BB : Below W6.heap.size W6 WB := by rw [← hWB]; exact (Below.refl _ _).alloc (Nat.le_refl _) _
    have HI6 := hide (hI6.keeps (X := fun _ => False) (Keeps.of_all BB) (fun _ e => e.elim))
    have HOO : Hid (∀ j, O j → j < W6.heap.size) := hide (fun j hj => by
      rcases (hI6.o j).1 hj with rfl | e
      · exact hI6.b.lt
      · exact (own_lt26 hI6.r e).2)
    have HBB := hide BB
    have HGA := hide hgA
    clear hI6 hpre hrec hOl hsz6 hl2 BB
    gi_wp2_with (refine wpListIn_store_vb rfl 42 (.tmp 5) (.tmp 7) rfl gA (mvC m) _ (by simp [Act.eval]) rfl VB rfl row26 (mvC_one m) ?_; intro WC VC KC)
    clear hWB VB
    have BC : Below W6.heap.size W6 WC := HBB.out.trans (KC.below HBB.out.size (fun j hj e => by have := HGA.out; omega))
    refine ⟨BC, ?_⟩
    intro W3 hk3
    have zl := HL2.out
    have zs := HSZ6.out
    have z1 := HS1.out
    have zg := HGA.out
    have zw := HG.out
    have K3 : Keeps (fun j => j = gA ∨ j = l2) WB W3 := (KC.mono (fun _ _ e => Or.inl e)).trans (hk3.mono (fun _ _ e => Or.inr e))
    have I3 : CmI g w O s v W3 := HI6.out.keeps K3 (fun k e => ⟨by omega, fun h => by
      rcases e with rfl | rfl
      · have := HOO.out _ h; omega
      · exact HOL.out h⟩)
    have M3 := VC.keeps hk3 (fun e => by omega)
    have HW3 : Hid (g + 3 ≤ W3.heap.size ∧ gA < W3.heap.size) := hide ⟨by have := M3.lt; omega, M3.lt⟩
    obtain ⟨a3, c3, rfl⟩ := own_form26 I3.r
    have HI3 := hide I3
    have cs := I3.b.cell (i := 0) rfl
    have mc0 := M3.cell (i := 0) rfl
    have mc1 := M3.cell (i := 1) rfl
    have mc2 := M3.cell (i := 2) rfl
    obtain ⟨d, hd⟩ : ∃ d, W3.heap.size = d := ⟨_, rfl⟩
    obtain ⟨W4, hW4⟩ : ∃ W4, W3.alloc (.cells #[.int .i64 (m.1 : Nat), .int .i64 (m.2.1 : Nat), .int .i64 (m.2.2 : Nat)] 42) = W4 := ⟨_, rfl⟩
    have V4 : Vb W4 d 42 (mvC m) := by rw [← hW4, ← hd]; exact Vb.new W3 42 _
    have B4 : Below W3.heap.size W3 W4 := by rw [← hW4]; exact (Below.refl _ _).alloc (Nat.le_refl _) _
    have I4 := I3.keeps (X := fun _ => False) (Keeps.of_all B4) (fun _ e => e.elim)
    have hrow := I4.r
    obtain ⟨n, hn⟩ : ∃ n, s.length = n := ⟨_, rfl⟩
    have HNL := hide hn
    have HI4 := hide I4
    have HB4 := hide B4
    have hbase : g + 1 ≤ W4.heap.size := by have := HW3.out; have := B4.size; omega
    rw [hn] at hpl HPL hrow cs
    clear hk3 HI6 I3 hn I4 B4 K3 BC KC VC M3 zl zs z1 zg zw HBB HGA hgA
    gi_wp2_with (gi_at_builtin; refine wpListIn_append_m _ rfl _ _ rfl (g + 1) _ n s rfl hrow d m rfl V4 (by omega) hbase ?_)
    intro v' w4 hO4 hg4 hst
    obtain ⟨a4, c4, rfl⟩ := own_form26 hO4
    have hob : ∀ j, (Value.slice a3 n c3).ownBlock = some j → O j := fun j hj => (HI3.out.o j).2 (Or.inr (by rw [HNL.out]; exact hj))
    have hobl : ∀ j, (Value.slice a3 n c3).ownBlock = some j → g + 1 ≤ j := fun j hj => (own_lt26 HI3.out.r (by rw [HNL.out]; exact hj)).1
    have K34 : Keeps O W3 w4 := by
      refine (Keeps.of_all HB4.out).trans ?_
      exact ⟨hg4.os, hg4.tape, hg4.output, hg4.size, fun i hi hx => hg4.block i hi (fun e => hx (hob i e.symm))⟩
    have V5 : Vb w4 g 25 [.slice a3 n c3] := by
      have hb := HI4.out.b.lt
      have e1 := hg4.block g hb (fun e => by have := hobl _ e.symm; omega)
      have := HI4.out.b
      rw [HNL.out] at this
      exact e1.trans this
    have cs4 := V5.cell (i := 0) rfl
    have fs4 := V5.frozen 0
    have HB5 : Hid (Below w.heap.size w w4) := hide (HI3.out.bl.trans (K34.below HI3.out.bl.size (fun j hj e => by
      have zg := HG.out
      rcases (HI3.out.o j).1 e with e | e
      · omega
      · have := hobl j (by rw [HNL.out] at e; exact e); omega)))
    have kk := Keeps.set1 w4 g 0 (.slice a4 (n + 1) c4)
    have HO5 : Hid ((w4.setCell ⟨g, 0, none⟩ (.slice a4 (n + 1) c4)).ownsRow (g + 1) 42 3 (.slice a4 (n + 1) c4) (n + 1) (flM (s ++ [m]))) := hide (own_blk26 hO4 (fun q hq => kk.block q (own_lt26 hO4 hq).2 (fun e => by have := (own_lt26 hO4 hq).1; omega)))
    have HV5 : Hid (Vb (w4.setCell ⟨g, 0, none⟩ (.slice a4 (n + 1) c4)) g 25 [.slice a4 (n + 1) c4]) := hide (V5.set 0 _)
    have HK5 : Hid (Keeps O W3 (w4.setCell ⟨g, 0, none⟩ (.slice a4 (n + 1) c4))) := hide (K34.trans (kk.mono (fun j _ e => (HI3.out.o j).2 (Or.inl e))))
    have HB6 : Hid (Below w.heap.size w (w4.setCell ⟨g, 0, none⟩ (.slice a4 (n + 1) c4))) := hide (HB5.out.trans (kk.below HB5.out.size (fun j hj e => by have := HG.out; omega)))
    have HNW : Hid (∀ k, k < W3.heap.size → (k = g ∨ (Value.slice a4 (n + 1) c4).ownBlock = some k) → O k) := hide (fun k hk h => by
      rcases h with h | h
      · exact (HI3.out.o k).2 (Or.inl h)
      · rcases hst k h with e | e
        · exact hob k e
        · have := HB4.out.size; omega)
    clear hO4 hg4 hst K34 V5 kk hrow cs hob hobl mc0 mc1 mc2 hW4
    gi_wp2_with fail
    refine ⟨HK5.out, fun k => k = g ∨ (Value.slice a4 (n + 1) c4).ownBlock = some k, HNW.out, .slice a4 (n + 1) c4, fun _ => Iff.rfl, HV5.out, ?_, HB6.out⟩
    rw [← HPL.out]
    exact HO5.out
  case done =>
    rintro D O W5 hD ⟨v, hI⟩ _ hm hK
    obtain ⟨a5, c5, rfl⟩ := own_form26 hI.r
    have cs := hI.b.cell (i := 0) rfl
    have HMK : Hid (Mks O (g + 1) W5 [{ target := .collected D, args := #[] }]) := hide ⟨[D], rfl, by simp, fun E hE => by rw [List.mem_singleton.1 hE]; exact ⟨hK, by have := HS1.out; omega, fun h => by have := hm D (by omega) h; have := HS1.out; omega⟩⟩
    have HI := hide hI
    clear hI hm hK hD
    go_wp2
    refine leaves_mks HMK.out (fun w9 hk9 => ?_)
    refine ⟨_, results_tmp rfl _ _ _, _, rfl, ?_, ?_⟩
    · exact own_base (own_blk26 HI.out.r (fun q hq => hk9.block q (own_lt26 HI.out.r hq).2 (fun e => e.2 ((HI.out.o q).2 (Or.inr hq))))) (by have := HG.out; omega)
    · exact HI.out.bl.trans (hk9.below HI.out.bl.size (fun j hj e => by have := e.1; have := HG.out; omega))

theorem collect_any (sb b : Nat) (p : Ps) (hM : MayP p) (w : World) (hR : MlR sb b p.Z (p.t : Nat) (p.k : Nat) p.e (p.h : Nat) (p.f : Nat) w) :
    Calls Tryd.prog 19 #[.func (.func 69) #[] #[.pointer (some ⟨sb, 0, none⟩)]] w fun e w' => ∃ v, e = .returned v ∧ w'.ownsRow w.heap.size 42 3 v (mvs p).length (flM (mvs p)) ∧ Below w.heap.size w w' := by
  have H := hide (appendSeq_any sb b p hM w hR)
  clear hR
  go_enter Tryd.func19, Tryd.ntmps19
  go_wp2_with fail
  refine H.out.mono ?_
  rintro e w1 ⟨v, rfl, hO, hb⟩
  have HO := hide hO
  have HB := hide hb
  clear hO hb
  go_wp2_with fail
  go_ret
  exact ⟨v, rfl, HO.out, HB.out⟩

end Go.Proofs.YtdmlamnonbmboaaDoor

namespace Go.Proofs.YtdmlamnonbmboaaDoor
open Go.RowKit Go.Shelf

/-- 64 numbers at a block's beginning. -/
structure Mw (w : World) (rb : Nat) (L : List Int) : Prop where
  ex : ∃ cur : Array Value, w.heap[rb]? = some (.cells cur 3 (0, 0)) ∧ cur.toList.take 64 = ivs L
  len : L.length = 64
theorem Mw.cell {w : World} {rb : Nat} {L : List Int} (h : Mw w rb L) {i : Nat} (hi : i < 64) : w.cell? ⟨rb, i, none⟩ = some (.int .i64 (L.getD i 0)) := by
  obtain ⟨cur, hc, ht⟩ := h.ex
  have hl := h.len
  have h1 : (ivs L)[i]? = some (.int .i64 (L.getD i 0)) := by simp [ivs, List.getD, show i < L.length by omega]
  rw [← ht, List.getElem?_take, if_pos hi] at h1
  simp [World.cell?, hc]
  simpa using h1
theorem Mw.frozen {w : World} {rb : Nat} {L : List Int} (h : Mw w rb L) (i : Nat) : w.frozen? ⟨rb, i, none⟩ = false := by
  obtain ⟨cur, hc, ht⟩ := h.ex
  simp [World.frozen?, hc]
theorem Mw.lt {w : World} {rb : Nat} {L : List Int} (h : Mw w rb L) : rb < w.heap.size := by
  obtain ⟨cur, hc, _⟩ := h.ex
  exact (Array.getElem?_eq_some_iff.1 hc).1
theorem Mw.keeps {X : Nat → Prop} {w w' : World} {rb : Nat} {L : List Int} (h : Mw w rb L) (hk : Keeps X w w') (hX : ¬ X rb) : Mw w' rb L := by
  obtain ⟨cur, hc, ht⟩ := h.ex
  exact ⟨⟨cur, (hk.block rb h.lt hX).trans hc, ht⟩, h.len⟩
theorem Mw.mono {w w' : World} {rb : Nat} {L : List Int} (h : Mw w rb L) (hb : Below w.heap.size w w') : Mw w' rb L := h.keeps (X := fun _ => False) (Keeps.of_all hb) (fun e => e)
theorem Mw.set {w : World} {rb : Nat} {L : List Int} (h : Mw w rb L) (i : Nat) (v : Int) : Mw (w.setCell ⟨rb, i, none⟩ (.int .i64 v)) rb (L.set i v) := by
  obtain ⟨cur, hc, ht⟩ := h.ex
  have hl := h.len
  have hcs : 64 ≤ cur.size := by
    have h2 : (cur.toList.take 64).length = 64 := by rw [ht, ivs_length, hl]
    rw [List.length_take] at h2
    have : cur.toList.length = cur.size := rfl
    omega
  refine ⟨⟨cur.setIfInBounds i (.int .i64 v), ?_, ?_⟩, by rw [List.length_set, hl]⟩
  · simp [World.setCell, Array.getElem?_modify, hc]
  · have e1 : (cur.setIfInBounds i (.int .i64 v)).toList = cur.toList.set i (.int .i64 v) := by simp
    rw [e1, List.take_set, ht]
    simp [ivs, List.map_set]
theorem Mw.rd {w : World} {rb c : Nat} {L : List Int} (h : Mw w rb L) (hc : 64 ≤ c) (hm : c ≤ maxLen) : Rd w (some ⟨rb, 0, none⟩) 64 c L :=
  ⟨h.len, hc, hm, fun e => (by cases e), fun _ => ⟨rb, 0, rfl, fun i hi => by rw [Nat.zero_add]; exact h.cell hi⟩⟩
theorem Mw.of_own {w : World} {base : Nat} {a : Option Addr} {c : Nat} {L : List Int} (h : w.ownsRow base 3 1 (.slice a 64 c) 64 (ivs L)) : ∃ rb, a = some ⟨rb, 0, none⟩ ∧ base ≤ rb ∧ 64 ≤ c ∧ c ≤ maxLen ∧ Mw w rb L := by
  rcases h.2 with ⟨hv, h0⟩ | ⟨g, cap, cur, hv, hb, hg, hnc, hcm, hcs, ht⟩
  · omega
  · simp only [Value.slice.injEq] at hv
    obtain ⟨rfl, -, rfl⟩ := hv
    refine ⟨g, rfl, hb, hnc, hcm, ⟨⟨cur, hg, ?_⟩, ?_⟩⟩
    · simpa using ht
    · have := h.1
      rw [ivs_length] at this
      omega

section
variable {w : World} {b : Nat} {a : Option Addr} {n c : Nat} {t k e h f : Int}
theorem Ch.setT (H : Ch w b a n c t k e h f) (v : Int) : Ch (w.setCell ⟨b, 1, none⟩ (.int .i64 v)) b a n c v k e h f := by
  have h' : w.heap[b]? = _ := H
  simp [Ch, World.setCell, Array.getElem?_modify, h']
theorem Ch.setK (H : Ch w b a n c t k e h f) (v : Int) : Ch (w.setCell ⟨b, 2, none⟩ (.int .i64 v)) b a n c t v e h f := by
  have h' : w.heap[b]? = _ := H
  simp [Ch, World.setCell, Array.getElem?_modify, h']
theorem Ch.setE (H : Ch w b a n c t k e h f) (v : Int) : Ch (w.setCell ⟨b, 3, none⟩ (.int .i64 v)) b a n c t k v h f := by
  have h' : w.heap[b]? = _ := H
  simp [Ch, World.setCell, Array.getElem?_modify, h']
theorem Ch.setH (H : Ch w b a n c t k e h f) (v : Int) : Ch (w.setCell ⟨b, 4, none⟩ (.int .i64 v)) b a n c t k e v f := by
  have h' : w.heap[b]? = _ := H
  simp [Ch, World.setCell, Array.getElem?_modify, h']
theorem Ch.setF (H : Ch w b a n c t k e h f) (v : Int) : Ch (w.setCell ⟨b, 5, none⟩ (.int .i64 v)) b a n c t k e h v := by
  have h' : w.heap[b]? = _ := H
  simp [Ch, World.setCell, Array.getElem?_modify, h']
end

/-- ChessOf tells a position of its own. -/
theorem ChessOf_own (a : Option Addr) (c : Nat) (Z : List Int) (t k e h f : Int) (w : World) (hz : Rd w a 64 c Z) :
    Calls Tryd.prog 6 #[.agg (chA a 64 c t k e h f)] w fun r w' => ∃ rb c', r = .returned (.agg (chA (some ⟨rb, 0, none⟩) 64 c' t k e h f)) ∧ Mw w' rb Z ∧ w.heap.size ≤ rb ∧ 64 ≤ c' ∧ c' ≤ maxLen ∧ Below w.heap.size w w' := by
  go_enter Tryd.func6, Tryd.ntmps6
  go_upto_region 1 with fail
  obtain ⟨w1, hw1⟩ : ∃ w1, (w.alloc (Obj.cells (chA a 64 c t k e h f) 24)).alloc (Obj.cells #[.slice none 0 0, .int .i64 0, .int .i64 0, .int .i64 0, .int .i64 0, .int .i64 0] 24) = w1 := ⟨_, rfl⟩
  rw [hw1]
  have K1 : Ch w1 w.heap.size a 64 c t k e h f := by rw [← hw1]; exact (Ch.new w a 64 c t k e h f).old _
  have K2 : Ch w1 (w.heap.size + 1) none 0 0 0 0 0 0 0 := by
    rw [← hw1]
    have := Ch.new (w.alloc (Obj.cells (chA a 64 c t k e h f) 24)) none 0 0 0 0 0 0 0
    rw [World.size_alloc] at this
    exact this
  have hs1 : w1.heap.size = w.heap.size + 1 + 1 := by rw [← hw1]; simp
  have B1 : Below w.heap.size w w1 := by rw [← hw1]; exact ((Below.refl _ w).alloc (Nat.le_refl _) _).alloc (by simp) _
  clear hw1
  have HS := hide hs1
  have CALL := hide (ints_own a 64 c Z w1 (hz.mono B1) (by omega))
  rw [hs1] at CALL
  clear hs1
  obtain ⟨g0, -⟩ := K1.cells
  go_wp2_with fail
  refine CALL.out.mono ?_
  rintro r w2 ⟨a', c', rfl, hO, hb⟩
  have K12 := K1.below (C := w.heap.size + 1 + 1) hb (by omega)
  have K22 := K2.below (C := w.heap.size + 1 + 1) hb (by omega)
  have B2 := B1.trans (hb.mono (by omega))
  clear K1 K2 B1 g0 CALL hb
  obtain ⟨g0, -⟩ := K12.cells
  have f0 := K12.frozen 0
  have HO := hide hO
  clear hO
  go_upto_region 2 with fail
  have K13 := K12.setP a' 64 c'
  have K23 := K22.other (show w.heap.size + 1 ≠ w.heap.size by omega) 0 (.slice a' 64 c')
  have B3 := B2.setCell (p := ⟨w.heap.size, 0, none⟩) (Nat.le_refl _) (.slice a' 64 c')
  have O3 := hide (own_keeps HO.out (Keeps.set1 w2 w.heap.size 0 (.slice a' 64 c')) (by omega))
  generalize w2.setCell ⟨w.heap.size, 0, none⟩ (.slice a' 64 c') = w3 at *
  clear K12 K22 B2 g0 f0 HO
  go_wp2_with (first
    | refine wpList_load_ch rfl (.tmp 1) rfl w.heap.size rfl K13 ?_
    | (refine wpList_store_ch rfl (.tmp 2) (.tmp 7) rfl (w.heap.size + 1) rfl rfl K23 ?_; intro w6 k6 kk6))
  obtain ⟨rb, rfl, hbr, h64, hmx, hmw⟩ := Mw.of_own (own_keeps O3.out kk6 (by omega))
  refine bodyPost_ret (results_ch rfl _ _ (w.heap.size + 1) rfl k6) rfl ⟨rb, c', rfl, hmw, by omega, h64, hmx, ?_⟩
  exact B3.trans ((kk6.mono (Y := fun k => w.heap.size ≤ k) (fun k _ e => by omega)).below (by have := B3.size; omega) (fun k hk e => by omega))

end Go.Proofs.YtdmlamnonbmboaaDoor
