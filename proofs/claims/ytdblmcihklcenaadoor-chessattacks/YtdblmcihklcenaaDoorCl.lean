/-
  Chess: the attackers of a place, collected and sorted. No conditions beyond those that each theorem bears.
-/
import Derived.Test.YtdblmcihklcenaaDoorAp
namespace Go.Proofs.YtdblmcihklcenaaDoor
open Go.RowKit Go.Shelf

theorem atL_lt (Z : List Int) (t b : Nat) : (atL Z t b).Pairwise (· < ·) := List.Pairwise.sublist List.filter_sublist List.pairwise_lt_range
theorem atL_nodup (Z : List Int) (t b : Nat) : (atL Z t b).Nodup := (atL_lt Z t b).imp (fun h => by omega)
theorem atL_len (Z : List Int) (t b : Nat) : (atL Z t b).length ≤ 64 := by
  unfold atL
  exact Nat.le_trans (List.length_filter_le _ _) (by simp)
theorem atk_perm {Z : List Int} (hz : Pz Z) {t b : Nat} (ht : t < 64) (hb : b = 0 ∨ b = 1) : (atk Z t b).Perm (atL Z t b) :=
  (List.perm_ext_iff_of_nodup (atk_nodup Z b ht) (atL_nodup Z t b)).2 (mem_atk hz ht hb)
theorem atk_len {Z : List Int} (hz : Pz Z) {t b : Nat} (ht : t < 64) (hb : b = 0 ∨ b = 1) : (atk Z t b).length = (atL Z t b).length := (atk_perm hz ht hb).length_eq
theorem atk_sort {Z : List Int} (hz : Pz Z) {t b : Nat} (ht : t < 64) (hb : b = 0 ∨ b = 1) : (toI (atk Z t b)).mergeSort (fun x y => decide (x ≤ y)) = toI (atL Z t b) := by
  refine List.Perm.eq_of_pairwise (le := fun x y : Int => decide (x ≤ y) = true) ?_ (List.pairwise_mergeSort ?_ ?_ _) ?_ ?_
  · intro a b _ _ h1 h2; simp at h1 h2; omega
  · intro a b c h1 h2; simp at h1 h2 ⊢; omega
  · intro a b; simp; omega
  · rw [toI, List.pairwise_map]
    exact (atL_lt Z t b).imp (fun h => by simp; omega)
  · refine (List.mergeSort_perm _ _).trans ?_
    unfold toI
    exact List.Perm.map _ (atk_perm hz ht hb)

/-- What is held while attackers are collected: g: the list's place. -/
structure ClI (g : Nat) (w : World) (O : Nat → Prop) (s : List Nat) (v : Value) (V : World) : Prop where
  o : ∀ j, O j ↔ (j = g ∨ v.ownBlock = some j)
  b : Vb V g 22 [v]
  r : V.ownsRow (g + 1) 3 1 v s.length ((toI s).map (Value.int .i64))
  bl : Below w.heap.size w V

theorem ClI.keeps {g : Nat} {w : World} {O X : Nat → Prop} {s : List Nat} {v : Value} {V V' : World} (h : ClI g w O s v V) (hk : Keeps X V V') (hX : ∀ k, X k → w.heap.size ≤ k ∧ ¬ O k) : ClI g w O s v V' :=
  ⟨h.o, h.b.keeps hk (fun e => (hX _ e).2 ((h.o g).2 (Or.inl rfl))), own_blk h.r (fun q hq => hk.block q (h.r.lt q hq).2 (fun e => (hX _ e).2 ((h.o q).2 (Or.inr hq)))), h.bl.trans (hk.below h.bl.size (fun j hj e => by have := (hX _ e).1; omega))⟩

attribute [local irreducible] atk
attribute [local go_sem] Oper.semAt_some wide_fn wide_fn0 wide_depth

set_option maxRecDepth 100000 in
set_option maxHeartbeats 8000000 in
theorem appendSeq_any (bb ab eb lb b t : Nat) (a : Option Addr) (c : Nat) (Z : List Int) (ht : t < 64) (hln : (atk Z t b).length ≤ 64) (w : World) (hR : AkR bb ab eb lb b t a c Z w) :
    Calls Tryd.prog 39 #[.slice none 0 0, .func (.func 34) #[] #[.pointer (some ⟨bb, 0, none⟩), .pointer (some ⟨ab, 0, none⟩), .pointer (some ⟨eb, 0, none⟩), .pointer (some ⟨lb, 0, none⟩)]] w fun e w' => ∃ v, e = .returned v ∧ w'.ownsRow w.heap.size 3 1 v (atk Z t b).length ((toI (atk Z t b)).map (Value.int .i64)) ∧ Below w.heap.size w w' := by
  have HLT := hide hR.lt
  have HSQ := hide (attackers2_seq bb ab eb lb b t a c Z ht)
  obtain ⟨XS, hXS⟩ : ∃ XS, atk Z t b = XS := ⟨_, rfl⟩
  rw [hXS] at HSQ hln ⊢
  clear hXS
  have HLN := hide hln
  obtain ⟨w1, hw1⟩ : ∃ w1, w.alloc (.cells #[.slice none 0 0] 22) = w1 := ⟨_, rfl⟩
  have B1 : Below w.heap.size w w1 := by rw [← hw1]; exact (Below.refl _ w).alloc (Nat.le_refl _) _
  have s1 : w1.heap.size = w.heap.size + 1 := by rw [← hw1]; simp
  have R1 : AkR bb ab eb lb b t a c Z w1 := hR.keeps (X := fun _ => False) (Keeps.of_all B1) (fun _ _ e => e)
  have HI1 : Hid (ClI w.heap.size w (fun j => j = w.heap.size) [] (.slice none 0 0) w1) := hide ⟨fun j => by simp [Value.ownBlock], by rw [← hw1]; exact Vb.new w 22 [.slice none 0 0], World.ownsRow_nil _ _ _ _, B1⟩
  have HB1 := hide B1
  have HS1 := hide s1
  have HR1 := hide R1
  clear hR hln B1 s1 R1
  refine (callsIn_wide (n := 3)).1 ?_
  refine callsIn_of_wp_marks Tryd.func39 rfl trivial ?_ rfl
  simp only [Tryd.ntmps39, List.size_toArray, List.length_cons, List.length_nil, Nat.reduceAdd, Nat.reduceSub, Array.replicate_succ, Array.replicate_zero, List.push_toArray, List.append_toArray, List.nil_append, List.cons_append]
  refine wpIn_wide.2 ?_
  go_upto_region 1 with fail
  clear hw1
  go_wp2_with fail
  refine (wpIn_wide (n := 1)).1 (wp_range_o (gf := 34) (lb := #[.pointer (some ⟨bb, 0, none⟩), .pointer (some ⟨ab, 0, none⟩), .pointer (some ⟨eb, 0, none⟩), .pointer (some ⟨lb, 0, none⟩)]) (G := RcG) (xs := XS) (R := AkR bb ab eb lb b t a c Z) (T := AkT bb ab eb lb a) (by simp [Act.eval]) (enters_of Tryd.func34 (by kernel_rfl) rfl)
    HSQ.out (fun j hj => by have := HLT.out j hj; have := HS1.out; omega) (fun A hA => HR1.out.keeps (X := fun _ => False) (Keeps.of_all hA) (fun _ _ h => h)) (fun x args W' hG => by rw [hG]; rfl)
    (fun O s W' => ∃ v, ClI w.heap.size w O s v W') (fun _ _ _ => False) (fun j => j = w.heap.size) ?hC ⟨_, HI1.out⟩ ?round ?done (fun _ _ _ _ _ h => h.elim))
  case hC =>
    intro d
    have z1 := HS1.out
    refine ⟨?_, (fun _ _ h => h.elim), ?_, (fun _ _ _ h => h.elim)⟩
    · rintro O s A ⟨v, h⟩ j hj
      rcases (h.o j).1 hj with rfl | e
      · exact ⟨h.b.lt, fun e => by have := HLT.out _ e; omega⟩
      · have := h.r.lt j e
        exact ⟨this.2, fun e => by have := HLT.out _ e; omega⟩
    · rintro O s A B ⟨v, h⟩ hk
      exact ⟨v, h.keeps hk (fun k e => ⟨by have := e.1; omega, e.2⟩)⟩
  case round =>
    rintro l2 O s x args W6 hl2 ⟨rec, hrec⟩ ⟨v, hI6⟩ hOl _ _ hpre hGx hsz6
    obtain rfl : args = #[.int .i64 (x : Nat)] := hGx
    have hpl : s.length ≤ 64 := by
      have h1 := hpre.length_le
      rw [List.length_append, List.length_singleton] at h1
      have h2 := HLN.out
      omega
    have HSN : Hid (toI s ++ [(x : Int)] = toI (s ++ [x])) := hide (by rw [toI_snoc])
    have HPL : Hid (s.length + 1 = (s ++ [x]).length) := hide (by simp)
    have HI6 := hide hI6
    have HOL := hide hOl
    have HSZ6 := hide hsz6
    have HL2 := hide hl2
    clear hI6 hpre hrec hOl hsz6 hl2
    gi_wp2
    refine ⟨Below.refl _ _, ?_⟩
    intro W3 hk3
    have I3 : ClI w.heap.size w O s v W3 := HI6.out.keeps hk3 (fun k e => ⟨by have := HS1.out; have := HL2.out; omega, e ▸ HOL.out⟩)
    have HW3 : Hid (w.heap.size + 3 ≤ W3.heap.size) := hide (by have := hk3.size; have := HSZ6.out; have := HS1.out; omega)
    obtain ⟨a3, c3, rfl⟩ := slice_form I3.r
    have HI3 := hide I3
    have cs := I3.b.cell (i := 0) rfl
    have hrow := I3.r.alloc (.cells #[.int .i64 (x : Nat)] 3)
    have hRx : Rd (W3.alloc (.cells #[.int .i64 (x : Nat)] 3)) (some ⟨W3.heap.size, 0, none⟩) 1 1 [(x : Int)] := Rd.of_blk (Blk.new W3 3 [(x : Int)] _ rfl) rfl (by unfold maxLen; omega)
    have csa := old_cell (.cells #[.int .i64 (x : Nat)] 3) cs
    obtain ⟨n, hn⟩ : ∃ n, s.length = n := ⟨_, rfl⟩
    have HNL := hide hn
    rw [hn] at hpl HPL hrow cs csa
    clear hk3 HI6 I3 hn
    gi_wp2_with (gi_at_builtin; refine wpListIn_append_i _ rfl _ _ rfl (w.heap.size + 1) _ n (toI s) rfl hrow ⟨W3.heap.size, 0, none⟩ 1 1 [(x : Int)] rfl hRx (by omega) (by omega) (by simp; have := HW3.out; omega) ?_)
    intro v' w4 hO4 hg4 hst
    obtain ⟨a4, c4, rfl⟩ := slice_form hO4
    have hob : ∀ j, (Value.slice a3 n c3).ownBlock = some j → O j := fun j hj => (HI3.out.o j).2 (Or.inr (by rw [HNL.out]; exact hj))
    have hobl : ∀ j, (Value.slice a3 n c3).ownBlock = some j → w.heap.size + 1 ≤ j := fun j hj => (HI3.out.r.lt j (by rw [HNL.out]; exact hj)).1
    have K34 : Keeps O W3 w4 := by
      refine ((Keeps.refl _ W3).alloc (.cells #[.int .i64 (x : Nat)] 3)).trans ?_
      refine ⟨hg4.os, hg4.tape, hg4.output, hg4.size, fun i hi hx => hg4.block i hi (fun e => hx (hob i e.symm))⟩
    have V4 : Vb w4 w.heap.size 22 [.slice a3 n c3] := by
      have hb := HI3.out.b.lt
      have e1 := hg4.block w.heap.size (by simp; exact Nat.lt_succ_of_lt hb) (fun e => by have := hobl _ e.symm; omega)
      have e2 := e1.trans (Below.heap_alloc W3 _ _ hb)
      have := HI3.out.b
      rw [HNL.out] at this
      exact e2.trans this
    have cs4 := V4.cell (i := 0) rfl
    have fs4 := V4.frozen 0
    have HB4 : Hid (Below w.heap.size w w4) := hide (HI3.out.bl.trans (K34.below HI3.out.bl.size (fun j hj e => by
      rcases (HI3.out.o j).1 e with e | e
      · omega
      · have := hobl j (by rw [HNL.out] at e; exact e); omega)))
    have kk := Keeps.set1 w4 w.heap.size 0 (.slice a4 (n + 1) c4)
    have HO5 : Hid ((w4.setCell ⟨w.heap.size, 0, none⟩ (.slice a4 (n + 1) c4)).ownsRow (w.heap.size + 1) 3 1 (.slice a4 (n + 1) c4) (n + 1) (List.map (Value.int IntKind.i64) (toI s) ++ [Value.int IntKind.i64 x])) := hide (own_blk hO4 (fun g hg => kk.block g (hO4.lt g hg).2 (fun e => by have := (hO4.lt g hg).1; omega)))
    have HV5 : Hid (Vb (w4.setCell ⟨w.heap.size, 0, none⟩ (.slice a4 (n + 1) c4)) w.heap.size 22 [.slice a4 (n + 1) c4]) := hide (V4.set 0 _)
    have HK5 : Hid (Keeps O W3 (w4.setCell ⟨w.heap.size, 0, none⟩ (.slice a4 (n + 1) c4))) := hide (K34.trans (kk.mono (fun j _ e => (HI3.out.o j).2 (Or.inl e))))
    have HB5 : Hid (Below w.heap.size w (w4.setCell ⟨w.heap.size, 0, none⟩ (.slice a4 (n + 1) c4))) := hide (HB4.out.trans (kk.below HB4.out.size (fun j hj e => by omega)))
    have HNW : Hid (∀ k, k < W3.heap.size → (k = w.heap.size ∨ (Value.slice a4 (n + 1) c4).ownBlock = some k) → O k) := hide (fun k hk h => by
      rcases h with h | h
      · exact (HI3.out.o k).2 (Or.inl h)
      · rcases hst k h with e | e
        · exact hob k e
        · omega)
    clear hO4 hg4 hst K34 V4 kk hrow hRx csa cs hob hobl
    gi_wp2_with fail
    refine ⟨HK5.out, fun k => k = w.heap.size ∨ (Value.slice a4 (n + 1) c4).ownBlock = some k, HNW.out, .slice a4 (n + 1) c4, fun _ => Iff.rfl, HV5.out, ?_, HB5.out⟩
    rw [← HPL.out, ← HSN.out, List.map_append]
    exact HO5.out
  case done =>
    rintro D O W5 hD ⟨v, hI⟩ _ hm hK
    obtain ⟨a5, c5, rfl⟩ := slice_form hI.r
    have cs := hI.b.cell (i := 0) rfl
    have HMK : Hid (Mks O (w.heap.size + 1) W5 [{ target := .collected D, args := #[] }]) := hide ⟨[D], rfl, by simp, fun E hE => by rw [List.mem_singleton.1 hE]; exact ⟨hK, by have := HS1.out; omega, fun h => by have := hm D (by omega) h; have := HS1.out; omega⟩⟩
    have HI := hide hI
    clear hI hm hK hD
    go_wp2
    refine leaves_mks HMK.out (fun w9 hk9 => ?_)
    refine ⟨_, results_tmp rfl _ _ _, _, rfl, ?_, ?_⟩
    · exact own_base (own_blk HI.out.r (fun g hg => hk9.block g (HI.out.r.lt g hg).2 (fun e => e.2 ((HI.out.o g).2 (Or.inr hg))))) (by omega)
    · exact HI.out.bl.trans (hk9.below HI.out.bl.size (fun j hj e => by have := e.1; omega))

theorem collect_any (bb ab eb lb b t : Nat) (a : Option Addr) (c : Nat) (Z : List Int) (ht : t < 64) (hln : (atk Z t b).length ≤ 64) (w : World) (hR : AkR bb ab eb lb b t a c Z w) :
    Calls Tryd.prog 31 #[.func (.func 34) #[] #[.pointer (some ⟨bb, 0, none⟩), .pointer (some ⟨ab, 0, none⟩), .pointer (some ⟨eb, 0, none⟩), .pointer (some ⟨lb, 0, none⟩)]] w fun e w' => ∃ v, e = .returned v ∧ w'.ownsRow w.heap.size 3 1 v (atk Z t b).length ((toI (atk Z t b)).map (Value.int .i64)) ∧ Below w.heap.size w w' := by
  have H := hide (appendSeq_any bb ab eb lb b t a c Z ht hln w hR)
  clear hR
  go_enter Tryd.func31, Tryd.ntmps31
  go_wp2_with fail
  refine H.out.mono ?_
  rintro e w1 ⟨v, rfl, hO, hb⟩
  have HO := hide hO
  have HB := hide hb
  clear hO hb
  go_wp2_with fail
  go_ret
  exact ⟨v, rfl, HO.out, HB.out⟩

theorem sorted_any (bb ab eb lb b t : Nat) (a : Option Addr) (c : Nat) (Z : List Int) (ht : t < 64) (hb : b = 0 ∨ b = 1) (hz : Pz Z) (w : World) (hR : AkR bb ab eb lb b t a c Z w) :
    Calls Tryd.prog 15 #[.func (.func 34) #[] #[.pointer (some ⟨bb, 0, none⟩), .pointer (some ⟨ab, 0, none⟩), .pointer (some ⟨eb, 0, none⟩), .pointer (some ⟨lb, 0, none⟩)]] w fun e w' => ∃ a' n c', e = .returned (.slice a' n c') ∧ Rd w' a' n c' (toI (atL Z t b)) ∧ Below w.heap.size w w' := by
  have hl := atk_len hz ht hb
  have hL := atL_len Z t b
  have H := hide (collect_any bb ab eb lb b t a c Z ht (by omega) w hR)
  have HST := hide (atk_sort hz ht hb)
  have HNIL : Hid (atk Z t b = [] → atL Z t b = []) := hide (fun e => by rw [e] at hl; exact List.eq_nil_of_length_eq_zero hl.symm)
  generalize atk Z t b = XS at *
  generalize atL Z t b = YS at *
  clear hR
  go_enter Tryd.func15, Tryd.ntmps15
  go_wp2_with fail
  refine H.out.mono ?_
  rintro e w1 ⟨v, rfl, hO, hbl⟩
  obtain ⟨a1, c1, rfl⟩ := slice_form hO
  have HB := hide hbl
  by_cases h0 : XS.length = 0
  · have hx : XS = [] := List.eq_nil_of_length_eq_zero h0
    subst hx
    have hy := HNIL.out rfl
    subst hy
    have HR : Hid (Rd w1 a1 0 c1 []) := hide (Rd.of_own hO)
    have HN := hide (Tryd.slices_Sort_int_none a1 c1 w1)
    clear hO hbl H HST
    go_wp2_with fail
    refine HN.out.mono ?_
    rintro e w2 ⟨rfl, hw⟩
    subst w2
    go_wp2_with fail
    go_ret
    exact ⟨a1, 0, c1, rfl, HR.out, HB.out⟩
  · obtain ⟨ad, rfl⟩ : ∃ ad, a1 = some ad := by
      rcases hO.2 with ⟨hv, h1⟩ | ⟨g, cap, cur, hv, _⟩
      · exact absurd h1 h0
      · simp only [Value.slice.injEq] at hv; exact ⟨_, hv.1⟩
    have HS := hide (sort_own hO (by omega))
    rw [HST.out] at HS
    obtain ⟨n, hn⟩ : ∃ n, XS.length = n := ⟨_, rfl⟩
    rw [hn] at HS h0 hO ⊢
    have HLO := hide (fun g hg => (hO.lt g hg).1)
    clear hO hbl H HST hn
    go_wp2_with fail
    refine HS.out.mono ?_
    rintro e w2 ⟨rfl, hO2, hg2⟩
    have HR : Hid (Rd w2 (some ad) n c1 (toI YS)) := hide (Rd.of_own hO2)
    have HB2 : Hid (Below w.heap.size w w2) := hide (HB.out.trans ((keeps_grown hg2).below HB.out.size (fun j hj e => by have := HLO.out j e; omega)))
    clear hO2 hg2 HS
    go_wp2_with fail
    go_ret
    exact ⟨_, n, c1, rfl, HR.out, HB2.out⟩

end Go.Proofs.YtdblmcihklcenaaDoor
