/-
  A player's groups, collected into a list of lists; Groups. No conditions beyond those that each theorem bears.
-/
import Derived.Test.YtldgikinmmkhiaaDoorFc
import Derived.Test.YtldgikinmmkhiaaDoorRq2
namespace Go.Proofs.YtldgikinmmkhiaaDoor
open Go.RowKit Go.Shelf

/-- Groups as lists of numbers. -/
def toL (L : List (List Nat)) : List (List Int) := L.map toI
theorem toL_len (L : List (List Nat)) : (toL L).length = L.length := by simp [toL]
theorem toL_snoc (L : List (List Nat)) (x : List Nat) : toL (L ++ [x]) = toL L ++ [toI x] := by simp [toL]

theorem wpListIn_append_fr {l d : Nat} {ops : Array Oper} {rest : List Oper} {o : Oper} {a : Act} {Q : Exit → Act → World → Prop} (w : World) (hgd : o.guard = none) (s x : Operand)
    (ho : o.op = .call { callee := .builtin .append, args := #[s, x], argTypes := #[25, 25] }) {O : Nat → Prop} (base : Nat) (v : Value) (L : List (List Int)) (hs : a.eval s = v) (hF : Fl O base w v L)
    (ao : Option Addr) (m c : Nat) (M : List (List Int)) (hx : a.eval x = .slice ao m c) (hR : Fr O w ao m c M) (hlen : L.length + m ≤ 1000000000) (hbase : base ≤ w.heap.size)
    (h : ∀ v' w', (∀ O', (∀ k, k < w.heap.size → O k → O' k) → (∀ k, w.heap.size ≤ k → k < w'.heap.size → O' k) → Fl O' base w' v' (L ++ M)) → (∃ a' c', v' = .slice a' (L.length + m) c') → w.grownBy w' v.ownBlock → wpListIn (Fence.wide.inRound l) d Tryd.prog ops Q rest (a.put o.dst v') w') : wpListIn (Fence.wide.inRound l) d Tryd.prog ops Q (o :: rest) a w :=
  wpListIn_plain hgd fun _ hK => oper_round (fun c e => by rw [ho] at e; cases e) (wp_append_fr w s x ho base v L hs hF ao m c M hx hR hlen hbase fun v' w' h1 h2 h3 => hK _ _ (h v' w' h1 h2 h3))

attribute [local irreducible] mtL grp nbs grpsU toL toI
attribute [local go_sem] Oper.semAt_some wide_fn wide_fn0 wide_depth

set_option maxRecDepth 100000 in
set_option maxHeartbeats 8000000 in
theorem appendSeqG_any (bb wb n cb co N bc m : Nat) (Z : List Int) (hn : 1 ≤ n ∧ n ≤ 10) (hN : n * n = N) (hbc : N ≤ bc) (w : World) (hR : GgR bb wb n cb co N bc m Z 0 w) :
    Calls Tryd.prog 40 #[.slice none 0 0, .func (.func 41) #[] #[.pointer (some ⟨bb, 0, none⟩), .pointer (some ⟨wb, 0, none⟩)]] w fun e w' => ∃ a c, e = .returned (.slice a (grps n Z m).length c) ∧ Fl (fun k => w.heap.size ≤ k) w.heap.size w' (.slice a (grps n Z m).length c) (toL (grps n Z m)) ∧ Below w.heap.size w w' := by
  have hN100 : N ≤ 100 := by rw [← hN]; exact Nat.mul_le_mul hn.2 hn.2
  have hN1 : 1 ≤ N := by rw [← hN]; exact Nat.mul_le_mul hn.1 hn.1
  have HR := hide hR
  have HLT := hide (hR.lt hN1)
  have HNN := hide hN
  have HGL : Hid ((grps n Z m).length ≤ 100) := hide (by have := grpsU_len n Z m (n * n); unfold grps; omega)
  have HTN : Hid (toL [] = []) := hide (by unfold toL; rfl)
  clear hR
  refine (callsIn_wide (n := 3)).1 ?_
  refine callsIn_of_wp_marks Tryd.func40 rfl trivial ?_ rfl
  simp only [Tryd.ntmps40, List.size_toArray, List.length_cons, List.length_nil, Nat.reduceAdd, Nat.reduceSub, Array.replicate_succ, Array.replicate_zero, List.push_toArray, List.append_toArray, List.nil_append, List.cons_append]
  refine wpIn_wide.2 ?_
  go_wp2_with fail
  obtain ⟨w1, hw1⟩ : ∃ w1, w.alloc (.cells #[.slice none 0 0] 25) = w1 := ⟨_, rfl⟩
  rw [hw1]
  obtain ⟨s1, h1, B1⟩ := alloc_facts hw1
  have C1 : Vb w1 w.heap.size 25 [.slice none 0 0] := h1
  have HC1 := hide C1
  have HB1 := hide B1
  have HR1 : Hid (∀ W1, Below w1.heap.size w1 W1 → W1.heap.size = w1.heap.size + 2 → GgR bb wb n cb co N bc m Z (w1.heap.size + 3) W1) := hide (fun W1 hb hs => by
    have h := HR.out.keeps (X := fun _ => False) (Keeps.of_all (B1.trans (hb.mono B1.size))) (fun _ _ h => h)
    exact ⟨h.b, h.w, h.t, h.r, by omega⟩)
  have HS1 : Hid (w1.heap.size = w.heap.size + 1) := hide s1
  clear hw1 s1 h1 B1 C1
  refine (wpIn_wide (n := 1)).1 (wp_range_q2 (gf := 41) (lb := #[.pointer (some ⟨bb, 0, none⟩), .pointer (some ⟨wb, 0, none⟩)]) (G := GgG (w1.heap.size + 3)) (xs := grps n Z m) (R := GgR bb wb n cb co N bc m Z (w1.heap.size + 3)) (T := GgT bb wb cb) (c := 1) (by simp [Act.eval]) (enters_of Tryd.func41 (by kernel_rfl) rfl)
    (groups1_seq bb wb n cb co N bc m Z _ hn HNN.out hN1 hbc) (fun k hk => by have := HLT.out k hk; have := HS1.out; omega) (fun A B hA hk => hA.keeps hk (fun k hk h => h hk)) (fun W1 hb hs => HR1.out W1 hb hs) (fun k => k = w.heap.size ∨ w1.heap.size + 3 ≤ k) ?hX (fun x args W' hG => by obtain ⟨a, c, h, _⟩ := hG; rw [h]; rfl)
    (fun pre W' => ∃ a c, Vb W' w.heap.size 25 [.slice a pre.length c] ∧ Fl (fun k => w1.heap.size + 3 ≤ k) (w1.heap.size + 3) W' (.slice a pre.length c) (toL pre) ∧ Keeps (fun k => k = w.heap.size) w1 W') (fun _ _ => False) ?hI (fun _ _ _ h _ => h) ⟨none, 0, HC1.out, ?h0, Keeps.refl _ _⟩ ?round ?done (fun _ _ _ _ h => h.elim))
  case hX =>
    intro q hq
    have e1 := HS1.out
    refine ⟨fun ht => by have := HLT.out q ht; omega, fun e => by omega⟩
  case h0 => rw [HTN.out]; exact Fl.nil _ _ _
  case hI =>
    rintro s A B ⟨a, c, k1, k2, k3⟩ hk
    have e1 := HS1.out
    exact ⟨a, c, k1.keeps hk (fun e => by omega), k2.keeps hk (fun k hk e => by omega), k3.after hk (fun i hi e => by omega)⟩
  case round =>
    rintro l2 pre x args W2 hl2 ⟨rec, hrec⟩ ⟨a, c, k1, k2, k3⟩ hpre ⟨ga, gc, rfl, hI⟩ hsz
    have hpl : pre.length + 1 ≤ 100 := by
      have h1 := hpre.length_le
      rw [List.length_append, List.length_singleton] at h1
      have h2 := HGL.out
      omega
    have HRC := hide hrec
    have HIR := hide hI
    have HK1 := hide k1
    have HK2 := hide k2
    have HK3 := hide k3
    have HSN := hide (toL_snoc pre x)
    have HTL := hide (toL_len pre)
    have HXL := hide (toI_len x)
    clear hpre k1 k2 k3 hI hrec
    gi_wp2
    refine ⟨Keeps.refl _ _, ?_⟩
    intro W3 hk3
    have e1 := HS1.out
    have hl2' : w1.heap.size + 1 ≤ l2 ∧ l2 ≤ w1.heap.size + 1 := by omega
    have V3 := HK1.out.keeps hk3 (fun e => by omega)
    have F3 := HK2.out.keeps hk3 (fun k hk e => by omega)
    have K3 := HK3.out.after hk3 (fun i hi e => by omega)
    have I3 : Ir (fun k => w1.heap.size + 3 ≤ k) W3 ga x.length gc (toI x) := HIR.out.keeps hk3 (fun k hk e => by omega)
    have hW3 : w1.heap.size + 3 ≤ W3.heap.size := Nat.le_trans hsz hk3.size
    have c3 := V3.cell (i := 0) rfl
    have c3a := old_cell (.cells #[.slice ga x.length gc] 22) c3
    have B3 : Below W3.heap.size W3 (W3.alloc (.cells #[.slice ga x.length gc] 22)) := (Below.refl _ _).alloc (Nat.le_refl _) _
    have F3a : Fl (fun k => w1.heap.size + 3 ≤ k) (w1.heap.size + 3) (W3.alloc (.cells #[.slice ga x.length gc] 22)) (.slice a pre.length c) (toL pre) := F3.mono B3
    have R3a : Fr (fun k => w1.heap.size + 3 ≤ k) (W3.alloc (.cells #[.slice ga x.length gc] 22)) (some ⟨W3.heap.size, 0, none⟩) 1 1 [toI x] := by
      refine Fr.one (a := ga) (c := gc) ?_ ?_
      · rw [HXL.out]; exact new_cell W3 _ 22
      · rw [HXL.out]; exact I3.keeps (X := fun _ => False) (Keeps.of_all B3) (fun _ _ h => h)
    have HV3 := hide V3
    have HK3' := hide K3
    have HW3 := hide hW3
    have HF3 := hide F3
    obtain ⟨xl, hxl⟩ : ∃ xl, x.length = xl := ⟨_, rfl⟩
    rw [hxl] at c3a F3a R3a B3 ⊢
    obtain ⟨pl, hple⟩ : ∃ pl, pre.length = pl := ⟨_, rfl⟩
    rw [hple] at c3 c3a F3a hpl HF3 HTL HV3
    have HPL : Hid ((pre ++ [x]).length = pl + 1) := hide (by simp [hple])
    have HLT3 : Hid (w.heap.size < w1.heap.size + 3) := hide (by omega)
    clear hl2 hl2' e1 V3 F3 K3 hk3 HK1 HK2 HK3 HIR HRC I3 hple hxl
    gi_wp2_with (gi_at_builtin; refine wpListIn_append_fr _ rfl _ _ rfl (w1.heap.size + 3) _ (toL pre) rfl F3a (some ⟨W3.heap.size, 0, none⟩) 1 1 [toI x] rfl R3a (by rw [HTL.out]; omega) (by simp; omega) ?_)
    intro v' W6 hF6 a6 c6 hv6 hg6
    rw [HTL.out] at hv6
    subst hv6
    have k36 : Keeps (fun k => w1.heap.size + 3 ≤ k) W3 W6 := by
      refine (Keeps.of_all B3).trans ((keeps_grown hg6).mono (fun q _ e => ?_))
      obtain ⟨vs, h1, _, _⟩ := F3a
      exact (h1.lt q e).1
    have V6 := HV3.out.keeps k36 (fun e => by have := HLT3.out; omega)
    have c6' := V6.cell (i := 0) rfl
    have f6 := V6.frozen 0
    have F6 := hF6 (fun k => w1.heap.size + 3 ≤ k) (fun k _ h => h) (fun k h1 h2 => by first | omega | (simp at h1; omega))
    have kk7 : Keeps (fun k => k = w.heap.size) W6 (W6.setCell ⟨w.heap.size, 0, none⟩ (.slice a6 (pl + 1) c6)) := Keeps.set1 _ _ _ _
    have HV7 : Hid (Vb (W6.setCell ⟨w.heap.size, 0, none⟩ (.slice a6 (pl + 1) c6)) w.heap.size 25 [.slice a6 (pl + 1) c6]) := hide (V6.set 0 _)
    have HF7 : Hid (Fl (fun k => w1.heap.size + 3 ≤ k) (w1.heap.size + 3) (W6.setCell ⟨w.heap.size, 0, none⟩ (.slice a6 (pl + 1) c6)) (.slice a6 (pl + 1) c6) (toL pre ++ [toI x])) := hide (F6.keeps kk7 (fun k hk e => by have := HLT3.out; omega))
    have HK7 : Hid (Keeps (fun k => k = w.heap.size) w1 (W6.setCell ⟨w.heap.size, 0, none⟩ (.slice a6 (pl + 1) c6))) := hide ((HK3'.out.after k36 (fun i hi e => by omega)).after kk7 (fun i _ e => e))
    have HKD : Hid (Keeps (fun k => k = w.heap.size ∨ w1.heap.size + 3 ≤ k) W3 (W6.setCell ⟨w.heap.size, 0, none⟩ (.slice a6 (pl + 1) c6))) := hide (((k36.mono (fun q _ e => Or.inr e)).after kk7 (fun i _ e => Or.inl e)))
    clear hF6 hg6 k36 V6 F6 kk7 c3 c3a F3a R3a B3
    gi_wp2_with fail
    refine ⟨HKD.out, a6, c6, ?_, ?_, HK7.out⟩
    · rw [HPL.out]; exact HV7.out
    · rw [HPL.out, HSN.out]; exact HF7.out
  case done =>
    rintro D W5 hD ⟨a, c, k1, k2, k3⟩ _ hK
    have c5 := k1.cell (i := 0) rfl
    have HK2 := hide k2
    have HK3 := hide k3
    have HD : Hid (D = w1.heap.size) := hide hD
    have HKD := hide hK
    obtain ⟨gl, hgl⟩ : ∃ gl, (grps n Z m).length = gl := ⟨_, rfl⟩
    rw [hgl] at c5 HK2
    have HGLE := hide hgl
    clear k1 k2 k3 hD hK hgl
    go_wp2
    refine ⟨by simp, .inl ⟨D, _, rfl, run_takeDeferred HKD.out, ?_⟩⟩
    refine ⟨_, results_tmp rfl _ _ _, a, c, ?_, ?_, ?_⟩
    · first | rfl | (rw [HGLE.out]; rfl)
    · have e1 := HS1.out
      have e2 := HD.out
      first
        | exact ((HK2.out.keeps (Keeps.put (Keeps.refl (fun k => k = D) W5) (l := D) rfl _) (fun k hk e => by omega)).wide (fun k _ hk => by omega)).base (by omega)
        | (rw [HGLE.out]; exact ((HK2.out.keeps (Keeps.put (Keeps.refl (fun k => k = D) W5) (l := D) rfl _) (fun k hk e => by omega)).wide (fun k _ hk => by omega)).base (by omega))
    · have e2 := HD.out
      exact HB1.out.trans (((HK3.out.mono (Y := fun k => w.heap.size ≤ k) (fun k _ e => by omega)).put (l := D) (by have := HS1.out; omega) _).below HB1.out.size (fun k hk e => by omega))

set_option maxHeartbeats 1000000 in
theorem collectG_any (bb wb n cb co N bc m : Nat) (Z : List Int) (hn : 1 ≤ n ∧ n ≤ 10) (hN : n * n = N) (hbc : N ≤ bc) (w : World) (hR : GgR bb wb n cb co N bc m Z 0 w) :
    Calls Tryd.prog 25 #[.func (.func 41) #[] #[.pointer (some ⟨bb, 0, none⟩), .pointer (some ⟨wb, 0, none⟩)]] w fun e w' => ∃ a c, e = .returned (.slice a (grps n Z m).length c) ∧ Fl (fun k => w.heap.size ≤ k) w.heap.size w' (.slice a (grps n Z m).length c) (toL (grps n Z m)) ∧ Below w.heap.size w w' := by
  have HC := hide (appendSeqG_any bb wb n cb co N bc m Z hn hN hbc w hR)
  obtain ⟨gl, hgl⟩ : ∃ gl, (grps n Z m).length = gl := ⟨_, rfl⟩
  rw [hgl] at HC ⊢
  clear hgl hR
  go_enter Tryd.func25, Tryd.ntmps25
  go_wp2_with fail
  refine HC.out.mono ?_
  rintro e w1 ⟨a, c, rfl, hO, hb⟩
  have HO := hide hO
  have HB := hide hb
  clear hO hb
  go_wp2_with fail
  go_ret
  exact ⟨a, c, rfl, HO.out, HB.out⟩

set_option maxHeartbeats 4000000 in
theorem Groups_no (W H : Int) (a : Option Addr) (N c : Nat) (zs : List Int) (x : Int) (w : World) (hf : hF W H zs x ≠ 0) (h : Rd w a N c zs) :
    Calls Tryd.prog 8 #[.agg (gdA W H a N c), .int .i64 x] w fun e w' => e = .returned (.tuple #[.slice none 0 0, .int .i64 (hF W H zs x)]) ∧ Below w.heap.size w w' := by
  obtain ⟨w1, hw1⟩ : ∃ w1, w.alloc (.cells (gdA W H a N c) 24) = w1 := ⟨_, rfl⟩
  have B1 : Below w.heap.size w w1 := by rw [← hw1]; exact (Below.refl _ _).alloc (Nat.le_refl _) _
  have G1 : Gd w1 w.heap.size W H a N c := by rw [← hw1]; exact Gd.new _ _ _ _ _ _
  have HM := hide (fault_any W H a N c zs x w1 (h.mono B1))
  have HB1 := hide B1
  generalize hF W H zs x = V at *
  have hv : (V != 0) = true := by simpa using hf
  clear h B1 hf
  go_enter Tryd.func8, Tryd.ntmps8
  go_upto_region 1 with fail
  clear hw1
  go_wp2_with (first | (refine wpList_load_gd rfl (.tmp 2) rfl w.heap.size rfl G1 ?_) | fail)
  refine HM.out.mono ?_
  rintro e w2 ⟨rfl, hb⟩
  have HB2 := hide (HB1.out.trans (hb.mono HB1.out.size))
  clear hb G1 HM
  go_wp2_with fail
  go_ret2
  exact ⟨rfl, HB2.out⟩

set_option maxHeartbeats 4000000 in
theorem Groups_yes (n cb co N bc m : Nat) (Z : List Int) (w : World) (hf : hF n n Z m = 0) (hn : 1 ≤ n ∧ n ≤ 10) (hN : n * n = N) (hT : Tab w) (h : Rd w (some ⟨cb, co, none⟩) N bc Z) :
    Calls Tryd.prog 8 #[.agg (gdA n n (some ⟨cb, co, none⟩) N bc), .int .i64 m] w fun e w' => ∃ a c, e = .returned (.tuple #[.slice a (grps n Z m).length c, .int .i64 0]) ∧ Fl (fun k => w.heap.size ≤ k) w.heap.size w' (.slice a (grps n Z m).length c) (toL (grps n Z m)) ∧ Below w.heap.size w w' := by
  obtain ⟨w1, hw1⟩ : ∃ w1, w.alloc (.cells (gdA n n (some ⟨cb, co, none⟩) N bc) 24) = w1 := ⟨_, rfl⟩
  have B1 : Below w.heap.size w w1 := by rw [← hw1]; exact (Below.refl _ _).alloc (Nat.le_refl _) _
  have G1 : Gd w1 w.heap.size n n (some ⟨cb, co, none⟩) N bc := by rw [← hw1]; exact Gd.new _ _ _ _ _ _
  have HM := hide (fault_any n n (some ⟨cb, co, none⟩) N bc Z m w1 (h.mono B1))
  rw [hf] at HM
  have HGA := hide (fun W => groups_any n (some ⟨cb, co, none⟩) N bc m W)
  have HRT : Hid (∀ W, Below w.heap.size w W → Tab W ∧ Rd W (some ⟨cb, co, none⟩) N bc Z) := hide (fun W hb => ⟨hT.mono hb, h.mono hb⟩)
  have HCO := hide (fun bb wb W hr => collectG_any bb wb n cb co N bc m Z hn hN h.cap W hr)
  have HB1 := hide B1
  have HG1 := hide G1
  obtain ⟨gl, hgl⟩ : ∃ gl, (grps n Z m).length = gl := ⟨_, rfl⟩
  rw [hgl] at HCO ⊢
  clear h hT B1 hf hgl
  go_enter Tryd.func8, Tryd.ntmps8
  go_upto_region 1 with fail
  clear hw1
  go_wp2_with (first | (refine wpList_load_gd rfl (.tmp 2) rfl w.heap.size rfl G1 ?_) | fail)
  refine HM.out.mono ?_
  rintro e w2 ⟨rfl, hb⟩
  have HB2 := hide (HB1.out.trans (hb.mono HB1.out.size))
  have G2 := HG1.out.below hb HG1.out.lt
  clear hb G1 HM
  go_wp2_with (first | (refine wpList_load_gd rfl (.tmp 2) rfl w.heap.size rfl G2 ?_) | fail)
  refine (HGA.out _).mono ?_
  rintro e w3 ⟨rfl, hw3⟩
  have B23 : Below w2.heap.size w2 w3 := by rw [hw3]; exact ((Below.refl _ w2).alloc (Nat.le_refl _) _).alloc (by simp) _
  have HB3 := hide (HB2.out.trans (B23.mono HB2.out.size))
  have R3 : GgR w2.heap.size (w2.heap.size + 1) n cb co N bc m Z 0 w3 := by
    refine ⟨?_, ?_, (HRT.out w3 HB3.out).1, (HRT.out w3 HB3.out).2, Nat.zero_le _⟩
    · rw [hw3]; exact (Hb.new w2 n n _ N bc).old _
    · rw [hw3]
      have := new_cell (w2.alloc (.cells (gdA n n (some ⟨cb, co, none⟩) N bc) 55)) (.int .i64 m) 3
      rwa [World.size_alloc] at this
  have HC3 := hide (HCO.out _ _ w3 R3)
  clear hw3 B23 R3 G2 HGA HCO
  go_wp2_with fail
  refine HC3.out.mono ?_
  rintro e w4 ⟨a, c, rfl, hF, hb⟩
  have hs := HB3.out.size
  have HB4 := hide (HB3.out.trans (hb.mono hs))
  have HF := hide ((hF.wide (O' := fun k => w.heap.size ≤ k) (fun k _ hk => Nat.le_trans hs hk)).base hs)
  clear hb hF HC3 hs
  go_wp2_with fail
  go_ret2
  exact ⟨a, c, rfl, HF.out, HB4.out⟩

end Go.Proofs.YtldgikinmmkhiaaDoor
