/-
  A player's groups, one by one, as groups hands them out. No conditions beyond those that each theorem bears.
-/
import Derived.Test.YtldgikinmmkhiaaDoorGp
import Derived.Test.YtldgikinmmkhiaaDoorFl
namespace Go.Proofs.YtldgikinmmkhiaaDoor
open Go.RowKit Go.Shelf

theorem least_at {P : Nat → Prop} (h : ∃ q, P q) : ∃ q, P q ∧ ∀ r, P r → q ≤ r := by
  obtain ⟨q, hq⟩ := h
  induction q using Nat.strongRecOn with
  | _ q ih =>
    by_cases hm : ∃ r, r < q ∧ P r
    · obtain ⟨r, h1, h2⟩ := hm
      exact ih r h1 h2
    · exact ⟨q, hq, fun r hr => Nat.le_of_not_lt fun h => hm ⟨r, h, hr⟩⟩

/-- The least place of a group of the player's. -/
def ldr (n : Nat) (Z : List Int) (m : Int) (p : Nat) : Prop := sg Z m p ∧ ∀ q, Wk n (sg Z m) p q → p ≤ q

open Classical in
/-- The groups whose least places are among the first ones. -/
noncomputable def grpsU (n : Nat) (Z : List Int) (m : Int) (j : Nat) : List (List Nat) := ((List.range j).filter fun p => decide (ldr n Z m p)).map (grp n Z)
/-- All groups. -/
noncomputable def grps (n : Nat) (Z : List Int) (m : Int) : List (List Nat) := grpsU n Z m (n * n)

theorem grpsU_zero (n : Nat) (Z : List Int) (m : Int) : grpsU n Z m 0 = [] := rfl
theorem grpsU_yes {n : Nat} {Z : List Int} {m : Int} {j : Nat} (h : ldr n Z m j) : grpsU n Z m (j + 1) = grpsU n Z m j ++ [grp n Z j] := by
  unfold grpsU; rw [List.range_succ, List.filter_append, List.map_append]; simp [h]
theorem grpsU_no {n : Nat} {Z : List Int} {m : Int} {j : Nat} (h : ¬ ldr n Z m j) : grpsU n Z m (j + 1) = grpsU n Z m j := by
  unfold grpsU; rw [List.range_succ, List.filter_append, List.map_append]; simp [h]
theorem grpsU_pre {n : Nat} {Z : List Int} {m : Int} {j d : Nat} : ∃ t, grpsU n Z m j ++ t = grpsU n Z m (j + d) := by
  induction d with
  | zero => exact ⟨[], by simp⟩
  | succ d ih =>
    obtain ⟨t, ht⟩ := ih
    by_cases h : ldr n Z m (j + d)
    · exact ⟨t ++ [grp n Z (j + d)], by rw [← List.append_assoc, ht, ← Nat.add_assoc, grpsU_yes h]⟩
    · exact ⟨t, by rw [ht, ← Nat.add_assoc, grpsU_no h]⟩
theorem grpsU_len (n : Nat) (Z : List Int) (m : Int) (j : Nat) : (grpsU n Z m j).length ≤ j := by
  unfold grpsU
  rw [List.length_map]
  exact Nat.le_trans (List.length_filter_le _ _) (by simp)

/-- What has been told. -/
def Tl (n : Nat) (Z : List Int) (m : Int) (j : Nat) (T : List Nat) : Prop := ∀ q, q ∈ T ↔ ∃ p, p < j ∧ ldr n Z m p ∧ Wk n (sg Z m) p q

theorem Tl.zero (n : Nat) (Z : List Int) (m : Int) : Tl n Z m 0 [] := fun q => ⟨(fun h => by cases h), fun ⟨p, h, _⟩ => absurd h (by omega)⟩

theorem Tl.told {n : Nat} {Z : List Int} {m : Int} {j : Nat} {T : List Nat} (h : Tl n Z m j T) (hj : j < n * n) (hs : sg Z m j) : j ∈ T ↔ ¬ ldr n Z m j := by
  rw [h j]
  constructor
  · rintro ⟨p, h1, h2, h3⟩ hl
    have := hl.2 p h3.symm
    omega
  · intro hl
    obtain ⟨p, hp, hmin⟩ := least_at ⟨j, (Wk.refl hj hs : Wk n (sg Z m) j j)⟩
    refine ⟨p, ?_, ⟨hp.right, fun q hq => hmin q (hp.trans hq)⟩, hp.symm⟩
    have := hmin j (.refl hj hs)
    by_cases e : p = j
    · subst e
      exact absurd ⟨hs, hmin⟩ hl
    · omega

theorem Tl.no {n : Nat} {Z : List Int} {m : Int} {j : Nat} {T : List Nat} (h : Tl n Z m j T) (hl : ¬ ldr n Z m j) : Tl n Z m (j + 1) T := by
  intro q
  rw [h q]
  constructor
  · rintro ⟨p, h1, h2⟩; exact ⟨p, by omega, h2⟩
  · rintro ⟨p, h1, h2⟩
    by_cases e : p = j
    · subst e; exact absurd h2.1 hl
    · exact ⟨p, by omega, h2⟩

theorem Tl.yes {n : Nat} {Z : List Int} {m : Int} {j : Nat} {T : List Nat} (h : Tl n Z m j T) (hl : ldr n Z m j) : Tl n Z m (j + 1) (T ++ grp n Z j) := by
  intro q
  have e : Z.getD j 0 = m := hl.1
  rw [List.mem_append, h q, mem_grp, e]
  constructor
  · rintro (⟨p, h1, h2⟩ | h2)
    · exact ⟨p, by omega, h2⟩
    · exact ⟨j, by omega, hl, h2⟩
  · rintro ⟨p, h1, h2⟩
    by_cases e : p = j
    · subst e; exact .inr h2.2
    · exact .inl ⟨p, by omega, h2⟩

/-- What is handed out for a group: a list in memory from lo on. -/
def GgG (lo : Nat) (x : List Nat) (args : Array Value) (W : World) : Prop := ∃ a c, args = #[.slice a x.length c] ∧ Ir (fun k => lo ≤ k) W a x.length c (toI x)

/-- What it has captured, and the table. -/
structure GgR (bb wb n : Nat) (cb co N bc m : Nat) (Z : List Int) (lo : Nat) (W : World) : Prop where
  b : Hb W bb n n (some ⟨cb, co, none⟩) N bc
  w : W.cell? ⟨wb, 0, none⟩ = some (.int .i64 m)
  t : Tab W
  r : Rd W (some ⟨cb, co, none⟩) N bc Z
  s : lo ≤ W.heap.size + 1

def GgT (bb wb cb : Nat) (k : Nat) : Prop := k = 0 ∨ k = bb ∨ k = wb ∨ k = cb

theorem GgR.keeps {bb wb n : Nat} {cb co N bc m : Nat} {Z : List Int} {lo : Nat} {X : Nat → Prop} {W W' : World} (h : GgR bb wb n cb co N bc m Z lo W) (hk : Keeps X W W') (hX : ∀ k, GgT bb wb cb k → ¬ X k) : GgR bb wb n cb co N bc m Z lo W' :=
  ⟨h.b.keeps hk (hX bb (Or.inr (Or.inl rfl))), hk.cell h.w (hX wb (Or.inr (Or.inr (Or.inl rfl)))), h.t.keeps hk (hX 0 (Or.inl rfl)), h.r.keeps hk (fun b off e => by
    simp only [Option.some.injEq, Addr.mk.injEq] at e
    rw [← e.1]
    exact hX cb (Or.inr (Or.inr (Or.inr rfl)))), Nat.le_trans h.s (by have := hk.size; omega)⟩

theorem GgR.lt {bb wb n : Nat} {cb co N bc m : Nat} {Z : List Int} {lo : Nat} {W : World} (h : GgR bb wb n cb co N bc m Z lo W) (hN : 0 < N) : ∀ k, GgT bb wb cb k → k < W.heap.size := by
  rintro k (rfl | rfl | rfl | rfl)
  · exact h.t.lt
  · exact h.b.lt
  · exact World.block_lt_of_cell? W _ h.w
  · exact h.r.blt hN

theorem groups_any (n : Nat) (a : Option Addr) (N c m : Nat) (w : World) : Calls Tryd.prog 26 #[.agg (gdA n n a N c), .int .i64 m] w fun e w' => e = .returned (.func (.func 41) #[] #[.pointer (some ⟨w.heap.size, 0, none⟩), .pointer (some ⟨w.heap.size + 1, 0, none⟩)]) ∧ w' = (w.alloc (.cells (gdA n n a N c) 55)).alloc (.cells #[.int .i64 m] 3) := by
  go_enter Tryd.func26, Tryd.ntmps26
  go_wp2
  go_ret
  exact ⟨rfl, rfl⟩

attribute [local irreducible] mtL grp nbs grpsU
attribute [local go_sem] Oper.semAt_some wide_fn wide_fn0 wide_depth

set_option maxRecDepth 100000 in
set_option maxHeartbeats 16000000 in
theorem groups1_seq (bb wb n : Nat) (cb co N bc m : Nat) (Z : List Int) (lo : Nat) (hn : 1 ≤ n ∧ n ≤ 10) (hN : n * n = N) (hN1 : 1 ≤ N) (hbc : N ≤ bc) :
    SeqQ Tryd.prog 41 #[.pointer (some ⟨bb, 0, none⟩), .pointer (some ⟨wb, 0, none⟩)] (GgG lo) (grps n Z m) (GgR bb wb n cb co N bc m Z lo) (GgT bb wb cb) 1 := by
  intro l X J Jx W hR hX hJ hJx hY h0
  have hN100 : N ≤ 100 := by rw [← hN]; exact Nat.mul_le_mul hn.2 hn.2
  have HLT := hide (hR.lt hN1)
  have HRK : Hid (∀ A B, GgR bb wb n cb co N bc m Z lo A → Keeps X A B → GgR bb wb n cb co N bc m Z lo B) := hide (fun A B hA hk => hA.keeps hk (fun k hk hx => (hX k hx).1 hk))
  have HRO : Hid (∀ A B, GgR bb wb n cb co N bc m Z lo A → Keeps (fun k => k = W.heap.size) A B → GgR bb wb n cb co N bc m Z lo B) := hide (fun A B hA hk => hA.keeps hk (fun k hk e => by have := HLT.out k hk; omega))
  have HRE : Hid (∀ A B, GgR bb wb n cb co N bc m Z lo A → Below A.heap.size A B → GgR bb wb n cb co N bc m Z lo B) := hide (fun A B hA hk => hA.keeps (X := fun _ => False) (Keeps.of_all hk) (fun _ _ h => h))
  have HJK : Hid (∀ s A B, J s A → Keeps (fun k => k = W.heap.size) A B → J s B) := hide (fun s A B hs hk => hJ s A B hs (hk.mono (fun k _ e => by omega)))
  have HJE : Hid (∀ s A B, J s A → Below A.heap.size A B → J s B) := hide (fun s A B hs hk => hJ s A B hs (Keeps.of_all hk))
  have HXO : Hid (¬ X W.heap.size) := hide (fun h => (hX _ h).2 ⟨Nat.le_refl _, by omega⟩)
  have HY := hide hY
  have HGE : Hid (grps n Z m = grpsU n Z m N) := hide (by unfold grps; rw [hN])
  have HNN := hide hN
  have HLO := hide hR.s
  obtain ⟨W0, hW0⟩ : ∃ W0, W.alloc (.cells Tryd.zeroCells72 72) = W0 := ⟨_, rfl⟩
  obtain ⟨s0, z0, B0⟩ := alloc_facts hW0
  have V0 : Vb W0 W.heap.size 72 (mtL []) := by
    have : W0.heap[W.heap.size]? = _ := z0
    rw [mtL_zero] at this
    exact this
  have HV0 := hide V0
  have HR0 := hide (HRE.out _ _ hR B0)
  have HJ0 : Hid (J (grpsU n Z m 0) W0) := hide (by rw [grpsU_zero]; exact HJE.out _ _ _ h0 B0)
  have HS0 : Hid (W.heap.size + 1 ≤ W0.heap.size) := hide (by omega)
  have g2 := HR0.out.b.cells.2.2
  rw [HGE.out] at HY ⊢
  clear hR hY hX h0 hJ hJx HGE z0 B0 V0 s0
  have hZl : Z.length = N := HR0.out.r.len
  refine callsIn_of_wp Tryd.func41 rfl trivial ?_ rfl
  simp only [Tryd.ntmps41, List.size_toArray, List.length_cons, List.length_nil, Nat.reduceAdd, Nat.reduceSub, Array.replicate_succ, Array.replicate_zero, List.push_toArray, List.append_toArray, List.nil_append, List.cons_append]
  refine wpIn_wide.2 ?_
  go_upto_region 1 with fail
  clear hW0
  go_wp2_with fail
  clear g2
  go_loopw [14] (fun v wr => ∃ (j : Nat) (T : List Nat), v = .int .i64 j ∧ j ≤ N ∧ Hid (Tl n Z m j T) ∧ Hid (Vb wr W.heap.size 72 (mtL T)) ∧ Hid (J (grpsU n Z m j) wr) ∧ Hid (GgR bb wb n cb co N bc m Z lo wr) ∧ Hid (W.heap.size + 1 ≤ wr.heap.size)) (fun v _ => N - (intOf v).toNat)
  case atStart => exact ⟨0, [], rfl, by omega, hide (Tl.zero n Z m), HV0, HJ0, HR0, HS0⟩
  case round =>
    obtain ⟨j, T, rfl, hjN, hTl, hV, hJr, hRr, hSr⟩ := hrel
    clear HJ0 HR0 HV0 HS0
    by_cases hj : j < N
    · have hj' : (j : Int) < (N : Int) := by omega
      have hj100 : (j : Int) < 100 := by omega
      have cz := (hRr.out.r.cell hj).2
      have cw := hRr.out.w
      have ct := hV.out.cell (mtL_at (G := T) (show j < 100 by omega))
      obtain ⟨z, hz⟩ : ∃ z, Z.getD j 0 = z := ⟨_, rfl⟩
      rw [hz] at cz
      have HZ := hide hz
      clear hz
      by_cases hzm : z = (m : Int)
      · have hne : (z != (m : Int)) = false := by simp [hzm]
        have HSG : Hid (sg Z m j) := hide (by unfold sg; rw [HZ.out]; exact hzm)
        have HTD := hide (hTl.out.told (by rw [HNN.out]; exact hj) HSG.out)
        by_cases htd : j ∈ T
        · rw [decide_eq_true htd] at ct
          have HNO := hide (HTD.out.1 htd)
          clear hzm HTD htd
          go_wp2_with fail
          exact ⟨⟨j + 1, T, rfl, by omega, hide (hTl.out.no HNO.out), hV, hide (by rw [grpsU_no HNO.out]; exact hJr.out), hRr, hSr⟩, by simp only [intOf]; omega⟩
        · rw [decide_eq_false htd] at ct
          have HYE : Hid (ldr n Z m j) := hide (Classical.not_not.1 (fun h => htd (HTD.out.2 h)))
          have HC := hide (group_any n N bc j (some ⟨cb, co, none⟩) Z wr hn HNN.out hj hRr.out.t hRr.out.r)
          have hb := hRr.out.b
          have HGY := hide (grpsU_yes HYE.out)
          have HTY := hide (hTl.out.yes HYE.out)
          have HGM : Hid (∀ x ∈ grp n Z j, x < N) := hide (fun x hx => by rw [← HNN.out]; exact (mem_grp.1 hx).lt)
          have HGL : Hid ((grp n Z j).length ≤ 100) := hide (by
            have := pls_len n (Wk n (sg Z (Z.getD j 0)) j)
            have h2 : (grp n Z j).length ≤ n * n := by rw [grp]; exact this
            have := HNN.out
            omega)
          have HPF : Hid (grpsU n Z m j ++ [grp n Z j] <+: grpsU n Z m N) := hide (by
            rw [← HGY.out]
            obtain ⟨t, ht⟩ := grpsU_pre (n := n) (Z := Z) (m := m) (j := j + 1) (d := N - (j + 1))
            rw [show j + 1 + (N - (j + 1)) = N by omega] at ht
            exact ⟨t, ht⟩)
          obtain ⟨L, hL⟩ : ∃ L, grp n Z j = L := ⟨_, rfl⟩
          rw [hL] at HC HGY HTY HGM HGL HPF
          obtain ⟨gl, hgl⟩ : ∃ gl, L.length = gl := ⟨_, rfl⟩
          rw [hgl] at HC HGL
          have hglb : gl ≤ 100 := HGL.out
          have HGLE := hide hgl
          clear hzm HTD htd hL hgl
          go_wp2_with (first | (refine wpList_load_hb rfl (.tmp 1) rfl bb rfl hb ?_) | fail)
          refine HC.out.mono ?_
          rintro e W2 ⟨ga, gc, rfl, hO, hB2⟩
          have HR2 := hide (HRE.out _ _ hRr.out hB2)
          have HJ2 := hide (HJE.out _ _ _ hJr.out hB2)
          have HV2 := hide (hV.out.mono hB2)
          have HS2 : Hid (W.heap.size + 1 ≤ W2.heap.size) := hide (Nat.le_trans hSr.out hB2.size)
          have HI2 : Hid (Ir (fun k => W.heap.size + 1 ≤ k) W2 ga gl gc (toI L)) := hide (Ir.of_own hO (fun k h1 h2 => Nat.le_trans hSr.out h1))
          clear HC hb cz cw ct hO hB2 hV hJr hRr hSr
          have hcap := HI2.out.rd.cap
          have hmax : gc ≤ 9223372036854775807 := by have := HI2.out.rd.max; unfold maxLen at this; omega
          go_wp2_with fail
          go_loopw [32] (fun v wr => ∃ i : Nat, v = .int .i64 i ∧ i ≤ gl ∧ Hid (Vb wr W.heap.size 72 (mtL (T ++ L.take i))) ∧ Hid (Keeps (fun k => k = W.heap.size) W2 wr)) (fun v _ => gl - (intOf v).toNat)
          case atStart => exact ⟨0, rfl, by omega, hide (by rw [List.take_zero, List.append_nil]; exact HV2.out), hide (Keeps.refl _ _)⟩
          case round =>
            obtain ⟨i, rfl, hil, hVq, hKq⟩ := hrel
            by_cases hi : i < gl
            · have hi' : (i : Int) < (gl : Int) := by omega
              have hIq := HI2.out.keeps hKq.out (fun k hk e => by omega)
              obtain ⟨gb, go, rfl, hcell⟩ := hIq.rd.cells (by omega)
              have hci := hcell i hi
              rw [toI_getD (by rw [HGLE.out]; exact hi)] at hci
              have hx : L.getD i 0 < N := HGM.out _ (getD_memN (by rw [HGLE.out]; exact hi))
              have HTK : Hid (L.take (i + 1) = L.take i ++ [L.getD i 0]) := hide (by
                have hh : i < L.length := by rw [HGLE.out]; exact hi
                rw [List.take_succ_eq_append_getElem hh]
                simp [List.getD, hh])
              obtain ⟨x, hxx⟩ : ∃ x, L.getD i 0 = x := ⟨_, rfl⟩
              rw [hxx] at hci hx HTK
              have hx100 : (x : Int) < 100 := by omega
              have cm := hVq.out.cell (mtL_at (G := T ++ L.take i) (show x < 100 by omega))
              have fm := hVq.out.frozen x
              have HV3 : Hid (Vb (wr.setCell ⟨W.heap.size, x, none⟩ (.bool true)) W.heap.size 72 (mtL (T ++ L.take (i + 1)))) := hide (by
                have := hVq.out.set x (.bool true)
                rw [mtL_set] at this
                rw [HTK.out, ← List.append_assoc]
                exact this)
              have HK3 : Hid (Keeps (fun k => k = W.heap.size) W2 (wr.setCell ⟨W.heap.size, x, none⟩ (.bool true))) := hide (hKq.out.trans (Keeps.set1 _ _ _ _))
              clear hcell hIq hxx hVq hKq
              go_wp2_with fail
              exact ⟨⟨i + 1, rfl, by omega, HV3, HK3⟩, by simp only [intOf]; omega⟩
            · obtain rfl : i = gl := by omega
              have HV4 : Hid (Vb wr W.heap.size 72 (mtL (T ++ L))) := hide (by
                have := hVq.out
                rw [List.take_of_length_le (by rw [HGLE.out]; exact Nat.le_refl _)] at this
                exact this)
              have HR4 := hide (HRO.out _ _ HR2.out hKq.out)
              have HJ4 := hide (HJK.out _ _ _ HJ2.out hKq.out)
              have HS4 : Hid (W.heap.size + 1 ≤ wr.heap.size) := hide (Nat.le_trans HS2.out hKq.out.size)
              have HI4 : Hid (Ir (fun k => lo ≤ k) wr ga i gc (toI L)) := hide ((HI2.out.keeps hKq.out (fun k hk e => by omega)).wide (fun k _ hk => Nat.le_trans HLO.out hk))
              obtain ⟨fn, tmps, assign, body, hy, hRR⟩ := YieldAt.anyD (m' := 0) (HY.out (grpsU n Z m j) L #[.slice ga i gc] wr HJ4.out HPF.out ⟨ga, gc, by rw [HGLE.out], by rw [HGLE.out]; exact HI4.out⟩ HS4.out)
              clear hVq hKq HV2 HR2 HJ2 HS2 HI2 HI4 HJ4
              go_upto_region 11 with fail
              refine (wpIn_wide (n := 1)).1 ?_
              gi_wp2
              refine hRR.mono ?_
              rintro e W5 ⟨h5, hk5⟩
              have HR5 := hide (HRK.out _ _ HR4.out hk5)
              have HV5 := hide (HV4.out.keeps hk5 HXO.out)
              have HS5 : Hid (W.heap.size + 1 ≤ W5.heap.size) := hide (Nat.le_trans HS4.out hk5.size)
              clear hy hRR hk5 HR4 HV4 HS4
              rcases h5 with ⟨rfl, hJ5⟩ | ⟨rfl, hJ5⟩
              · have HJ5 : Hid (J (grpsU n Z m (j + 1)) W5) := hide (by rw [HGY.out]; exact hJ5)
                clear hJ5
                gi_wp2
                go_wp2_with fail
                exact ⟨⟨j + 1, T ++ L, rfl, by omega, HTY, HV5, HJ5, HR5, HS5⟩, by simp only [intOf]; omega⟩
              · have HJ5 := hide hJ5
                clear hJ5
                gi_wp2
                go_wp2_with fail
                refine bodyPost_ret (results_none rfl _ _ _) rfl ?_
                exact ⟨⟨_, rfl⟩, HR5.out, .inr HJ5.out⟩
      · have hne : (z != (m : Int)) = true := by simpa using hzm
        have HNO : Hid (¬ ldr n Z m j) := hide (fun h => hzm (by have := h.1; unfold sg at this; rw [HZ.out] at this; exact this))
        clear hzm
        go_wp2_with fail
        exact ⟨⟨j + 1, T, rfl, by omega, hide (hTl.out.no HNO.out), hV, hide (by rw [grpsU_no HNO.out]; exact hJr.out), hRr, hSr⟩, by simp only [intOf]; omega⟩
    · obtain rfl : j = N := by omega
      go_wp2_with fail
      refine bodyPost_end (results_none rfl _ _ _) rfl ?_
      exact ⟨⟨_, rfl⟩, hRr.out, .inl hJr.out⟩

end Go.Proofs.YtldgikinmmkhiaaDoor
