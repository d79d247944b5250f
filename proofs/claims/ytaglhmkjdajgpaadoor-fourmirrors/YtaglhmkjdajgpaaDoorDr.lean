/-
  The drops of a well: each column that is not full, and whether a sign makes a row there; the sign lies there until the next is asked for. No conditions beyond those that each theorem bears.
-/
import Derived.Test.YtaglhmkjdajgpaaDoorHi
namespace Go.Proofs.YtaglhmkjdajgpaaDoor
open Go.RowKit Go.Shelf

/-- The drops into the first j columns: column and place. -/
def drK (W H : Nat) (Z : List Int) (j : Nat) : List (Nat × Nat) := (List.range j).filterMap fun c => (fallN W Z c H).map fun p => (c, p)

theorem drK_zero (W H : Nat) (Z : List Int) : drK W H Z 0 = [] := rfl
theorem drK_none {W H j : Nat} {Z : List Int} (h : fallN W Z j H = none) : drK W H Z (j + 1) = drK W H Z j := by
  unfold drK; rw [List.range_succ, List.filterMap_append]; simp [h]
theorem drK_some {W H j p : Nat} {Z : List Int} (h : fallN W Z j H = some p) : drK W H Z (j + 1) = drK W H Z j ++ [(j, p)] := by
  unfold drK; rw [List.range_succ, List.filterMap_append]; simp [h]
theorem drK_pre {W H : Nat} {Z : List Int} {i j : Nat} (h : i ≤ j) : drK W H Z i <+: drK W H Z j := by
  induction j with
  | zero => obtain rfl : i = 0 := by omega
            exact List.prefix_refl _
  | succ j ih =>
    by_cases e : i = j + 1
    · subst e; exact List.prefix_refl _
    · refine (ih (by omega)).trans ?_
      cases hf : fallN W Z j H with
      | none => rw [drK_none hf]; exact List.prefix_refl _
      | some p => rw [drK_some hf]; exact List.prefix_append _ _

/-- What the function has captured, and the well, its board being Z. -/
structure DrR (g : Wp) (bw bm m : Nat) (Z : List Int) (W : World) : Prop where
  s : WS g W Z
  bw : W.cell? ⟨bw, 0, none⟩ = some (.pointer (some ⟨g.wb, 0, none⟩))
  bm : W.cell? ⟨bm, 0, none⟩ = some (.int .i64 (m : Nat))

def DrT (g : Wp) (bw bm : Nat) (k : Nat) : Prop := k = g.wb ∨ k = g.cb ∨ k = 0 ∨ k = bw ∨ k = bm

theorem DrR.keeps {g : Wp} {bw bm m : Nat} {Z : List Int} {A B : World} {X : Nat → Prop} (h : DrR g bw bm m Z A) (hk : Keeps X A B) (hX : ∀ k, X k → ¬ DrT g bw bm k) : DrR g bw bm m Z B :=
  ⟨h.s.keeps hk (fun e => hX _ e (Or.inl rfl)) (fun e => hX _ e (Or.inr (Or.inl rfl))) (fun e => hX _ e (Or.inr (Or.inr (Or.inl rfl)))), hk.cell h.bw (fun e => hX _ e (Or.inr (Or.inr (Or.inr (Or.inl rfl))))), hk.cell h.bm (fun e => hX _ e (Or.inr (Or.inr (Or.inr (Or.inr rfl)))))⟩

theorem DrR.grow {g : Wp} {bw bm m : Nat} {Z : List Int} {A B : World} (h : DrR g bw bm m Z A) (hk : Below A.heap.size A B) : DrR g bw bm m Z B :=
  h.keeps (X := fun _ => False) (Keeps.of_all hk) (fun _ e => e.elim)

theorem DrR.set {g : Wp} (hg : g.Ok) {bw bm m : Nat} (h1 : bw ≠ g.cb) (h2 : bm ≠ g.cb) {Z : List Int} {A : World} (h : DrR g bw bm m Z A) (p : Nat) (x : Int) : DrR g bw bm m (Z.set p x) (A.setCell ⟨g.cb, p, none⟩ (.int .i64 x)) :=
  ⟨h.s.set hg p x, (Keeps.set1 A g.cb p (.int .i64 x)).cell h.bw h1, (Keeps.set1 A g.cb p (.int .i64 x)).cell h.bm h2⟩

/-- What is handed out. -/
def DrG (g : Wp) (m : Nat) (Z : List Int) (x : Nat × Nat) (args : Array Value) (W : World) : Prop :=
  args = #[.int .i64 (x.1 : Nat), .bool (inR g.W g.H (Z.set x.2 (m : Int)) x.2 g.k)] ∧ WS g W (Z.set x.2 (m : Int))

attribute [local irreducible] drK inR fallN
attribute [local go_sem] Oper.semAt_some

set_option maxRecDepth 100000 in
set_option maxHeartbeats 4000000 in
theorem drops1_seq (g : Wp) (hg : g.Ok) (bw bm m : Nat) (hbw : bw ≠ g.cb) (hbm : bm ≠ g.cb) (Z : List Int) (ob : Option Obj) :
    SeqSt Tryd.prog 49 #[.pointer (some ⟨bw, 0, none⟩), .pointer (some ⟨bm, 0, none⟩)] (DrG g m Z) (drK g.W g.H Z g.W) (fun W => DrR g bw bm m Z W ∧ W.heap[g.cb]? = ob) (DrT g bw bm) (fun k => k = g.cb) := by
  intro l X J Jx W hR hXT hJ hJx hY h0
  have hn := hg.n100
  have hW := hg.w
  have hH := hg.h
  have hcap := hR.1.s.cap
  have hcm := hcap.2.1
  unfold maxLen at hcm
  have hcn := hcap.1
  have HR := hide hR
  have HJ := hide hJ
  have HJX := hide hJx
  have HY := hide hY
  have HX := hide hXT
  have HJ0 := hide h0
  have HG := hide hg
  have HL := hide (fun c hc W h => lowest_any g hg Z c hc W h)
  have HIN := hide (fun p (hp : p < g.n) W1 (h : WS g W1 (Z.set p (m : Int))) => inRow_any g.W g.H (some ⟨g.cb, 0, none⟩) g.n g.cc p g.k (Z.set p (m : Int)) hg.w hg.h hg.n hp (by have := hg.k; omega) W1 h.t h.rd)
  have HCN : Hid (∀ {j p : Nat}, j < g.W → fallN g.W Z j g.H = some p → p < g.n ∧ Z.getD p 0 = 0) := hide (fun hj h => by have := fallN_lt hj _ _ h; rw [hg.n] at this; exact ⟨this.1, this.2.1⟩)
  obtain ⟨f0, f1, f2, f3⟩ := hR.1.s.fields
  have cw := hR.1.bw
  clear hR hJ hJx hY hXT h0 hg hcap
  refine callsIn_of_wp Tryd.func49 rfl trivial ?_ rfl
  simp only [Tryd.ntmps49, List.size_toArray, List.length_cons, List.length_nil, Nat.reduceAdd, Nat.reduceSub, Array.replicate_succ, Array.replicate_zero, List.push_toArray, List.append_toArray, List.nil_append, List.cons_append]
  refine wpIn_wide.2 ?_
  go_wp2_with fail
  clear f0 f1 f2 f3 cw
  go_loopw [12] (fun v wr => ∃ j : Nat, v = .int .i64 j ∧ j ≤ g.W ∧ Hid (J (drK g.W g.H Z j) wr) ∧ Hid (DrR g bw bm m Z wr ∧ wr.heap[g.cb]? = ob) ∧ Hid (W.heap.size ≤ wr.heap.size)) (fun v _ => g.W - (intOf v).toNat)
  case atStart => exact ⟨0, rfl, by omega, hide (by rw [drK_zero]; exact HJ0.out), HR, hide (Nat.le_refl _)⟩
  case round =>
    obtain ⟨j, rfl, hjW, hJr, hRr, hSz⟩ := hrel
    clear HJ0 HR
    by_cases hlt : j < g.W
    · have hlt' : (j : Int) < (g.W : Int) := by omega
      have cw := hRr.out.1.bw
      cases hf : fallN g.W Z j g.H with
      | none =>
        have HK := hide (drK_none hf)
        have HLL := hide (HL.out j hlt wr hRr.out.1.s)
        rw [hf] at HLL
        clear hf
        go_wp2_with fail
        refine HLL.out.mono ?_
        rintro e w2 ⟨rfl, hb2⟩
        have HB2 := hide hb2
        clear hb2 cw HLL
        go_wp2_with fail
        refine ⟨⟨j + 1, by go_num, by omega, hide ?_, hide ⟨hRr.out.1.grow HB2.out, (HB2.out.block _ hRr.out.1.s.lt.2).trans hRr.out.2⟩, hide ?_⟩, by simp [intOf]; omega⟩
        · rw [HK.out]; exact HJ.out _ _ _ hJr.out (Keeps.of_all HB2.out)
        · exact Nat.le_trans hSz.out HB2.out.size
      | some p =>
        have HK := hide (drK_some hf)
        obtain ⟨hpn, hp0⟩ := HCN.out hlt hf
        have HLL := hide (HL.out j hlt wr hRr.out.1.s)
        rw [hf] at HLL
        have hpp : Hid ((drK g.W g.H Z j ++ [(j, p)]) <+: drK g.W g.H Z g.W) := hide (by rw [← drK_some hf]; exact drK_pre (by omega))
        clear hf
        go_wp2_with fail
        refine HLL.out.mono ?_
        rintro e w2 ⟨rfl, hb2⟩
        have HB2 := hide hb2
        have HR2 : Hid (DrR g bw bm m Z w2 ∧ w2.heap[g.cb]? = ob) := hide ⟨hRr.out.1.grow hb2, (hb2.block _ hRr.out.1.s.lt.2).trans hRr.out.2⟩
        have HJ2 := hide (HJ.out _ _ _ hJr.out (Keeps.of_all hb2))
        have HS2 := hide (Nat.le_trans hSz.out hb2.size)
        clear hb2 cw HLL hJr hRr hSz HB2
        rw [show fallI (some p) = (p : Int) from rfl]
        have hpne : ((p : Int) == -1) = false := by simp
        go_upto_region 5 with fail
        obtain ⟨f0, f1, f2, f3⟩ := HR2.out.1.s.fields
        have cw := HR2.out.1.bw
        have cm := HR2.out.1.bm
        obtain ⟨cp, fp⟩ := HR2.out.1.s.cell hpn
        obtain ⟨W1, hW1⟩ : ∃ W1, w2.drew.setCell ⟨g.cb, p, none⟩ (.int .i64 (m : Int)) = W1 := ⟨_, rfl⟩
        have HD1 : Hid (DrR g bw bm m (Z.set p (m : Int)) W1) := hide (by rw [← hW1]; exact (HR2.out.1.grow (Below.refl _ _).drew).set HG.out hbw hbm p m)
        have HG1 := hide HD1.out.s
        have HK1 : Hid (Keeps (fun k => k = g.cb) w2 W1) := hide (by rw [← hW1]; exact (Keeps.refl _ w2).drew.setCell (X := fun k => k = g.cb) rfl _)
        have HW1 : Hid (W1 = w2.drew.setCell ⟨g.cb, p, none⟩ (.int .i64 (m : Int))) := hide hW1.symm
        have HSB := hide (set_back (x := (m : Int)) (show p < Z.length by have := HR2.out.1.s.cap.2.2; omega) hp0)
        go_region
        clear hW1 f0 f1 f2 f3 cw cm cp fp
        go_upto_region 6 with fail
        refine (wpIn_wide (n := 1)).1 ?_
        refine AnyS.region (S := fun W4 => DrR g bw bm m (Z.set p (m : Int)) W4) (by kernel_rfl) ?_
        change AnyS _ _ _ _ _ _ _ _ _ (World.drew _)
        have SW : DrR g bw bm m (Z.set p (m : Int)) W1.drew := HD1.out.grow (Below.refl _ W1).drew
        refine AnyS.take (i := 0) (v := .func (.yield l) #[] #[]) rfl (by kernel_rfl) (by kernel_rfl) (by kernel_rfl) (fun _ _ _ h => h) (Or.inl ⟨by rfl, ?_⟩) SW ?_
        · intro W4 hW4
          go_simp <;> first | done | rfl | (rw [IntKind.wrap_i64]; omega) | omega
        go_simp
        refine AnyS.take (i := 1) (v := .int .i64 j) rfl (by kernel_rfl) (by kernel_rfl) (by kernel_rfl) (fun _ _ _ h => h) (Or.inl ⟨by rfl, ?_⟩) SW ?_
        · intro W4 hW4
          go_simp <;> first | done | rfl | (rw [IntKind.wrap_i64]; omega) | omega
        go_simp
        refine AnyS.take (i := 2) (v := .pointer (some ⟨g.wb, 0, none⟩)) rfl (by kernel_rfl) (by kernel_rfl) (by kernel_rfl) (fun _ _ _ h => h) (Or.inl ⟨by rfl, ?_⟩) SW ?_
        · intro W4 hW4
          have cw := hW4.bw
          go_simp <;> first | done | rfl | (rw [IntKind.wrap_i64]; omega) | omega
        go_simp
        refine AnyS.take (i := 3) (v := .pointer (some ⟨g.wb, 0, none⟩)) rfl (by kernel_rfl) (by kernel_rfl) (by kernel_rfl) (fun _ _ _ h => h) (Or.inl ⟨by rfl, ?_⟩) SW ?_
        · intro W4 hW4
          go_simp <;> first | done | rfl | (rw [IntKind.wrap_i64]; omega) | omega
        go_simp
        refine AnyS.take (i := 4) (v := .pointer (some ⟨g.wb, 0, none⟩)) rfl (by kernel_rfl) (by kernel_rfl) (by kernel_rfl) (fun _ _ _ h => h) (Or.inl ⟨by rfl, ?_⟩) SW ?_
        · intro W4 hW4
          go_simp <;> first | done | rfl | (rw [IntKind.wrap_i64]; omega) | omega
        go_simp
        refine AnyS.take (i := 5) (v := .agg (gdA g.W g.H (some ⟨g.cb, 0, none⟩) g.n g.cc)) rfl (by kernel_rfl) (by kernel_rfl) (by kernel_rfl) (fun _ _ _ h => h) (yieldsIf_load_mid (by rfl) 24 _ rfl g.wb 0 (by rfl) [.int .i64 g.W, .int .i64 g.H, .slice (some ⟨g.cb, 0, none⟩) g.n g.cc] _ (fun W hW => hW.s.range) Tryd.underlying24 rfl size24) SW ?_
        go_simp
        refine AnyS.take (i := 6) (v := .int .i64 p) rfl (by kernel_rfl) (by kernel_rfl) (by kernel_rfl) (fun _ _ _ h => h) (Or.inl ⟨by rfl, ?_⟩) SW ?_
        · intro W4 hW4
          go_simp <;> first | done | rfl | (rw [IntKind.wrap_i64]; omega) | omega
        go_simp
        refine AnyS.take (i := 7) (v := .pointer (some ⟨g.wb, 0, none⟩)) rfl (by kernel_rfl) (by kernel_rfl) (by kernel_rfl) (fun _ _ _ h => h) (Or.inl ⟨by rfl, ?_⟩) SW ?_
        · intro W4 hW4
          have cw := hW4.bw
          go_simp <;> first | done | rfl | (rw [IntKind.wrap_i64]; omega) | omega
        go_simp
        refine AnyS.take (i := 8) (v := .pointer (some ⟨g.wb, 0, none⟩)) rfl (by kernel_rfl) (by kernel_rfl) (by kernel_rfl) (fun _ _ _ h => h) (Or.inl ⟨by rfl, ?_⟩) SW ?_
        · intro W4 hW4
          go_simp <;> first | done | rfl | (rw [IntKind.wrap_i64]; omega) | omega
        go_simp
        refine AnyS.take (i := 9) (v := .pointer (some ⟨g.wb, 3, none⟩)) rfl (by kernel_rfl) (by kernel_rfl) (by kernel_rfl) (fun _ _ _ h => h) (Or.inl ⟨by rfl, ?_⟩) SW ?_
        · intro W4 hW4
          go_simp <;> first | done | rfl | (rw [IntKind.wrap_i64]; omega) | omega
        go_simp
        refine AnyS.take (i := 10) (v := .int .i64 (g.k : Nat)) rfl (by kernel_rfl) (by kernel_rfl) (by kernel_rfl) (fun _ _ _ h => h) (Or.inl ⟨by rfl, ?_⟩) SW ?_
        · intro W4 hW4
          obtain ⟨f0, f1, f2, f3⟩ := hW4.s.fields
          go_simp <;> first | done | rfl | (rw [IntKind.wrap_i64]; omega) | omega
        go_simp
        refine AnyS.one (i := 11) (by kernel_rfl) rfl (by rfl) ?_
        intro K1 hK1
        refine AnyS.plain ?_
        go_simp
        refine (HIN.out p hpn _ SW.s).mono ?_
        rintro e w5 ⟨rfl, hb5⟩
        have HB5 : Hid (Below W1.heap.size W1 w5) := hide ((Below.refl _ W1).drew.trans hb5)
        refine hK1.out _ _ (SW.grow hb5) (fun SW => ?_)
        clear hK1 K1 hb5
        go_simp
        refine AnyS.one (i := 12) (by kernel_rfl) rfl (by rfl) ?_
        intro K1 hK1
        refine AnyS.yields rfl rfl rfl rfl (HY.out _ (j, p) _ w5 (HJ.out _ _ _ HJ2.out ((HK1.out.mono (fun _ _ e => Or.inl e)).trans (Keeps.of_all HB5.out))) hpp.out ⟨rfl, SW.s⟩) ?_
        rintro e w6 ⟨hcase, hk6⟩
        have hD6 : DrR g bw bm m (Z.set p (m : Int)) w6 := SW.keeps hk6 HX.out
        have HBK : Hid ((w6.setCell ⟨g.cb, p, none⟩ (.int .i64 0)).heap[g.cb]? = w2.heap[g.cb]?) := hide (HR2.out.1.s.back hpn hp0 (m : Int) (by
          rw [hk6.block _ SW.s.lt.2 (fun e => HX.out _ e (Or.inr (Or.inl rfl))), HB5.out.block _ HG1.out.lt.2, HW1.out]
          rfl))
        have HSZ : Hid (W.heap.size ≤ w6.heap.size) := hide (Nat.le_trans HS2.out (Nat.le_trans HK1.out.size (Nat.le_trans HB5.out.size hk6.size)))
        rcases hcase with ⟨rfl, hJ6⟩ | ⟨rfl, hJ6⟩
        · refine ⟨_, rfl, hK1.out _ _ hD6 (fun SW => ?_)⟩
          clear hK1 K1
          go_simp
          refine AnyS.take (i := 13) (v := .bool true) rfl (by kernel_rfl) (by kernel_rfl) (by kernel_rfl) (fun _ _ _ h => h) (Or.inl ⟨by rfl, ?_⟩) SW ?_
          · intro W4 hW4
            go_simp <;> first | done | rfl | (rw [IntKind.wrap_i64]; omega) | omega
          go_simp
          refine AnyS.done (by kernel_rfl) ?_ _
          have HJ6 := hide hJ6
          have HD6 := hide hD6
          have HD7 : Hid (DrR g bw bm m Z (w6.setCell ⟨g.cb, p, none⟩ (.int .i64 0))) := hide (by have := hD6.set HG.out hbw hbm p 0; rwa [HSB.out] at this)
          clear hJ6 hD6 SW hk6
          obtain ⟨f0, f1, f2, f3⟩ := HD6.out.s.fields
          have cw := HD6.out.bw
          obtain ⟨cp, fp⟩ := HD6.out.s.cell hpn
          go_wp2_with fail
          refine ⟨⟨j + 1, by go_num, by omega, hide ?_, hide ⟨HD7.out, HBK.out.trans HR2.out.2⟩, hide ?_⟩, by simp [intOf]; omega⟩
          · rw [HK.out]; exact HJ.out _ _ _ HJ6.out ((Keeps.set1 w6 g.cb p (.int .i64 0)).mono (fun _ _ e => Or.inl e))
          · simp only [World.size_setCell]; exact HSZ.out
        · refine ⟨_, rfl, hK1.out _ _ hD6 (fun SW => ?_)⟩
          clear hK1 K1
          go_simp
          refine AnyS.take (i := 13) (v := .bool false) rfl (by kernel_rfl) (by kernel_rfl) (by kernel_rfl) (fun _ _ _ h => h) (Or.inl ⟨by rfl, ?_⟩) SW ?_
          · intro W4 hW4
            go_simp <;> first | done | rfl | (rw [IntKind.wrap_i64]; omega) | omega
          go_simp
          refine AnyS.done (by kernel_rfl) ?_ _
          have HJ6 := hide hJ6
          have HD6 := hide hD6
          have HD7 : Hid (DrR g bw bm m Z (w6.setCell ⟨g.cb, p, none⟩ (.int .i64 0))) := hide (by have := hD6.set HG.out hbw hbm p 0; rwa [HSB.out] at this)
          clear hJ6 hD6 SW hk6
          obtain ⟨f0, f1, f2, f3⟩ := HD6.out.s.fields
          have cw := HD6.out.bw
          obtain ⟨cp, fp⟩ := HD6.out.s.cell hpn
          go_wp2_with fail
          refine bodyPost_ret (results_none rfl _ _ _) rfl ?_
          exact ⟨⟨_, rfl⟩, ⟨HD7.out, HBK.out.trans HR2.out.2⟩, .inr (HJX.out _ _ HJ6.out ((Keeps.set1 w6 g.cb p (.int .i64 0)).mono (fun _ _ e => Or.inl e)))⟩
    · have hlt' : ¬ (j : Int) < (g.W : Int) := by omega
      have hje : j = g.W := by omega
      have HJe : Hid (J (drK g.W g.H Z g.W) wr) := hide (hje ▸ hJr.out)
      clear hje hJr
      go_wp2_with fail
      refine bodyPost_end (results_none rfl _ _ _) rfl ?_
      exact ⟨⟨_, rfl⟩, hRr.out, .inl HJe.out⟩

end Go.Proofs.YtaglhmkjdajgpaaDoor
