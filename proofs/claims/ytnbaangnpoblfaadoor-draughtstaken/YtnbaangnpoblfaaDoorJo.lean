/-
  Ways that jump on as long as they can, walked: what jumpOn hands out. No conditions beyond those that each theorem bears.
-/
import Derived.Test.YtnbaangnpoblfaaDoorJm
import Derived.Test.YtnbaangnpoblfaaDoorJp
import Derived.Test.YtnbaangnpoblfaaDoorEo
namespace Go.Proofs.YtnbaangnpoblfaaDoor
open Go.RowKit Go.Shelf

/-- What is handed out for a way. -/
def WyG (x : Wy) (args : Array Value) (_ : World) : Prop := args = #[.agg (wyL x.1 x.2).toArray]

theorem rowsIn_wide0 {n : Nat} {P : Program} {row : String} {args : Array Value} {w : World} {R : Value → World → Prop} (h : Rows P row args w R) : RowsIn Fence.wide n P row args w R := fun c cs _ => by
  obtain ⟨v, w', r, s⟩ := h c cs
  exact ⟨v, w', r, stepsIn_wide.2 s⟩

theorem oper_wide0 {n : Nat} {P : Program} {o : Oper} {a : Act} {w : World} {K : Act → World → Prop} {Q : Exit → Act → World → Prop} (hd : ∀ c, o.op ≠ .defer c) (h : o.wp P a w K Q) : o.wpIn Fence.wide n P a w K Q := by
  refine ⟨fun _ _ => trivial, ?_⟩
  rw [Oper.semAt_eq _ _ _ hd]
  unfold Oper.wp at h
  generalize (execOp a.eval o).run P w = r at *
  cases r with
  | ok x w' =>
    cases x <;> simp only [Oper.upon, Oper.uponIn] at h ⊢
    case value u => exact h
    case skip => exact h
    case defer d => exact h
    case enter f args => exact ⟨(fun e => by cases e), callsIn_wide.2 h⟩
    case row row args => exact ⟨(fun e => by cases e), rowsIn_wide0 h⟩
  | halt x w' =>
    cases x <;> simp only [Oper.upon, Oper.uponIn] at h ⊢
    case panic u => exact h

theorem wpListIn_load_wy {n : Nat} {ops : Array Oper} {rest : List Oper} {op : Oper} {a : Act} {w : World} {Q : Exit → Act → World → Prop} (hw : Region.wanted op (yielded ops a.tmps) = true) (x : Operand) (ho : op.op = .load 65 x)
    (g : Nat) (hx : a.eval x = .pointer (some ⟨g, 0, none⟩)) {W : List Nat} {ov : Nat} (hW : W.length ≤ 13) (hc : Vb w g 65 (wyL W ov))
    (h : wpListIn Fence.wide n Tryd.prog ops Q rest (a.put op.dst (.agg (wyL W ov).toArray)) w) : wpListIn Fence.wide n Tryd.prog ops Q (op :: rest) a w :=
  wpListIn_step fun K hK => by
    simp only [hw, if_true]
    exact oper_wide0 (fun c e => by rw [ho] at e; cases e) (wp_load_row 65 x ho g hx 65 _ (0, 0) _ hc Tryd.underlying65 rfl (by rw [List.size_toArray, wyL_len hW]; exact size65) (hK _ _ h))

/-- Owned blocks, carried. -/
theorem Keeps.chain {O0 O : Nat → Prop} {A B C : World} (h : Keeps O0 A B) (k : Keeps O B C) (hm : ∀ i, i < A.heap.size → O i → O0 i) : Keeps O0 A C :=
  ⟨k.os.trans h.os, k.tape.trans h.tape, k.output.trans h.output, Nat.le_trans h.size k.size, fun i hi hx => (k.block i (Nat.lt_of_lt_of_le hi h.size) (fun e => hx (hm i hi e))).trans (h.block i hi hx)⟩

theorem size65w {W : List Nat} {ov : Nat} (hW : W.length ≤ 13) : (Tryd.prog.info? 65).map (·.size) = some (wyL W ov).length := by rw [wyL_len hW]; exact size65

/-- What jumpOn does. -/
def JOn (b : Bm) (f : Nat) (W : List Nat) (ov : Nat) : Prop :=
  ∀ (l : Nat) (J : (Nat → Prop) → List Wy → World → Prop) (Jx : (Nat → Prop) → World → Prop) (N0 : Nat) (T : Nat → Prop) (w : World) (O0 : Nat → Prop) (pre xs : List Wy), DTab w → T 0 → N0 ≤ w.heap.size → Cons J Jx N0 T → Rnd Tryd.prog l J Jx N0 WyG xs →
    (pre ++ jmp b f W ov) <+: xs → J O0 pre w →
    Calls Tryd.prog 63 #[.agg (bdL b).toArray, .agg (wyL W ov).toArray, .func (.yield l) #[] #[]] w fun e w' => Keeps O0 w w' ∧ ∃ O', (∀ k, k < w.heap.size → O' k → O0 k) ∧
      ((e = .returned (.bool true) ∧ J O' (pre ++ jmp b f W ov) w') ∨ (e = .returned (.bool false) ∧ Jx O' w'))

attribute [local irreducible] stp shi Bm.goe Bm.emp mid tgt hop hopsT jmT jmp noH wyL bdL
attribute [local go_sem] run_dir wide_fn wide_fn0 wide_depth Oper.semAt_some

set_option maxRecDepth 100000 in
set_option maxHeartbeats 8000000 in
theorem jumpOn_succ (b : Bm) (hb : BOk b) (f : Nat) (ih : ∀ W ov, JI b W ov f → JOn b f W ov) (W : List Nat) (ov : Nat) (hI : JI b W ov (f + 1)) : JOn b (f + 1) W ov := by
  intro l J Jx N0 T w O0 pre xs hD hT0 hN hC hR hpre hJ
  have hW13 := (hI.le hb).1
  have hW1 := hI.pos
  have HW13 := hide hW13
  have hOlt := hC.lt _ _ _ hJ
  have HGO := hide (fun d (hd : d < 4) W => goers_any b hb d hd W)
  have HST := hide (fun d p (hd : d < 4) (hp : Sub p ALL) W => step_any d p hd hp W)
  have HEM := hide (fun W => empty_any b hb W)
  have HFI := hide (fun W' => first_any W ov hW1 hW13 W')
  have HLA := hide (fun W' => last_any W ov hW1 hW13 W')
  have HGA := hide (goe_all hb)
  have HEA := hide (emp_all b)
  have HOT := hide hb.oth
  have HOV := hide (hI.ovA hb)
  have HFA := hide hI.fi
  have HLAA := hide hI.la
  have HBK := hide hb
  obtain ⟨fi, hfi⟩ : ∃ fi, W.headD 0 = fi := ⟨_, rfl⟩
  obtain ⟨la, hla⟩ : ∃ la, W.getLastD 0 = la := ⟨_, rfl⟩
  have HHOP : Hid (∀ d, hop b fi la ov d = if fi &&& b.goe d = 0 then none else if tgt b fi (mid b la ov d) d = 0 then none else some (tgt b fi (mid b la ov d) d, mid b la ov d)) := hide (fun d => hop_eq b fi la ov d)
  have HMID : Hid (∀ d, anot (stp d la &&& b.oth) ov = mid b la ov d) := hide (fun d => by unfold mid; rfl)
  have HTGT : Hid (∀ m d, stp d m &&& (b.emp ||| fi) = tgt b fi m d) := hide (fun m d => by unfold tgt; rfl)
  have HNEXT : Hid (∀ d, tgt b fi (mid b la ov d) d ≠ 0 → JI b (W ++ [tgt b fi (mid b la ov d) d]) (ov ||| mid b la ov d) f) := hide (fun d h => by
    have := hI.next hb d (by rw [hfi, hla]; exact h)
    rw [hfi, hla] at this; exact this)
  have HNO : Hid (∀ k, hop b fi la ov k = none → jmT b f W ov (k + 1) = jmT b f W ov k ∧ noH b fi la ov (k + 1) = noH b fi la ov k) := hide (fun k h => ⟨jmT_no (by rw [hfi, hla]; exact h), noH_no h⟩)
  have HYES : Hid (∀ k x, hop b fi la ov k = some x → jmT b f W ov (k + 1) = jmT b f W ov k ++ jmp b f (W ++ [x.1]) (ov ||| x.2) ∧ noH b fi la ov (k + 1) = false) := hide (fun k x h => ⟨jmT_yes (by rw [hfi, hla]; exact h), noH_yes h⟩)
  have HEND : Hid (jmp b (f + 1) W ov = jmT b f W ov 4 ++ (if noH b fi la ov 4 = true ∧ ov ≠ 0 then [(W, ov)] else [])) := hide (by
    rw [jmp_succ, hfi, hla]
    congr 1
    by_cases h : hopsT b fi la ov 4 = []
    · have h2 : noH b fi la ov 4 = true := by unfold noH; rw [h]; rfl
      rw [h2, h]; simp
    · have h2 : noH b fi la ov 4 = false := by unfold noH; simpa using h
      rw [h2]; simp [h])
  have HPR := hide hpre
  have HPK : Hid (∀ k, k ≤ 4 → (pre ++ jmT b f W ov k) <+: xs) := hide (fun k hk => ((List.prefix_append_right_inj pre).2 (jmT_pre hk)).trans hpre)
  have HNIL : Hid (pre ++ jmT b f W ov 0 = pre) := hide (by rw [jmT_zero, List.append_nil])
  have HN0 : Hid (noH b fi la ov 0 = true) := hide (noH_zero _ _ _ _)
  obtain ⟨RS, hRS⟩ : ∃ RS, jmp b (f + 1) W ov = RS := ⟨_, rfl⟩
  rw [hRS] at HEND HPR ⊢
  rw [hfi] at HFI HFA
  rw [hla] at HLA HLAA
  have HON := hide (fun tz m (hm : m < 2 ^ 64) (hl : W.length ≤ 12) W' => on_any W ov tz m hl (hI.ovA hb).lt64 hm W')
  obtain ⟨w1, hw1⟩ : ∃ w1, (w.alloc (.cells (bdL b).toArray 60)).alloc (.cells (wyL W ov).toArray 65) = w1 := ⟨_, rfl⟩
  have hs1 : w1.heap.size = w.heap.size + 2 := by rw [← hw1]; simp
  have B1 : Below w.heap.size w w1 := by rw [← hw1]; exact ((Below.refl _ _).alloc (Nat.le_refl _) _).alloc (by simp) _
  have HB1 := hide B1
  have HV1 : Hid (Vb w1 w.heap.size 60 (bdL b)) := hide (by rw [← hw1]; exact (Vb.new _ _ _).old _)
  have HVW1 : Hid (Vb w1 (w.heap.size + 1) 65 (wyL W ov)) := hide (by
    rw [← hw1]
    have := Vb.new (w.alloc (.cells (bdL b).toArray 60)) 65 (wyL W ov)
    rw [World.size_alloc] at this
    exact this)
  have HR0 := hD.mono B1
  have HD1 := hide HR0
  have HO0 : Hid (∀ k, O0 k → k < w.heap.size ∧ k ≠ 0) := hide (fun k hk => ⟨(hOlt k hk).1, fun e => (hOlt k hk).2 (e ▸ hT0)⟩)
  have HJ1 : Hid (∃ O, J O pre w1 ∧ ∀ k, k < w1.heap.size → O k → O0 k) := hide ⟨O0, hC.keep _ _ _ _ hJ (Keeps.of_all B1), fun _ _ h => h⟩
  have HC := hide hC
  have HR := hide hR
  have HN := hide hN
  have HT0 := hide hT0
  have HIH := hide ih
  have HS1 := hide hs1
  clear hOlt hW13 hJ hD hC hR hN hT0 hpre ih hs1 B1 hI hb hfi hla hRS
  go_enter Tryd.func63, Tryd.ntmps63
  go_upto_region 1 with fail
  clear hw1
  go_wp2_with (refine wpList_load_mid rfl 105 _ rfl 0 0 rfl dirV _ HR0 Tryd.underlying105 rfl size105 ?_)
  clear HR0
  go_loopw [7, 13] (fun u v wr => ∃ j : Nat, v = .int .i64 j ∧ u = .bool (noH b fi la ov j) ∧ j ≤ 4 ∧ Hid (∃ O, J O (pre ++ jmT b f W ov j) wr ∧ ∀ k, k < w1.heap.size → O k → O0 k) ∧ Hid (Keeps O0 w1 wr)) (fun _ v _ => 4 - (intOf v).toNat)
  case atStart => exact ⟨0, rfl, by rw [HN0.out], by omega, hide (by rw [HNIL.out]; exact HJ1.out), hide (Keeps.refl _ _)⟩
  case round =>
    obtain ⟨j, rfl, rfl, hj, hJr, hK⟩ := hrel
    clear HJ1 HN0 HNIL
    have HV : Hid (Vb wr w.heap.size 60 (bdL b)) := hide (HV1.out.keeps hK.out (fun h => by have := (HO0.out _ h).1; omega))
    have HVW : Hid (Vb wr (w.heap.size + 1) 65 (wyL W ov)) := hide (HVW1.out.keeps hK.out (fun h => by have := (HO0.out _ h).1; omega))
    have HSZ : Hid (w.heap.size + 2 ≤ wr.heap.size) := hide (by have := hK.out.size; have := HS1.out; omega)
    by_cases hj4 : j < 4
    · have hj4' : (j : Int) < 4 := by omega
      obtain ⟨g, hg⟩ : ∃ g, b.goe j = g := ⟨_, rfl⟩
      have HG := hide (hg ▸ HGO.out j hj4)
      have eg := and_nat HFA.out.lt64 (hg ▸ HGA.out j).lt64
      obtain ⟨fg, hfg⟩ : ∃ fg, fi &&& g = fg := ⟨_, rfl⟩
      rw [hfg] at eg
      have HFG : Hid (fi &&& b.goe j = fg) := hide (by rw [hg]; exact hfg)
      obtain ⟨s, hs⟩ : ∃ s, stp j la = s := ⟨_, rfl⟩
      have HS2 := hide (hs ▸ HST.out j la hj4 HLAA.out)
      have hsS : Sub s ALL := hs ▸ Sub.stp j la
      have ea := and_nat hsS.lt64 HOT.out.lt64
      have hoS : Sub (s &&& b.oth) ALL := Sub.and_right HOT.out
      obtain ⟨o, ho⟩ : ∃ o, s &&& b.oth = o := ⟨_, rfl⟩
      rw [ho] at ea hoS
      have eo := anot_nat hoS.lt64 HOV.out.lt64
      obtain ⟨m, hm⟩ : ∃ m, mid b la ov j = m := ⟨_, rfl⟩
      have hmm : anot o ov = m := by rw [← ho, ← hs, ← hm]; exact HMID.out j
      have hmS : Sub m ALL := by rw [← hmm]; exact Sub.anot hoS
      rw [hmm] at eo
      obtain ⟨s3, hs3⟩ : ∃ s3, stp j m = s3 := ⟨_, rfl⟩
      have HS3 := hide (hs3 ▸ HST.out j m hj4 hmS)
      have ec := or_nat HEA.out.lt64 HFA.out.lt64
      have hef : Sub (b.emp ||| fi) ALL := HEA.out.or HFA.out
      obtain ⟨ef, hefe⟩ : ∃ ef, b.emp ||| fi = ef := ⟨_, rfl⟩
      rw [hefe] at ec hef
      have ed := and_nat (hs3 ▸ (Sub.stp j m)).lt64 hef.lt64
      obtain ⟨tz, htz⟩ : ∃ tz, tgt b fi m j = tz := ⟨_, rfl⟩
      have HTZ : Hid (tgt b fi (mid b la ov j) j = tz) := hide (by rw [hm]; exact htz)
      have htt : s3 &&& ef = tz := by rw [← hs3, ← hefe, ← htz]; exact HTGT.out m j
      rw [htt] at ed
      have HMM := hide hm
      have HMS := hide hmS
      clear hg hfg hs ho hmm hs3 hefe htz htt hsS hoS hmS hef hm
      obtain ⟨nh, hnh⟩ : ∃ nh, noH b fi la ov j = nh := ⟨_, rfl⟩
      rw [hnh]
      have HNH := hide hnh
      clear hnh
      go_upto_region 5 with fail
      refine wp_region_held (S := fun W4 => Below wr.heap.size wr W4) (by kernel_rfl) ?_
      change wpAnyH _ _ _ _ _ _ _ _ (World.drew _)
      have SW : Below wr.heap.size wr wr.drew := (Below.refl _ wr).drew
      refine wpAnyH_take (i := 0) (v := .agg (wyL W ov).toArray) rfl (by kernel_rfl) (by kernel_rfl) (by kernel_rfl) (fun _ _ _ h => h) (yieldsIf_load_mid (by rfl) 65 _ rfl (w.heap.size + 1) 0 (by rfl) (wyL W ov) _ (fun W hW => (HVW.out.mono hW).range) Tryd.underlying65 rfl (size65w HW13.out)) SW ?_
      go_simp
      refine wpAnyH_take (i := 2) (v := .agg (bdL b).toArray) rfl (by kernel_rfl) (by kernel_rfl) (by kernel_rfl) (fun _ _ _ h => h) (yieldsIf_load_mid (by rfl) 60 _ rfl w.heap.size 0 (by rfl) (bdL b) _ (fun W hW => (HV.out.mono hW).range) Tryd.underlying60 rfl (by unfold bdL; exact size60)) SW ?_
      go_simp
      refine wpAnyH_take (i := 3) (v := .int .i64 (shi j)) rfl (by kernel_rfl) (by kernel_rfl) (by kernel_rfl) (fun _ _ _ h => h) (Or.inl ⟨by rfl, ?_⟩) SW ?_
      · intro W4 hW4
        go_simp <;> first | done | rfl | (rw [IntKind.wrap_i64]; omega) | omega
      go_simp
      refine wpAnyH_ready (rs := [1]) (by kernel_rfl) (by simp) ?_
      refine AllReadyH.cons rfl (fun K1 hK1 => ?_) AllReadyH.nil
      go_simp
      refine (HFI.out _).mono ?_
      rintro r w5 ⟨rfl, hb5⟩
      have B5 := SW.trans (hb5.mono SW.size)
      refine hK1.out _ _ B5 (fun SW => ?_)
      clear hK1 K1 hb5
      go_simp
      refine wpAnyH_ready (rs := [4]) (by kernel_rfl) (by simp) ?_
      refine AllReadyH.cons rfl (fun K1 hK1 => ?_) AllReadyH.nil
      go_simp
      refine (HG.out _).mono ?_
      rintro r w6 ⟨rfl, hb6⟩
      have B6 := SW.trans (hb6.mono SW.size)
      refine hK1.out _ _ B6 (fun SW => ?_)
      clear hK1 K1 hb6
      go_simp
      refine wpAnyH_take (i := 5) (v := .int .u64 (fg : Nat)) rfl (by kernel_rfl) (by kernel_rfl) (by kernel_rfl) (fun _ _ _ h => h) (Or.inl ⟨by rfl, ?_⟩) SW ?_
      · intro W4 hW4
        have x0 := eg
        go_simp <;> first | done | rfl | (rw [IntKind.wrap_i64]; omega) | omega
      go_simp
      by_cases hq : fg = 0
      · have hz : ((fg : Int) == 0) = true := by rw [hq]; rfl
        refine wpAnyH_take (i := 6) (v := .bool true) rfl (by kernel_rfl) (by kernel_rfl) (by kernel_rfl) (fun _ _ _ h => h) (Or.inl ⟨by rfl, ?_⟩) SW ?_
        · intro W4 hW4
          go_simp <;> first | done | rfl | (rw [IntKind.wrap_i64]; omega) | omega
        go_simp
        refine wpAnyH_done (by kernel_rfl) ?_ _
        have HHN : Hid (hop b fi la ov j = none) := hide (by rw [HHOP.out, HFG.out, if_pos hq])
        obtain ⟨n1, n2⟩ := HNO.out j HHN.out
        rw [HNH.out] at n2
        have HJ6 : Hid (∃ O, J O (pre ++ jmT b f W ov (j + 1)) w6 ∧ ∀ k, k < w1.heap.size → O k → O0 k) := hide (by
          obtain ⟨O, h1, h2⟩ := hJr.out
          exact ⟨O, by rw [n1]; exact HC.out.keep _ _ _ _ h1 (Keeps.of_all B6), h2⟩)
        have HK6 : Hid (Keeps O0 w1 w6) := hide (hK.out.trans (Keeps.of_all B6))
        have HN2 := hide n2
        clear SW B6 B5 hz hq n1 n2 hJr hK
        go_wp2_with fail
        refine ⟨⟨j + 1, by go_num, by rw [HN2.out], by omega, HJ6, HK6⟩, by simp [intOf]; omega⟩
      · have hz : ((fg : Int) == 0) = false := u64_ez hq
        refine wpAnyH_take (i := 6) (v := .bool false) rfl (by kernel_rfl) (by kernel_rfl) (by kernel_rfl) (fun _ _ _ h => h) (Or.inl ⟨by rfl, ?_⟩) SW ?_
        · intro W4 hW4
          go_simp <;> first | done | rfl | (rw [IntKind.wrap_i64]; omega) | omega
        go_simp
        refine wpAnyH_done (by kernel_rfl) ?_ _
        have HB6 := hide B6
        clear SW B6 B5 hz eg
        go_upto_region 6 with fail
        have HV6 := hide (HV.out.mono HB6.out)
        have HVW6 := hide (HVW.out.mono HB6.out)
        have HC6 : Hid (∀ W4, Below w6.heap.size w6 W4 → W4.cell? ⟨w.heap.size, 1, none⟩ = some (.int .u64 (b.oth : Nat)) ∧ W4.cell? ⟨w.heap.size + 1, 14, none⟩ = some (.int .u64 (ov : Nat))) := hide (fun W4 h => ⟨(HV6.out.mono h).cell (i := 1) (by unfold bdL; rfl), (HVW6.out.mono h).cell (wy_over HW13.out)⟩)
        refine wp_region_held (S := fun W4 => Below w6.heap.size w6 W4) (by kernel_rfl) ?_
        change wpAnyH _ _ _ _ _ _ _ _ (World.drew _)
        have SW : Below w6.heap.size w6 w6.drew := (Below.refl _ w6).drew
        refine wpAnyH_take (i := 0) (v := .agg (wyL W ov).toArray) rfl (by kernel_rfl) (by kernel_rfl) (by kernel_rfl) (fun _ _ _ h => h) (yieldsIf_load_mid (by rfl) 65 _ rfl (w.heap.size + 1) 0 (by rfl) (wyL W ov) _ (fun W hW => (HVW6.out.mono hW).range) Tryd.underlying65 rfl (size65w HW13.out)) SW ?_
        go_simp
        refine wpAnyH_take (i := 2) (v := .int .i64 (shi j)) rfl (by kernel_rfl) (by kernel_rfl) (by kernel_rfl) (fun _ _ _ h => h) (Or.inl ⟨by rfl, ?_⟩) SW ?_
        · intro W4 hW4
          go_simp <;> first | done | rfl | (rw [IntKind.wrap_i64]; omega) | omega
        go_simp
        refine wpAnyH_take (i := 4) (v := .pointer (some ⟨w.heap.size, 1, none⟩)) rfl (by kernel_rfl) (by kernel_rfl) (by kernel_rfl) (fun _ _ _ h => h) (Or.inl ⟨by rfl, ?_⟩) SW ?_
        · intro W4 hW4
          go_simp <;> first | done | rfl | (rw [IntKind.wrap_i64]; omega) | omega
        go_simp
        refine wpAnyH_take (i := 5) (v := .int .u64 (b.oth : Nat)) rfl (by kernel_rfl) (by kernel_rfl) (by kernel_rfl) (fun _ _ _ h => h) (Or.inl ⟨by rfl, ?_⟩) SW ?_
        · intro W4 hW4
          have x0 := (HC6.out W4 hW4).1
          go_simp <;> first | done | rfl | (rw [IntKind.wrap_i64]; omega) | omega
        go_simp
        refine wpAnyH_take (i := 7) (v := .pointer (some ⟨w.heap.size + 1, 14, none⟩)) rfl (by kernel_rfl) (by kernel_rfl) (by kernel_rfl) (fun _ _ _ h => h) (Or.inl ⟨by rfl, ?_⟩) SW ?_
        · intro W4 hW4
          go_simp <;> first | done | rfl | (rw [IntKind.wrap_i64]; omega) | omega
        go_simp
        refine wpAnyH_take (i := 8) (v := .int .u64 (ov : Nat)) rfl (by kernel_rfl) (by kernel_rfl) (by kernel_rfl) (fun _ _ _ h => h) (Or.inl ⟨by rfl, ?_⟩) SW ?_
        · intro W4 hW4
          have x0 := (HC6.out W4 hW4).2
          go_simp <;> first | done | rfl | (rw [IntKind.wrap_i64]; omega) | omega
        go_simp
        refine wpAnyH_ready (rs := [1]) (by kernel_rfl) (by simp) ?_
        refine AllReadyH.cons rfl (fun K1 hK1 => ?_) AllReadyH.nil
        go_simp
        refine (HLA.out _).mono ?_
        rintro r w7 ⟨rfl, hb7⟩
        have B7 := SW.trans (hb7.mono SW.size)
        refine hK1.out _ _ B7 (fun SW => ?_)
        clear hK1 K1 hb7
        go_simp
        refine wpAnyH_ready (rs := [3]) (by kernel_rfl) (by simp) ?_
        refine AllReadyH.cons rfl (fun K1 hK1 => ?_) AllReadyH.nil
        go_simp
        refine (HS2.out _).mono ?_
        rintro r w8 ⟨rfl, hw8⟩
        subst w8
        refine hK1.out _ _ SW (fun SW => ?_)
        clear hK1 K1
        go_simp
        refine wpAnyH_take (i := 6) (v := .int .u64 (o : Nat)) rfl (by kernel_rfl) (by kernel_rfl) (by kernel_rfl) (fun _ _ _ h => h) (Or.inl ⟨by rfl, ?_⟩) SW ?_
        · intro W4 hW4
          have x0 := ea
          go_simp <;> first | done | rfl | (rw [IntKind.wrap_i64]; omega) | omega
        go_simp
        refine wpAnyH_take (i := 9) (v := .int .u64 (m : Nat)) rfl (by kernel_rfl) (by kernel_rfl) (by kernel_rfl) (fun _ _ _ h => h) (Or.inl ⟨by rfl, ?_⟩) SW ?_
        · intro W4 hW4
          have x0 := eo
          go_simp <;> first | done | rfl | (rw [IntKind.wrap_i64]; omega) | omega
        go_simp
        refine wpAnyH_ready (rs := [10]) (by kernel_rfl) (by simp) ?_
        refine AllReadyH.cons rfl (fun K1 hK1 => ?_) AllReadyH.nil
        go_simp
        refine hK1.out _ _ SW (fun SW => ?_)
        clear hK1 K1
        go_simp
        refine wpAnyH_done (by kernel_rfl) ?_ _
        have HB7 := hide (HB6.out.trans (B7.mono HB6.out.size))
        clear SW B7 ea eo HC6 HV6 HVW6 HB6
        go_upto_region 7 with fail
        have HV7 := hide (HV.out.mono HB7.out)
        have HVW7 := hide (HVW.out.mono HB7.out)
        refine wp_region_held (S := fun W4 => Below w7.heap.size w7 W4) (by kernel_rfl) ?_
        change wpAnyH _ _ _ _ _ _ _ _ (World.drew _)
        have SW : Below w7.heap.size w7 w7.drew := (Below.refl _ w7).drew
        refine wpAnyH_take (i := 0) (v := .int .u64 (m : Nat)) rfl (by kernel_rfl) (by kernel_rfl) (by kernel_rfl) (fun _ _ _ h => h) (Or.inl ⟨by rfl, ?_⟩) SW ?_
        · intro W4 hW4
          go_simp <;> first | done | rfl | (rw [IntKind.wrap_i64]; omega) | omega
        go_simp
        refine wpAnyH_take (i := 1) (v := .int .i64 (shi j)) rfl (by kernel_rfl) (by kernel_rfl) (by kernel_rfl) (fun _ _ _ h => h) (Or.inl ⟨by rfl, ?_⟩) SW ?_
        · intro W4 hW4
          go_simp <;> first | done | rfl | (rw [IntKind.wrap_i64]; omega) | omega
        go_simp
        refine wpAnyH_take (i := 3) (v := .agg (bdL b).toArray) rfl (by kernel_rfl) (by kernel_rfl) (by kernel_rfl) (fun _ _ _ h => h) (yieldsIf_load_mid (by rfl) 60 _ rfl w.heap.size 0 (by rfl) (bdL b) _ (fun W hW => (HV7.out.mono hW).range) Tryd.underlying60 rfl (by unfold bdL; exact size60)) SW ?_
        go_simp
        refine wpAnyH_take (i := 5) (v := .agg (wyL W ov).toArray) rfl (by kernel_rfl) (by kernel_rfl) (by kernel_rfl) (fun _ _ _ h => h) (yieldsIf_load_mid (by rfl) 65 _ rfl (w.heap.size + 1) 0 (by rfl) (wyL W ov) _ (fun W hW => (HVW7.out.mono hW).range) Tryd.underlying65 rfl (size65w HW13.out)) SW ?_
        go_simp
        refine wpAnyH_ready (rs := [2]) (by kernel_rfl) (by simp) ?_
        refine AllReadyH.cons rfl (fun K1 hK1 => ?_) AllReadyH.nil
        go_simp
        refine (HS3.out _).mono ?_
        rintro r w8 ⟨rfl, hw8⟩
        subst w8
        refine hK1.out _ _ SW (fun SW => ?_)
        clear hK1 K1
        go_simp
        refine wpAnyH_ready (rs := [4]) (by kernel_rfl) (by simp) ?_
        refine AllReadyH.cons rfl (fun K1 hK1 => ?_) AllReadyH.nil
        go_simp
        refine (HEM.out _).mono ?_
        rintro r w8 ⟨rfl, hb8⟩
        have B8 := SW.trans (hb8.mono SW.size)
        refine hK1.out _ _ B8 (fun SW => ?_)
        clear hK1 K1 hb8
        go_simp
        refine wpAnyH_ready (rs := [6]) (by kernel_rfl) (by simp) ?_
        refine AllReadyH.cons rfl (fun K1 hK1 => ?_) AllReadyH.nil
        go_simp
        refine (HFI.out _).mono ?_
        rintro r w9 ⟨rfl, hb9⟩
        have B9 := SW.trans (hb9.mono SW.size)
        refine hK1.out _ _ B9 (fun SW => ?_)
        clear hK1 K1 hb9
        go_simp
        refine wpAnyH_take (i := 7) (v := .int .u64 (ef : Nat)) rfl (by kernel_rfl) (by kernel_rfl) (by kernel_rfl) (fun _ _ _ h => h) (Or.inl ⟨by rfl, ?_⟩) SW ?_
        · intro W4 hW4
          have x0 := ec
          go_simp <;> first | done | rfl | (rw [IntKind.wrap_i64]; omega) | omega
        go_simp
        refine wpAnyH_take (i := 8) (v := .int .u64 (tz : Nat)) rfl (by kernel_rfl) (by kernel_rfl) (by kernel_rfl) (fun _ _ _ h => h) (Or.inl ⟨by rfl, ?_⟩) SW ?_
        · intro W4 hW4
          have x0 := ed
          go_simp <;> first | done | rfl | (rw [IntKind.wrap_i64]; omega) | omega
        go_simp
        refine wpAnyH_ready (rs := [9]) (by kernel_rfl) (by simp) ?_
        refine AllReadyH.cons rfl (fun K1 hK1 => ?_) AllReadyH.nil
        go_simp
        refine hK1.out _ _ SW (fun SW => ?_)
        clear hK1 K1
        go_simp
        refine wpAnyH_done (by kernel_rfl) ?_ _
        have HB9 := hide (HB7.out.trans (B9.mono HB7.out.size))
        clear SW B9 B8 ec ed HV7 HVW7 HB7
        by_cases hq2 : tz = 0
        · have hz : ((tz : Int) == 0) = true := by rw [hq2]; rfl
          have HHN : Hid (hop b fi la ov j = none) := hide (by rw [HHOP.out, HFG.out, if_neg hq, HTZ.out, if_pos hq2])
          obtain ⟨n1, n2⟩ := HNO.out j HHN.out
          rw [HNH.out] at n2
          have HJ6 : Hid (∃ O, J O (pre ++ jmT b f W ov (j + 1)) w9 ∧ ∀ k, k < w1.heap.size → O k → O0 k) := hide (by
            obtain ⟨O, h1, h2⟩ := hJr.out
            exact ⟨O, by rw [n1]; exact HC.out.keep _ _ _ _ h1 (Keeps.of_all HB9.out), h2⟩)
          have HK6 : Hid (Keeps O0 w1 w9) := hide (hK.out.trans (Keeps.of_all HB9.out))
          have HN2 := hide n2
          clear hq2 hq n1 n2 hJr hK
          go_wp2_with fail
          refine ⟨⟨j + 1, by go_num, by rw [HN2.out], by omega, HJ6, HK6⟩, by simp [intOf]; omega⟩
        · have hz : ((tz : Int) == 0) = false := u64_ez hq2
          have HHY : Hid (hop b fi la ov j = some (tz, m)) := hide (by rw [HHOP.out, HFG.out, if_neg hq, HTZ.out, if_neg hq2, HMM.out])
          obtain ⟨n1, n2⟩ := HYES.out j _ HHY.out
          dsimp only at n1
          have HNX : Hid (JI b (W ++ [tz]) (ov ||| m) f) := hide (by
            have := HNEXT.out j (by rw [HTZ.out]; exact hq2)
            rw [HTZ.out, HMM.out] at this; exact this)
          have hW12 : W.length ≤ 12 := by
            have h1 := (HNX.out.le HBK.out).1
            rw [List.length_append, List.length_singleton] at h1
            omega
          have HON1 := hide (HON.out tz m HMS.out.lt64 hW12)
          have HRC := hide (HIH.out _ _ HNX.out l J Jx N0 T)
          have HPJ : Hid ((pre ++ jmT b f W ov j ++ jmp b f (W ++ [tz]) (ov ||| m)) <+: xs) := hide (by
            have := HPK.out (j + 1) (by omega)
            rw [n1, ← List.append_assoc] at this; exact this)
          have HN1 := hide n1
          have HN2 := hide n2
          obtain ⟨ovm, hovm⟩ : ∃ ovm, ov ||| m = ovm := ⟨_, rfl⟩
          rw [hovm] at HON1 HRC HPJ HN1
          obtain ⟨W', hW'⟩ : ∃ W', W ++ [tz] = W' := ⟨_, rfl⟩
          rw [hW'] at HON1 HRC HPJ HN1
          clear hq hq2 n1 n2 HHY HNX hovm hW' hW12
          go_upto_region 10 with fail
          have HV9 := hide (HV.out.mono HB9.out)
          have HVW9 := hide (HVW.out.mono HB9.out)
          refine wp_region_held (S := fun W4 => Vb W4 w.heap.size 60 (bdL b) ∧ Vb W4 (w.heap.size + 1) 65 (wyL W ov)) (by kernel_rfl) ?_
          change wpAnyH _ _ _ _ _ _ _ _ (World.drew _)
          have SW : Vb w9.drew w.heap.size 60 (bdL b) ∧ Vb w9.drew (w.heap.size + 1) 65 (wyL W ov) := ⟨HV9.out.mono (Below.refl _ w9).drew, HVW9.out.mono (Below.refl _ w9).drew⟩
          refine wpAnyH_take (i := 0) (v := .agg (bdL b).toArray) rfl (by kernel_rfl) (by kernel_rfl) (by kernel_rfl) (fun _ _ _ h => h) (yieldsIf_load_mid (by rfl) 60 _ rfl w.heap.size 0 (by rfl) (bdL b) _ (fun W hW => hW.1.range) Tryd.underlying60 rfl (by unfold bdL; exact size60)) SW ?_
          go_simp
          refine wpAnyH_take (i := 1) (v := .agg (wyL W ov).toArray) rfl (by kernel_rfl) (by kernel_rfl) (by kernel_rfl) (fun _ _ _ h => h) (yieldsIf_load_mid (by rfl) 65 _ rfl (w.heap.size + 1) 0 (by rfl) (wyL W ov) _ (fun W hW => hW.2.range) Tryd.underlying65 rfl (size65w HW13.out)) SW ?_
          go_simp
          refine wpAnyH_take (i := 2) (v := .int .u64 (tz : Nat)) rfl (by kernel_rfl) (by kernel_rfl) (by kernel_rfl) (fun _ _ _ h => h) (Or.inl ⟨by rfl, ?_⟩) SW ?_
          · intro W4 hW4
            go_simp <;> first | done | rfl | (rw [IntKind.wrap_i64]; omega) | omega
          go_simp
          refine wpAnyH_take (i := 3) (v := .int .u64 (m : Nat)) rfl (by kernel_rfl) (by kernel_rfl) (by kernel_rfl) (fun _ _ _ h => h) (Or.inl ⟨by rfl, ?_⟩) SW ?_
          · intro W4 hW4
            go_simp <;> first | done | rfl | (rw [IntKind.wrap_i64]; omega) | omega
          go_simp
          refine wpAnyH_take (i := 5) (v := .func (.yield l) #[] #[]) rfl (by kernel_rfl) (by kernel_rfl) (by kernel_rfl) (fun _ _ _ h => h) (Or.inl ⟨by rfl, ?_⟩) SW ?_
          · intro W4 hW4
            go_simp <;> first | done | rfl | (rw [IntKind.wrap_i64]; omega) | omega
          go_simp
          refine wpAnyH_ready (rs := [4]) (by kernel_rfl) (by simp) ?_
          refine AllReadyH.cons rfl (fun K1 hK1 => ?_) AllReadyH.nil
          go_simp
          refine (HON1.out _).mono ?_
          rintro r w10 ⟨rfl, hb10⟩
          have B10 : Below w9.heap.size w9 w10 := (Below.refl _ w9).drew.trans hb10
          refine hK1.out _ _ ⟨HV9.out.mono B10, HVW9.out.mono B10⟩ (fun SW => ?_)
          clear hK1 K1 hb10
          go_simp
          refine wpAnyH_ready (rs := [6]) (by kernel_rfl) (by simp) ?_
          refine AllReadyH.cons rfl (fun K1 hK1 => ?_) AllReadyH.nil
          go_simp
          obtain ⟨O, hJO, hOm⟩ := hJr.out
          have B110 : Below wr.heap.size wr w10 := HB9.out.trans (B10.mono HB9.out.size)
          have K110 : Keeps O0 w1 w10 := hK.out.trans (Keeps.of_all B110)
          have hJ10 := HC.out.keep _ _ _ _ hJO (Keeps.of_all B110)
          have hD10 : DTab w10 := HD1.out.keeps K110 (fun h => (HO0.out _ h).2 rfl)
          have s10 := K110.size
          refine (HRC.out w10 O _ xs hD10 HT0.out (by have := HN.out; have := HS1.out; omega) HC.out HR.out HPJ.out hJ10).mono ?_
          rintro r w11 ⟨hk11, O', hO', h11⟩
          have K111 : Keeps O0 w1 w11 := K110.chain hk11 hOm
          have hOm' : ∀ k, k < w1.heap.size → O' k → O0 k := fun k hk h => hOm k hk (hO' k (by omega) h)
          have HK11 := hide K111
          have HOM := hide hOm'
          have SW11 : Vb w11 w.heap.size 60 (bdL b) ∧ Vb w11 (w.heap.size + 1) 65 (wyL W ov) := ⟨HV1.out.keeps K111 (fun h => by have := (HO0.out _ h).1; omega), HVW1.out.keeps K111 (fun h => by have := (HO0.out _ h).1; omega)⟩
          clear hJO hOm hJ10 hD10 K110 K111 B110 hk11 hO' hOm' s10 B10 hJr hK
          rcases h11 with ⟨rfl, h11⟩ | ⟨rfl, h11⟩
          · have H11 := hide h11
            clear h11
            refine hK1.out _ _ SW11 (fun SW => ?_)
            clear hK1 K1 SW11
            go_simp
            refine wpAnyH_take (i := 7) (v := .bool false) rfl (by kernel_rfl) (by kernel_rfl) (by kernel_rfl) (fun _ _ _ h => h) (Or.inl ⟨by rfl, ?_⟩) SW ?_
            · intro W4 hW4
              go_simp <;> first | done | rfl | (rw [IntKind.wrap_i64]; omega) | omega
            go_simp
            refine wpAnyH_done (by kernel_rfl) ?_ _
            clear SW
            have HJN : Hid (∃ O, J O (pre ++ jmT b f W ov (j + 1)) w11 ∧ ∀ k, k < w1.heap.size → O k → O0 k) := hide ⟨O', by rw [HN1.out, ← List.append_assoc]; exact H11.out, HOM.out⟩
            go_wp2_with fail
            refine ⟨⟨j + 1, by go_num, by rw [HN2.out], by omega, HJN, HK11⟩, by simp [intOf]; omega⟩
          · have H11 := hide h11
            clear h11
            refine hK1.out _ _ SW11 (fun SW => ?_)
            clear hK1 K1 SW11
            go_simp
            refine wpAnyH_take (i := 7) (v := .bool true) rfl (by kernel_rfl) (by kernel_rfl) (by kernel_rfl) (fun _ _ _ h => h) (Or.inl ⟨by rfl, ?_⟩) SW ?_
            · intro W4 hW4
              go_simp <;> first | done | rfl | (rw [IntKind.wrap_i64]; omega) | omega
            go_simp
            refine wpAnyH_done (by kernel_rfl) ?_ _
            clear SW
            go_wp2_with fail
            go_ret
            refine ⟨(Keeps.of_all HB1.out).chain HK11.out (fun _ _ h => h), O', fun k hk h => HOM.out k (by have := HS1.out; omega) h, .inr ⟨rfl, H11.out⟩⟩
    · obtain rfl : j = 4 := by omega
      have c14 := HVW.out.cell (wy_over HW13.out)
      obtain ⟨O, hJO, hOm⟩ := hJr.out
      have HJO := hide hJO
      have HOM := hide hOm
      clear hJO hOm hJr hj hj4
      cases hnh : noH b fi la ov 4 with
      | false =>
        have HE : Hid (RS = jmT b f W ov 4) := hide (by rw [HEND.out, hnh]; simp)
        go_wp2_with fail
        go_ret
        exact ⟨(Keeps.of_all HB1.out).chain hK.out (fun _ _ h => h), O, fun k hk h => HOM.out k (by have := HS1.out; omega) h, .inl ⟨rfl, by rw [HE.out]; exact HJO.out⟩⟩
      | true =>
        by_cases hov : ov = 0
        · have HE : Hid (RS = jmT b f W ov 4) := hide (by rw [HEND.out, hnh]; simp [hov])
          have hz : ((ov : Int) != 0) = false := by rw [hov]; rfl
          clear hov
          go_wp2_with fail
          go_ret
          exact ⟨(Keeps.of_all HB1.out).chain hK.out (fun _ _ h => h), O, fun k hk h => HOM.out k (by have := HS1.out; omega) h, .inl ⟨rfl, by rw [HE.out]; exact HJO.out⟩⟩
        · have HE : Hid (RS = jmT b f W ov 4 ++ [(W, ov)]) := hide (by rw [HEND.out, hnh]; simp [hov])
          have hz : ((ov : Int) != 0) = true := u64_ne hov
          have HPX : Hid ((pre ++ jmT b f W ov 4 ++ [(W, ov)]) <+: xs) := hide (by
            have := HPR.out
            rw [HE.out, ← List.append_assoc] at this; exact this)
          obtain ⟨fn, tmps, assign, body, hy, hRR⟩ := YieldAt.anyD (m' := 0) (HR.out O _ (W, ov) #[.agg (wyL W ov).toArray] wr HJO.out HPX.out rfl (by have := HN.out; have := HSZ.out; omega))
          clear hov
          go_upto_region 14 with fail
          refine (wpIn_wide (n := 1)).1 ?_
          gi_wp2_with (refine wpListIn_load_wy rfl (.tmp 4) rfl (w.heap.size + 1) rfl HW13.out HVW.out ?_)
          refine hRR.mono ?_
          rintro e W3 ⟨hk3, O', hO', h3⟩
          have K3 : Keeps O0 w W3 := (Keeps.of_all HB1.out).chain (hK.out.chain hk3 HOM.out) (fun _ _ h => h)
          have HK3 := hide K3
          have HO3 : Hid (∀ k, k < w.heap.size → O' k → O0 k) := hide (fun k hk h => HOM.out k (by have := HS1.out; omega) (hO' k (by have := HSZ.out; omega) h))
          clear hy hRR hk3 hO' K3
          rcases h3 with ⟨rfl, hJ3⟩ | ⟨rfl, hJ3⟩
          · have HJ3 := hide hJ3
            clear hJ3
            gi_wp2
            go_wp2_with fail
            go_ret
            exact ⟨HK3.out, O', HO3.out, .inl ⟨rfl, by rw [HE.out, ← List.append_assoc]; exact HJ3.out⟩⟩
          · have HJ3 := hide hJ3
            clear hJ3
            gi_wp2
            go_wp2_with fail
            go_ret
            exact ⟨HK3.out, O', HO3.out, .inr ⟨rfl, HJ3.out⟩⟩

theorem jumpOn_all (b : Bm) (hb : BOk b) : ∀ (f : Nat) (W : List Nat) (ov : Nat), JI b W ov f → JOn b f W ov
  | 0, W, ov, h => by have := (h.le hb).2; omega
  | f + 1, W, ov, h => jumpOn_succ b hb f (fun W' ov' h' => jumpOn_all b hb f W' ov' h') W ov h

end Go.Proofs.YtnbaangnpoblfaaDoor
