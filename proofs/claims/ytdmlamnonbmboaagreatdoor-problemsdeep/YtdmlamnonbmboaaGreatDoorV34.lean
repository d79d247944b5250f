/-
  Chess: a position seen as a state: walked. No conditions beyond those that each theorem bears.
-/
import Derived.Test.YtdmlamnonbmboaaGreatDoorV33
import Derived.Test.YtdmlamnonbmboaaGreatDoorV19
import Derived.Laws.CopyRow
namespace Go.Proofs.YtdmlamnonbmboaaGreatDoor
open Go.RowKit Go.Shelf

theorem wp_copy_run {P : Program} {o : Oper} {a : Act} {w w' : World} {K : Act → World → Prop} {Q : Exit → Act → World → Prop} (d s : Operand) (dT sT : TypeId)
    (ho : o.op = .call { callee := .builtin .copy, args := #[d, s], argTypes := #[dT, sT] }) {x y v : Value} (hd : a.eval d = x) (hs : a.eval s = y)
    (hrun : (Builtin.copy_ #[dT, sT] o.type #[x, y]).run P w = .ok v w') (h : K (a.put o.dst v) w') : o.wp P a w K Q := by
  unfold Oper.wp
  simp [execOp, ho, resolve, invoke, builtin, hd, hs, hrun, Result.andThen]
  exact h

theorem Rd.keepsX {w w' : World} {rb ro : Nat} {n c : Nat} {Z : List Int} {d : Nat} (h : Rd w (some ⟨rb, ro, none⟩) n c Z) (hk : Keeps (fun j => j = d) w w') (hd : rb ≠ d) : Rd w' (some ⟨rb, ro, none⟩) n c Z := h.keeps hk (fun x y hx => by cases hx; exact hd)

set_option maxRecDepth 100000 in
set_option maxHeartbeats 4000000 in
theorem seen_any (a : Option Addr) (c : Nat) (Z : List Int) (t k e h f : Int) (w : World) (hz : Rd w a 64 c Z) :
    Calls Tryz.prog 16 #[.agg (chA a 64 c t k e h f)] w fun r w' => r = .returned (.agg (ivs (stL Z t k e h f)).toArray) ∧ Below w.heap.size w w' := by
  obtain ⟨rb, ro, rfl, _⟩ := hz.5 (by decide)
  obtain ⟨g, hg⟩ : ∃ g, w.heap.size = g := ⟨_, rfl⟩
  obtain ⟨w1, hw1⟩ : ∃ w1, (w.alloc (.cells (chA (some ⟨rb, ro, none⟩) 64 c t k e h f) 24)).alloc (.cells Tryz.zeroCells48 48) = w1 := ⟨_, rfl⟩
  have B1 : Below w.heap.size w w1 := by rw [← hw1]; exact ((Below.refl _ w).alloc (Nat.le_refl _) _).alloc (by simp) _
  have s1 : w1.heap.size = g + 2 := by rw [← hw1, ← hg]; simp
  have C1 : Ch w1 g (some ⟨rb, ro, none⟩) 64 c t k e h f := by rw [← hw1, ← hg]; exact (Ch.new w _ _ _ _ _ _ _ _).old _
  have R1 : Vb w1 (g + 1) 48 (ivs (stL zr64 0 0 0 0 0)) := by
    rw [← hw1, ← hg]
    have := zr69_new (w.alloc (.cells (chA (some ⟨rb, ro, none⟩) 64 c t k e h f) 24))
    rw [World.size_alloc] at this
    exact this
  obtain ⟨d, hd⟩ : ∃ d, w1.heap.size = d := ⟨_, rfl⟩
  obtain ⟨w2, hw2⟩ : ∃ w2, w1.alloc (.cells Tryz.zeroCells48 48) = w2 := ⟨_, rfl⟩
  have V2 : Vb w2 d 48 (ivs (stL zr64 0 0 0 0 0)) := by rw [← hw2, ← hd]; exact zr69_new w1
  have B2 : Below w1.heap.size w1 w2 := by rw [← hw2]; exact (Below.refl _ _).alloc (Nat.le_refl _) _
  have hl := hz.1
  have HL : Hid ((ivs Z).length = 64 ∧ ((ivs (stL zr64 t k e h f)).toArray.toList.take 0 ++ ivs Z ++ (ivs (stL zr64 t k e h f)).toArray.toList.drop (0 + (ivs Z).length)) = ivs (stL Z t k e h f) ∧ (ivs (stL Z t k e h f)).length = 69) := hide (by
    have h1 : (ivs Z).length = 64 := by rw [ivs_length, hl]
    refine ⟨h1, ?_, stL_len hl _ _ _ _ _⟩
    rw [h1, List.take_zero, List.nil_append, Nat.zero_add]
    unfold stL
    rw [ivs_app, ivs_app, List.drop_append_of_le_length (by rw [ivs_length, zr64_len]; exact Nat.le_refl _), List.drop_of_length_le (by rw [ivs_length, zr64_len]; exact Nat.le_refl _), List.nil_append])
  have hc := C1.cells
  obtain ⟨_, k1, k2, k3, k4, k5⟩ := hc
  have HBU := hide (built53_five t k e h f)
  have HB1 := hide B1
  have HB2 := hide B2
  have HC2 := hide ((C1.below B2 (by omega)))
  have HR2 := hide (R1.below B2 (by omega))
  have HZ2 := hide ((hz.mono B1).mono B2)
  have HZD : Hid (rb ≠ d) := hide (fun e => by have := hz.blt (by decide); omega)
  have HG := hide hg
  have HD : Hid (d = g + 2) := hide (by omega)
  obtain ⟨V0, hV0⟩ : ∃ V0, (ivs (stL zr64 t k e h f)).toArray = V0 := ⟨_, rfl⟩
  rw [hV0] at HBU
  have HV0 := hide hV0
  clear hz B1 C1 R1 B2 hl hV0
  try rw [hg]
  go_enter Tryz.func16, Tryz.ntmps16
  go_upto_region 1 with fail
  try rw [hg]
  clear hw1
  go_upto_region 2 with (refine wpList_store_vb rfl 48 (.tmp 3) (.tmp 14) rfl d (ivs (stL zr64 t k e h f)) _ (by simp [Act.eval]) (by rfl) V2 (by rw [stL_len zr64_len, stL_len zr64_len]) (by rw [stL_len zr64_len]; exact row53) (by simpa using ivs_one _) ?_; intro w4 V4 K4)
  try rw [hd]
  have HDD := hide hd
  clear hw2 V2 k1 k2 k3 k4 k5
  have HB4 : Hid (Below w1.heap.size w1 w4) := hide (HB2.out.trans (K4.below HB2.out.size (fun j hj e => by have := HDD.out; omega)))
  have HC4 : Hid (∀ W, Keeps (fun j => j = d) w4 W → Ch W g (some ⟨rb, ro, none⟩) 64 c t k e h f) := hide (fun W hk => (HC2.out.keeps K4 (fun e => by have := HD.out; omega)).keeps hk (fun e => by have := HD.out; omega))
  have HZ4 : Hid (∀ W, Keeps (fun j => j = d) w4 W → Rd W (some ⟨rb, ro, none⟩) 64 c Z) := hide (fun W hk => ((HZ2.out.keepsX K4 (HZD.out)).keepsX hk (HZD.out)))
  have HR4 : Hid (∀ W, Keeps (fun j => j = d) w4 W → Vb W (g + 1) 48 (ivs (stL zr64 0 0 0 0 0))) := hide (fun W hk => (HR2.out.keeps K4 (fun e => by have := HD.out; omega)).keeps hk (fun e => by have := HD.out; omega))
  clear K4
  refine wp_region_held (S := fun W5 => Keeps (fun j => j = d) w4 W5) (by kernel_rfl) ?_
  change wpAnyH _ _ _ _ _ _ _ _ (World.drew _)
  have SW : (fun W5 => Keeps (fun j => j = d) w4 W5) w4.drew := (Keeps.refl _ _).drew
  have VDw : Vb w4.drew d 48 (ivs (stL zr64 t k e h f)) := V4.mono (drewN_below _ _ 1)
  generalize w4.drew = wd at *
  refine wpAnyH_take (i := 0) (v := .pointer (some ⟨d, 0, none⟩)) rfl (by kernel_rfl) (by kernel_rfl) (by kernel_rfl) (fun _ _ _ h => h) (Or.inl ⟨by rfl, ?_⟩) SW ?_
  · intro W5 hW5
    go_simp <;> first | done | rfl | (rw [IntKind.wrap_i64]; omega) | omega
  go_simp
  refine wpAnyH_take (i := 1) (v := .slice (some ⟨d, 0, none⟩) 64 64) rfl (by kernel_rfl) (by kernel_rfl) (by kernel_rfl) (fun _ _ _ h => h) (Or.inl ⟨by rfl, ?_⟩) SW ?_
  · intro W5 hW5
    go_simp <;> first | done | rfl | (rw [IntKind.wrap_i64]; omega) | omega
  go_simp
  refine wpAnyH_take (i := 2) (v := .pointer (some ⟨g, 0, none⟩)) rfl (by kernel_rfl) (by kernel_rfl) (by kernel_rfl) (fun _ _ _ h => h) (Or.inl ⟨by rfl, ?_⟩) SW ?_
  · intro W5 hW5
    go_simp <;> first | done | rfl | (rw [IntKind.wrap_i64]; omega) | omega
  go_simp
  refine wpAnyH_take (i := 3) (v := .slice (some ⟨rb, ro, none⟩) 64 c) rfl (by kernel_rfl) (by kernel_rfl) (by kernel_rfl) (fun _ _ _ h => h) (Or.inl ⟨by rfl, ?_⟩) SW ?_
  · intro W5 hW5
    have y0 := (HC4.out W5 hW5).cells.1
    go_simp <;> first | done | rfl | (rw [IntKind.wrap_i64]; omega) | omega
  go_simp
  refine wpAnyH_ready (rs := [4]) (by kernel_rfl) (by simp) ?_
  refine AllReadyH.cons rfl (fun K1 hK1 => ?_) AllReadyH.nil
  have hrun := run_copy_row (P := Tryz.prog) wd 22 22 3 3 d 0 64 64 ⟨rb, ro, none⟩ 64 c (ivs (stL zr64 t k e h f)).toArray 48 (ivs Z) Tryz.underlying22 (by kernel_rfl) VDw (by rw [HL.out.1]; rfl) ((HZ4.out wd SW).news) (by rw [HL.out.1]; simp [ivs, stL, zr64]) (by intro v hv; unfold ivs at hv; obtain ⟨q, _, rfl⟩ := List.mem_map.1 hv; rfl)
  refine wp_copy_run (.tmp 16) (.tmp 18) 22 22 (by rfl) (by rfl) (by rfl) hrun ?_
  have hlist : ((ivs (stL zr64 t k e h f)).toArray.toList.take 0 ++ ivs Z ++ (ivs (stL zr64 t k e h f)).toArray.toList.drop (0 + (ivs Z).length)) = ivs (stL Z t k e h f) := HL.out.2.1
  rw [hlist]
  have VE : Vb (wd.setRow d (ivs (stL Z t k e h f)).toArray) d 48 (ivs (stL Z t k e h f)) := VDw.setRow _
  have KE : Keeps (fun j => j = d) wd (wd.setRow d (ivs (stL Z t k e h f)).toArray) := Keeps.setRow wd d _
  generalize wd.setRow d (ivs (stL Z t k e h f)).toArray = we at *
  refine hK1.out _ _ (SW.trans KE) (fun SW => ?_)
  clear hK1 K1 VDw KE hrun hlist
  go_simp
  refine wpAnyH_done (by kernel_rfl) ?_ _
  have HSW := hide SW
  have HVE := hide VE
  have HRW := hide (HR4.out _ SW)
  clear SW VE
  rw [← HD.out]
  go_wp2_with (first
    | refine wpList_load_vb rfl 48 (.tmp 3) rfl d rfl (by rw [HL.out.2.2]; exact row53) HVE.out ?_
    | (refine wpList_store_vb rfl 48 (.tmp 2) (.tmp 20) rfl (g + 1) _ _ rfl rfl HRW.out (by rw [stL_len zr64_len, HL.out.2.2]) (by rw [HL.out.2.2]; exact row53) (by simpa using ivs_one _) ?_; intro w20 L20 K20))
  refine bodyPost_ret (results_row rfl _ _ (g + 1) rfl (run_loadVar_row _ _ 48 48 _ (0, 0) _ L20 Tryz.underlying48 rfl (by rw [List.size_toArray, HL.out.2.2]; exact row53.s))) rfl ⟨rfl, ?_⟩
  have hk : Keeps (fun j => j = g + 1 ∨ j = d) w1 w20 := ((Keeps.of_all HB4.out).trans (HSW.out.mono (fun _ _ e => Or.inr e))).trans (K20.mono (fun _ _ e => Or.inl e))
  exact (show Below g w w20 from HG.out ▸ HB1.out.trans (hk.below HB1.out.size (fun j hj e => by have := HG.out; have := HD.out; omega)))

end Go.Proofs.YtdmlamnonbmboaaGreatDoor
