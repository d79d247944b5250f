/-
  DominoRows: for every list of pieces the law returns true, and its arguments read as before. No conditions.
-/
import Derived.Test.YtjcglpnpdalcjaaRowsLaw
import Derived.Test.YtjcglpnpdalcjaaArgs
import Derived.ProofKit
import Derived.OpenShut
import Derived.ShutString
import Derived.ChangeOld
import Derived.Below
import Derived.SizedLaws
namespace Go.Proofs.Ytjcglpnpdalcjaa
open Go.ChangeShapes Go.WideShapes Go.ChangeAt Go.RowKit
open Go.ChangeMaps (open_string shut_string)

theorem dominoRows_own : ownKnob Try.prog.godebug = none := by kernel_rfl
theorem dominoRows_laidOut : laidOutB Try.prog = true := by kernel_rfl
theorem dominoRows_bytes3 : Try.prog.bytesOf 3 = 8 := by kernel_rfl
theorem dominoRows_bytes35 : Try.prog.bytesOf 35 = 16 := by kernel_rfl

set_option maxRecDepth 100000 in
theorem dominoRows_lifted (os : Os) (started : os.Started) (H : Type) (enc : TypeId × Value → H) :
    ReturnsInHanded {} Try.checked os 4 .any (Rows.dominoRowsSpec.pre6 enc Try.prog Try.f4 Rows.dominoRowsRow.domain false) (Rows.dominoRowsSpec.post enc Try.prog Try.f4 false true false false) := by
  refine returnsInHanded_of_change_sized (C := Try.checked) dominoRows_own started (by kernel_rfl) Try.func4
    (ChangeSpec.witness6 (enc := enc) (C := Try.checked) false ⟨#[], #[.slice none 0 0], []⟩ 8 (by kernel_rfl) (by kernel_rfl) (by kernel_rfl) (by kernel_rfl)) ?_
  intro W base args ds gs before hval0 hW _ hsz0 _
  have hsz : (DataW.weightsEach Try.prog (Try.f4.params.toList ++ Rows.dominoRowsSpec.plain.varTypes Try.prog) (ds ++ gs)).all (· ≤ reachBytes) = true := hsz0
  clear hsz0
  have hval : ∀ (j : Nat) t v, Try.f4.params[j]? = some t → args[j]? = some v → Value.okWide Try.prog W .any base t v := hval0
  have hW' := hW
  obtain ⟨p, q, hA0, hV, rfl, _, _⟩ := hW
  have hA : DataW.TrodAll enc Try.prog W 0 (fun _ => true) true Try.f4.params.toList args.toList ds p := hA0
  rw [Try.params4] at hA hval hsz
  obtain ⟨v0, vs0, d0, ds0, p0, q0, hargs, rfl, rfl, h0, r0⟩ := trodAll_cons hA
  obtain ⟨rfl, rfl, rfl⟩ := trodAll_nil r0
  obtain rfl : args = #[v0] := by cases args; simp_all
  obtain ⟨rfl, rfl⟩ := trodVars_none hV
  obtain ⟨a0, n0, c0, rfl⟩ := okWide_slice Try.underlying22 (hval 0 22 v0 rfl rfl)
  have k0 := h0
  have lt0 : ∀ x ∈ p0, x.block < W.heap.size := by obtain ⟨m, hm⟩ := k0; exact DataW.trod_lt m _ _ _ hm
  obtain ⟨z0, w0, reach0⟩ : ∃ zs, Rp W a0 n0 c0 zs ∧ n0 * 16 ≤ 140737488351232 := by
    obtain ⟨ps, hR, hd⟩ := open_pcs h0
    refine ⟨ps, hR, ?_⟩
    rcases hd with ⟨_, h0⟩ | ⟨es, sp, rfl, hl⟩
    · omega
    · have := sized_slice hsz (j := 0) (t := 22) (e := 35) rfl rfl Try.underlying22
      rw [dominoRows_bytes35] at this
      simp only [reachBytes] at this
      omega
  clear hA0 hval0
  refine (law4_any a0 n0 c0 z0 W w0 reach0).mono fun e W' ⟨he, bel⟩ => ?_
  subst he
  exact ⟨_, rfl, _, _, _, [], _, [], hW', trodAll_mk1 (shut_bool Try.underlying4 _), (trodAll_cons_mk (Below.trod dominoRows_laidOut (by kernel_rfl) (of_decide_eq_true (by kernel_rfl)) k0 bel lt0) trodAll_mk0), rfl, bel.frame _, fun h => by cases h⟩

theorem dominoRows_over : Rows.dominoRowsRow.holds Try.pinned (OpenSpec.ofChange Rows.dominoRowsSpec) :=
  OpenClaim.holds_of_wide 4 Try.f4 rfl rfl rfl rfl rfl rfl rfl ⟨rfl, rfl, rfl, rfl, rfl⟩ rfl rfl rfl rfl rfl (by kernel_rfl) Try.func4 (by kernel_rfl)
    (of_decide_eq_true (by kernel_rfl)) (by unfold Func.isWrapper; first | (rw [if_pos (by decide +kernel)]; kernel_rfl) | (rw [if_neg (by decide +kernel)]; exact ⟨rfl, rfl⟩))
    (fun os started H enc _ => dominoRows_lifted os started H enc)

/-- The statement. -/
theorem dominoRows_holds : Rows.DominoRowsSaid := dominoRows_over
#print axioms dominoRows_holds

end Go.Proofs.Ytjcglpnpdalcjaa
