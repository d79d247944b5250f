/-
  DominoSets: for every number and every list of pieces the law returns true, and its arguments read as before. No conditions.
-/
import Derived.Test.YtjcglpnpdalcjaaSetsLaw
import Derived.Test.YtjcglpnpdalcjaaArgs
import Derived.ProofKit
import Derived.OpenShut
import Derived.ShutString
import Derived.ChangeOld
import Derived.Below
import Derived.SizedLaws
namespace Go.Proofs.Ytjcglpnpdalcjaa
open Go.ChangeShapes Go.WideShapes Go.ChangeAt Go.RowKit
open Go.ChangeMaps (open_string shut_string)

theorem dominoSets_own : ownKnob Try.prog.godebug = none := by kernel_rfl
theorem dominoSets_laidOut : laidOutB Try.prog = true := by kernel_rfl
theorem dominoSets_bytes3 : Try.prog.bytesOf 3 = 8 := by kernel_rfl
theorem dominoSets_bytes35 : Try.prog.bytesOf 35 = 16 := by kernel_rfl

set_option maxRecDepth 100000 in
theorem dominoSets_lifted (os : Os) (started : os.Started) (H : Type) (enc : TypeId × Value → H) :
    ReturnsInHanded {} Try.checked os 3 .any (Rows.dominoSetsSpec.pre6 enc Try.prog Try.f3 Rows.dominoSetsRow.domain false) (Rows.dominoSetsSpec.post enc Try.prog Try.f3 false true false false) := by
  refine returnsInHanded_of_change_sized (C := Try.checked) dominoSets_own started (by kernel_rfl) Try.func3
    (ChangeSpec.witness6 (enc := enc) (C := Try.checked) false ⟨#[], #[.int .i64 0, .slice none 0 0], []⟩ 8 (by kernel_rfl) (by kernel_rfl) (by kernel_rfl) (by kernel_rfl)) ?_
  intro W base args ds gs before hval0 hW _ hsz0 _
  have hsz : (DataW.weightsEach Try.prog (Try.f3.params.toList ++ Rows.dominoSetsSpec.plain.varTypes Try.prog) (ds ++ gs)).all (· ≤ reachBytes) = true := hsz0
  clear hsz0
  have hval : ∀ (j : Nat) t v, Try.f3.params[j]? = some t → args[j]? = some v → Value.okWide Try.prog W .any base t v := hval0
  have hW' := hW
  obtain ⟨p, q, hA0, hV, rfl, _, _⟩ := hW
  have hA : DataW.TrodAll enc Try.prog W 0 (fun _ => true) true Try.f3.params.toList args.toList ds p := hA0
  rw [Try.params3] at hA hval hsz
  obtain ⟨v0, vs0, d0, ds0, p0, q0, hargs, rfl, rfl, h0, r0⟩ := trodAll_cons hA
  obtain ⟨v1, vs1, d1, ds1, p1, q1, rfl, rfl, rfl, h1, r1⟩ := trodAll_cons r0
  obtain ⟨rfl, rfl, rfl⟩ := trodAll_nil r1
  obtain rfl : args = #[v0, v1] := by cases args; simp_all
  obtain ⟨rfl, rfl⟩ := trodVars_none hV
  obtain ⟨a0, rfl, rfl, rfl, w0⟩ := open_int Try.underlying3 (hval 0 3 v0 rfl rfl) h0
  obtain ⟨a1, n1, c1, rfl⟩ := okWide_slice Try.underlying22 (hval 1 22 v1 rfl rfl)
  have k1 := h1
  have lt1 : ∀ x ∈ p1, x.block < W.heap.size := by obtain ⟨m, hm⟩ := k1; exact DataW.trod_lt m _ _ _ hm
  obtain ⟨z1, w1, reach1⟩ : ∃ zs, Rp W a1 n1 c1 zs ∧ n1 * 16 ≤ 140737488351232 := by
    obtain ⟨ps, hR, hd⟩ := open_pcs h1
    refine ⟨ps, hR, ?_⟩
    rcases hd with ⟨_, h0⟩ | ⟨es, sp, rfl, hl⟩
    · omega
    · have := sized_slice hsz (j := 1) (t := 22) (e := 35) rfl rfl Try.underlying22
      rw [dominoSets_bytes35] at this
      simp only [reachBytes] at this
      omega
  clear hA0 hval0
  refine (law3_any a0 a1 n1 c1 z1 W w1 reach1).mono fun e W' ⟨he, bel⟩ => ?_
  subst he
  exact ⟨_, rfl, _, _, _, [], _, [], hW', trodAll_mk1 (shut_bool Try.underlying4 _), (trodAll_cons_mk (shut_int Try.underlying3 w0) (trodAll_cons_mk (Below.trod dominoSets_laidOut (by kernel_rfl) (of_decide_eq_true (by kernel_rfl)) k1 bel lt1) trodAll_mk0)), rfl, bel.frame _, fun h => by cases h⟩

theorem dominoSets_over : Rows.dominoSetsRow.holds Try.pinned (OpenSpec.ofChange Rows.dominoSetsSpec) :=
  OpenClaim.holds_of_wide 3 Try.f3 rfl rfl rfl rfl rfl rfl rfl ⟨rfl, rfl, rfl, rfl, rfl⟩ rfl rfl rfl rfl rfl (by kernel_rfl) Try.func3 (by kernel_rfl)
    (of_decide_eq_true (by kernel_rfl)) (by unfold Func.isWrapper; first | (rw [if_pos (by decide +kernel)]; kernel_rfl) | (rw [if_neg (by decide +kernel)]; exact ⟨rfl, rfl⟩))
    (fun os started H enc _ => dominoSets_lifted os started H enc)

/-- The statement. -/
theorem dominoSets_holds : Rows.DominoSetsSaid := dominoSets_over
#print axioms dominoSets_holds

end Go.Proofs.Ytjcglpnpdalcjaa
