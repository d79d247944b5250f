/-
  Arguments that are boards. No conditions beyond those that each theorem bears.
-/
import Derived.Test.YtmboikpcbkiepaaStepF
import Derived.OpenShut
import Derived.SizedLaws
import Derived.Lib.SmallJoins
namespace Go.Proofs.Ytmboikpcbkiepaa
open Go.RowKit Go.ChangeShapes Go.WideShapes Go.Joins

theorem args_bytes3 : Try.prog.bytesOf 3 = 8 := by kernel_rfl

set_option maxRecDepth 100000 in
theorem open_gm {H : Type} {enc : TypeId × Value → H} {W : World} {b0 : Nat} {r : Reach} {v : Value} {d : DataW H} {p : List MemPlace} {ts : List TypeId} {ds : List (DataW H)}
    (hv : Value.okWide Try.prog W r b0 24 v) (h : DataW.Trod enc Try.prog W 0 (fun _ => true) true 24 v d p) (ht : ts[0]? = some 24) (hd : ds[0]? = some d)
    (hsz : (DataW.weightsEach Try.prog ts ds).all (· ≤ reachBytes) = true) :
    ∃ (a : Option Addr) (n c : Nat) (P : List Int) (x y z : Int), v = .agg (gmA a n c x y z) ∧ Rd W a n c P ∧ n * 8 ≤ 140737488351232 ∧ ∀ u ∈ P, -9223372036854775808 ≤ u ∧ u ≤ 9223372036854775807 := by
  obtain ⟨v0, v1, v2, v3, y0, y1, y2, y3, m0, rfl, hdd, _, hy0, hy1, hy2, hy3⟩ := open_agg4 Try.underlying24 (by kernel_rfl) (by kernel_rfl) hv h
  obtain ⟨x1, e1, _, _⟩ := DataW.trod_int Try.underlying3 hy1
  obtain ⟨x2, e2, _, _⟩ := DataW.trod_int Try.underlying3 hy2
  obtain ⟨x3, e3, _, _⟩ := DataW.trod_int Try.underlying3 hy3
  simp at e1 e2 e3
  subst e1 e2 e3
  rcases open_ints Try.underlying22 Try.underlying3 (by kernel_rfl) hy0 with ⟨hcs, _⟩ | ⟨x, l, c, zs, hcs, _, hl, hm, hz, hx, hcell, hwf⟩
  · simp at hcs
    subst hcs
    exact ⟨none, 0, 0, [], x1, x2, x3, rfl, Rd.of_nil _, by omega, fun u hu => by simp at hu⟩
  · simp at hcs
    subst hcs
    simp only [if_true] at hz
    have hR := Rd.of_open hl hm hz hcell
    refine ⟨some x, l, c, _, x1, x2, x3, rfl, hR, ?_, ?_⟩
    · have hw : (zs.length * 8) ∈ d.weights Try.prog 24 := by
        rw [hdd, hx]
        simp only [DataW.weights, Try.underlying24, List.map_cons, List.map_nil, DataW.weightsEach, Try.underlying22, args_bytes3, lits, List.length_map, List.length_take, List.length_drop]
        refine List.mem_append_left _ (List.mem_cons.2 (Or.inl ?_))
        rw [show min l zs.length + (zs.length - l) = zs.length by omega]
      have := List.all_eq_true.1 hsz _ (DataW.weights_mem_each (j := 0) ht hd _ hw)
      have := of_decide_eq_true this
      unfold reachBytes at this
      omega
    · intro u hu
      have := hwf u (List.mem_of_mem_take hu)
      exact bounds_i64 this

end Go.Proofs.Ytmboikpcbkiepaa
