/-
  Arguments that are boards and lists. No conditions beyond those that each theorem bears.
-/
import Derived.Test.YtafiaimlmdflnaaBs
import Derived.OpenShut
import Derived.SizedLaws
import Derived.Lib.SmallJoins
namespace Go.Proofs.Ytafiaimlmdflnaa
open Go.RowKit Go.ChangeShapes Go.WideShapes Go.Joins

theorem args_bytes3 : Try.prog.bytesOf 3 = 8 := by kernel_rfl

set_option maxRecDepth 100000 in
theorem open_gd {H : Type} {enc : TypeId × Value → H} {W : World} {b0 : Nat} {r : Reach} {v : Value} {d : DataW H} {p : List MemPlace} {ts : List TypeId} {ds : List (DataW H)}
    (hv : Value.okWide Try.prog W r b0 24 v) (h : DataW.Trod enc Try.prog W 0 (fun _ => true) true 24 v d p) (ht : ts[0]? = some 24) (hd : ds[0]? = some d)
    (hsz : (DataW.weightsEach Try.prog ts ds).all (· ≤ reachBytes) = true) :
    ∃ (a : Option Addr) (n c : Nat) (P : List Int) (x y : Int), v = .agg (gdA x y a n c) ∧ Rd W a n c P ∧ n * 8 ≤ 140737488351232 ∧ ∀ u ∈ P, -9223372036854775808 ≤ u ∧ u ≤ 9223372036854775807 := by
  obtain ⟨v0, v1, v2, y0, y1, y2, m0, rfl, hdd, _, hy0, hy1, hy2⟩ := open_agg3 Try.underlying24 (by kernel_rfl) (by kernel_rfl) hv h
  obtain ⟨x1, e1, e1', _⟩ := DataW.trod_int Try.underlying3 hy0
  obtain ⟨x2, e2, e2', _⟩ := DataW.trod_int Try.underlying3 hy1
  simp at e1 e2
  subst e1 e2
  rcases open_ints Try.underlying22 Try.underlying3 (by kernel_rfl) hy2 with ⟨hcs, _⟩ | ⟨x, l, c, zs, hcs, _, hl, hm, hz, hx, hcell, hwf⟩
  · simp at hcs
    subst hcs
    exact ⟨none, 0, 0, [], x1, x2, rfl, Rd.of_nil _, by omega, fun u hu => by simp at hu⟩
  · simp at hcs
    subst hcs
    simp only [if_true] at hz
    have hR := Rd.of_open hl hm hz hcell
    refine ⟨some x, l, c, _, x1, x2, rfl, hR, ?_, ?_⟩
    · have hw : (zs.length * 8) ∈ d.weights Try.prog 24 := by
        rw [hdd, hx]
        simp only [DataW.weights, Try.underlying24, List.map_cons, List.map_nil, DataW.weightsEach, Try.underlying22, args_bytes3, lits, List.length_map, List.length_take, List.length_drop]
        refine List.mem_append_right _ (List.mem_append_right _ (List.mem_append_left _ (List.mem_cons.2 (Or.inl ?_))))
        rw [show min l zs.length + (zs.length - l) = zs.length by omega]
      have := List.all_eq_true.1 hsz _ (DataW.weights_mem_each (j := 0) ht hd _ hw)
      have := of_decide_eq_true this
      unfold reachBytes at this
      omega
    · intro u hu
      have := hwf u (List.mem_of_mem_take hu)
      exact bounds_i64 this

set_option maxRecDepth 100000 in
theorem open_in {H : Type} {enc : TypeId × Value → H} {W : World} {b0 : Nat} {r : Reach} {v : Value} {d : DataW H} {p : List MemPlace} {ts : List TypeId} {ds : List (DataW H)} {j : Nat}
    (hv : Value.okWide Try.prog W r b0 22 v) (h : DataW.Trod enc Try.prog W 0 (fun _ => true) true 22 v d p) (ht : ts[j]? = some 22) (hd : ds[j]? = some d)
    (hsz : (DataW.weightsEach Try.prog ts ds).all (· ≤ reachBytes) = true) :
    ∃ (a : Option Addr) (n c : Nat) (P : List Int), v = .slice a n c ∧ Rd W a n c P ∧ n * 8 ≤ 140737488351232 ∧ ∀ u ∈ P, -9223372036854775808 ≤ u ∧ u ≤ 9223372036854775807 := by
  obtain ⟨a0, n0, c0, rfl⟩ := okWide_slice Try.underlying22 hv
  obtain ⟨f, hf⟩ := h
  rcases open_ints Try.underlying22 Try.underlying3 (by kernel_rfl) hf with ⟨hcs, _⟩ | ⟨x, l, c, zs, hcs, _, hl, hm, hz, hx, hcell, hwf⟩
  · simp [Value.cells] at hcs
    obtain ⟨rfl, rfl, rfl⟩ := hcs
    exact ⟨none, 0, 0, [], rfl, Rd.of_nil _, by omega, fun u hu => by simp at hu⟩
  · simp [Value.cells] at hcs
    obtain ⟨rfl, rfl, rfl⟩ := hcs
    simp only [Prod.mk.injEq] at hx
    obtain ⟨rfl, rfl⟩ := hx
    simp only [if_true] at hz
    refine ⟨_, _, _, _, rfl, Rd.of_open hl hm hz hcell, ?_, fun u hu => bounds_i64 (hwf u (List.mem_of_mem_take hu))⟩
    have := sized_slice hsz (j := j) (t := 22) (e := 3) ht hd Try.underlying22
    rw [args_bytes3] at this
    simp only [lits, List.length_map, List.length_take, List.length_drop, reachBytes] at this
    omega

end Go.Proofs.Ytafiaimlmdflnaa
