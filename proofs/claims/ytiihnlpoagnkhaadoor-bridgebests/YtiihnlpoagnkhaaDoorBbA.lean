/-
  Arguments that are rows of hands. No conditions beyond those that each theorem bears.
-/
import Derived.Test.YtiihnlpoagnkhaaDoorBb5
import Derived.Deep.Slices
import Derived.OpenShut
import Derived.SizedLaws
namespace Go.Proofs.YtiihnlpoagnkhaaDoor
open Go.RowKit Go.ChangeShapes Go.WideShapes

theorem hands_bytes3 : Tryd.prog.bytesOf 3 = 8 := by kernel_rfl
theorem hands_bytes27 : Tryd.prog.bytesOf 27 = 24 := by kernel_rfl
theorem hands_cells27 : Tryd.prog.cellsOf 27 = 1 := by kernel_rfl

theorem weights_all {H : Type} {P : Program} {e : TypeId} : ∀ {l : List (DataW H)} {d : DataW H}, d ∈ l → ∀ n ∈ d.weights P e, n ∈ DataW.weightsAll P e l
  | [], _, h, _, _ => by cases h
  | x :: l, d, h, n, hn => by
    simp only [DataW.weightsAll, List.mem_append]
    rcases List.mem_cons.1 h with rfl | h
    · exact Or.inl hn
    · exact Or.inr (weights_all h n hn)

theorem open_hand {H : Type} {enc : TypeId × Value → H} {W : World} {fuel : Nat} {v : Value} {d : DataW H} {p : List MemPlace}
    (h : DataW.trod enc Tryd.prog W 0 (fun _ => true) true fuel 27 [v] = some (d, p)) :
    ∃ (z : List Int) (a : Option Addr) (c : Nat), v = .slice a z.length c ∧ Rd W a z.length c z ∧ (z.length = 0 ∨ ∃ m, z.length ≤ m ∧ m * 8 ∈ d.weights Tryd.prog 27) := by
  rcases open_ints Tryd.underlying27 Tryd.underlying3 (by kernel_rfl) h with ⟨hcs, _⟩ | ⟨x, l, c, zs, hcs, _, hl, hm, hz, hx, hcell, _⟩
  · simp at hcs
    subst hcs
    exact ⟨[], none, 0, rfl, Rd.of_nil _, Or.inl rfl⟩
  · simp at hcs
    subst hcs
    simp only [if_true] at hz
    have hR := Rd.of_open hl hm hz hcell
    have hlen := hR.len
    refine ⟨_, some x, c, by rw [hlen], by rw [hlen]; exact hR, Or.inr ⟨zs.length, by rw [hlen]; omega, ?_⟩⟩
    simp only [Prod.mk.injEq] at hx
    rw [hx.1]
    simp only [DataW.weights, Tryd.underlying27, hands_bytes3, lits, List.length_map, List.length_take, List.length_drop]
    refine List.mem_cons.2 (Or.inl ?_)
    rw [show min l zs.length + (zs.length - l) = zs.length by omega]

theorem open_hands {H : Type} {enc : TypeId × Value → H} {W : World} {a : Option Addr} {n c : Nat} {d : DataW H} {p : List MemPlace} {ts : List TypeId} {ds : List (DataW H)}
    (h : DataW.Trod enc Tryd.prog W 0 (fun _ => true) true 22 (.slice a n c) d p) (ht : ts[0]? = some 22) (hd : ds[0]? = some d)
    (hsz : (DataW.weightsEach Tryd.prog ts ds).all (· ≤ reachBytes) = true) :
    ∃ Z : Nat → List Int, HI W a n Z ∧ n * 24 ≤ 140737488351232 ∧ ∀ i, i < n → (Z i).length * 8 ≤ 140737488351232 := by
  have hall : ∀ k, k ∈ d.weights Tryd.prog 22 → k ≤ 140737488351232 := fun k hk => by
    have := List.all_eq_true.1 hsz _ (DataW.weights_mem_each (j := 0) ht hd _ hk)
    have := of_decide_eq_true this
    unfold reachBytes at this
    omega
  obtain ⟨fuel, hf⟩ := h
  rcases Go.Deep.open_slice1 Tryd.underlying22 hands_cells27 hf with ⟨hcs, hx⟩ | ⟨x, l, cap, m, k, V, D, Pl, hcs, _, hl, hm, hmm, hx, hel⟩
  · simp [Value.cells] at hcs
    obtain ⟨rfl, rfl, rfl⟩ := hcs
    exact ⟨fun _ => [], ⟨fun i hi => by omega⟩, by omega, fun i hi => by omega⟩
  · simp [Value.cells] at hcs
    obtain ⟨rfl, rfl, rfl⟩ := hcs
    simp only [if_true] at hmm
    subst hmm
    simp only [Prod.mk.injEq] at hx
    obtain ⟨Z, hZ⟩ := Go.Deep.choose_lt (p := fun i (z : List Int) => ∃ (ai : Option Addr) (ci : Nat), V i = .slice ai z.length ci ∧ Rd W ai z.length ci z ∧ (z.length = 0 ∨ ∃ q, z.length ≤ q ∧ q * 8 ∈ (D i).weights Tryd.prog 27)) (fun i (hi : i < m) => open_hand (hel i hi).2)
    have hw : d.weights Tryd.prog 22 = (((List.range n).map D).length * 24 + (((List.range (m - n)).map fun j => D (n + j)).length) * 24) :: (DataW.weightsAll Tryd.prog 27 ((List.range n).map D) ++ DataW.weightsAll Tryd.prog 27 ((List.range (m - n)).map fun j => D (n + j))) := by
      rw [hx.1]
      simp only [DataW.weights, Tryd.underlying22, hands_bytes27, Nat.add_mul]
    refine ⟨Z, ⟨fun i hi => ?_⟩, ?_, fun i hi => ?_⟩
    · obtain ⟨ai, ci, e1, e2, -⟩ := hZ i (by omega)
      obtain ⟨b, off, spot⟩ := x
      have hspot : spot = none := by
        have := World.cell?_spot (hel 0 (by omega)).1
        simpa [Addr.add] using this
      subst hspot
      refine ⟨b, off, ai, ci, rfl, ?_, e2⟩
      have := (hel i (by omega)).1
      rw [Addr.add_lit, e1] at this
      exact this
    · have := hall _ (by rw [hw]; exact List.mem_cons_self)
      simp at this
      omega
    · obtain ⟨ai, ci, e1, e2, e3⟩ := hZ i (by omega)
      rcases e3 with e3 | ⟨q, e3, e4⟩
      · omega
      · have := hall _ (by
          rw [hw]
          exact List.mem_cons_of_mem _ (List.mem_append_left _ (weights_all (List.mem_map.2 ⟨i, by simpa using hi, rfl⟩) _ e4)))
        omega

end Go.Proofs.YtiihnlpoagnkhaaDoor
