/-
  Arguments that are pieces or slices of pieces. No conditions beyond those that each theorem bears.
-/
import Derived.Test.YtjcglpnpdalcjaaBase
import Derived.Deep.Slices
import Derived.OpenShut
namespace Go.Proofs.Ytjcglpnpdalcjaa
open Go.RowKit Go.ChangeShapes Go.WideShapes

theorem cells35 : Try.prog.cellsOf 35 = 2 := by kernel_rfl
theorem cells3 : Try.prog.cellsOf 3 = 1 := by kernel_rfl

theorem open_pair {H : Type} {enc : TypeId × Value → H} {W : World} {base : Nat} {sp : Nat → Bool} {held : Bool} {fuel : Nat} {cs : List Value} {x : DataW H × List MemPlace}
    (h : DataW.trod enc Try.prog W base sp held fuel 35 cs = some x) : ∃ a b : Int, cs = [.int .i64 a, .int .i64 b] := by
  obtain ⟨xs, m, _, _, hl, hx, hel⟩ := DataW.trod_array Try.underlying35 h
  rw [cells35] at hl
  match cs, hl with
  | [v0, v1], _ =>
    have h0 := hel 0 (by omega)
    have h1 := hel 1 (by omega)
    rw [cells3] at h0 h1
    simp only [Nat.zero_mul, List.drop_zero, List.take_succ_cons, List.take_zero, Nat.one_mul, List.drop_succ_cons] at h0 h1
    rw [List.getElem?_eq_getElem (by omega)] at h0 h1
    obtain ⟨a, e0, _, _⟩ := DataW.trod_int Try.underlying3 h0
    obtain ⟨b, e1, _, _⟩ := DataW.trod_int Try.underlying3 h1
    simp at e0 e1
    exact ⟨a, b, by rw [e0, e1]⟩

theorem open_pc {H : Type} {enc : TypeId × Value → H} {W : World} {base b0 : Nat} {sp : Nat → Bool} {held : Bool} {r : Reach} {v : Value} {d : DataW H} {p : List MemPlace}
    (hv : Value.okWide Try.prog W r b0 35 v) (h : DataW.Trod enc Try.prog W base sp held 35 v d p) : ∃ q : Pc, v = pv q := by
  obtain ⟨fuel, hf⟩ := h
  obtain ⟨a, b, hc⟩ := open_pair hf
  have : ∃ cs, v = .agg cs := by
    simp only [Value.okWide, Try.underlying35] at hv
    cases v <;> simp_all
  obtain ⟨cs, rfl⟩ := this
  refine ⟨(a, b), ?_⟩
  have : cs = #[.int .i64 a, .int .i64 b] := by
    cases cs
    simpa [Value.cells] using hc
  rw [this]
  rfl

theorem open_pcs {H : Type} {enc : TypeId × Value → H} {W : World} {a : Option Addr} {n c : Nat} {d : DataW H} {p : List MemPlace}
    (h : DataW.Trod enc Try.prog W 0 (fun _ => true) true 22 (.slice a n c) d p) : ∃ ps, Rp W a n c ps ∧ ((d = .nil ∧ n = 0) ∨ ∃ es sp, d = .slice es sp ∧ es.length = n) := by
  obtain ⟨fuel, hf⟩ := h
  rcases Go.Deep.open_slice Try.underlying22 hf with ⟨hcs, hx⟩ | ⟨x, l, cap, m, k, D, Pl, hcs, _, hl, hm, hmm, hx, hel⟩
  · simp [Value.cells] at hcs
    obtain ⟨rfl, rfl, rfl⟩ := hcs
    simp only [Prod.mk.injEq] at hx
    exact ⟨[], Rp.of_nil _, Or.inl ⟨hx.1, rfl⟩⟩
  · simp [Value.cells] at hcs
    obtain ⟨rfl, rfl, rfl⟩ := hcs
    simp only [if_true] at hmm
    subst hmm
    simp only [Prod.mk.injEq] at hx
    have hcells : ∀ i, i < m → ∃ q : Pc, W.cell? (x.add (i * 2)) = some (.int .i64 q.1) ∧ W.cell? (x.add (i * 2 + 1)) = some (.int .i64 q.2) := by
      intro i hi
      obtain ⟨cs', h1, h2⟩ := hel i hi
      rw [cells35] at h1
      obtain ⟨q0, q1, rfl⟩ := open_pair h2
      obtain ⟨_, _, hcell⟩ := World.cells?_some h1
      have e0 := hcell 0 (by omega)
      have e1 := hcell 1 (by omega)
      refine ⟨(q0, q1), ?_, ?_⟩
      · simpa [Addr.add] using e0
      · by_cases h0 : i = 0
        · subst h0
          simpa [Addr.add] using e1
        · have h0' : ¬ i * 2 = 0 := by omega
          simpa [Addr.add, h0', Nat.add_assoc] using e1
    obtain ⟨F, hF⟩ := Go.Deep.choose_lt hcells
    refine ⟨(List.range n).map F, ⟨by simp, hl, hm, (fun h => by simp at h), fun hn => ?_⟩, Or.inr ⟨_, _, hx.1, by simp⟩⟩
    obtain ⟨b, off, spot⟩ := x
    have hspot : spot = none := by simpa [Addr.add] using World.cell?_spot (hF 0 (by omega)).1
    subst hspot
    refine ⟨b, off, rfl, fun i hi => ?_⟩
    have := hF i (by omega)
    rw [Addr.add_lit, Addr.add_lit] at this
    simpa [List.getD, hi, Nat.add_assoc] using this

end Go.Proofs.Ytjcglpnpdalcjaa
