/-
  The row of all pieces that one comes to. No conditions beyond those that each theorem bears.
-/
import Derived.Test.YtjcglpnpdalcjaaRev
import Derived.Laws.EntriesVeiled
namespace Go.Proofs.Ytjcglpnpdalcjaa
open Go.RowKit
attribute [local go_sem] build35 run_eq35 guard35
attribute [local irreducible] hz hzL

set_option maxHeartbeats 4000000 in
theorem rowFrom_any (v mb B0 : Nat) (m : List Pc) (w : World) (hv : v < 10) (hM : Mp w mb (cntF m)) (hB : B0 ≤ mb) (hm : m.length ≤ 900) :
    Calls Try.prog 29 #[.int .i64 v, .map (some mb)] w fun e w' => ∃ a c, e = .returned (.slice a (hz (m.length + 1) m v).1.length c) ∧ Rp w' a (hz (m.length + 1) m v).1.length c (hz (m.length + 1) m v).1.reverse ∧ Below B0 w w' := by
  have hmlt := hM.lt
  have HM := hide hM
  have HV := hide hv
  have HMM := hide hm
  obtain ⟨A, hA⟩ : ∃ A, A = (hz (m.length + 1) m v).1 := ⟨_, rfl⟩
  rw [← hA]
  have HAE := hide hA
  clear hM hv hm hA
  go_enter Try.func29, Try.ntmps29
  go_wp2_with fail
  obtain ⟨w1, hw1⟩ : ∃ w1, w1 = (((w.alloc (.cells #[.map (some mb)] 47)).alloc (.cells #[.slice none 0 0] 22)).alloc (.cells #[.func (.func 36) #[] #[.pointer (some ⟨w.heap.size, 0, none⟩), .pointer (some ⟨w.heap.size + 1 + 1, 0, none⟩), .pointer (some ⟨w.heap.size + 1, 0, none⟩)]] 58)) := ⟨_, rfl⟩
  rw [← hw1]
  have B1 : Below w.heap.size w w1 := by
    rw [hw1]
    exact (((Below.refl _ w).alloc (Nat.le_refl _) _).alloc (by simp [World.size_alloc]) _).alloc (by simp [World.size_alloc]; omega) _
  have S1 : w1.heap.size = w.heap.size + 1 + 1 + 1 := by rw [hw1]; simp [World.size_alloc]
  obtain ⟨L, e1, e2, e3, e4, e5, e6⟩ : ∃ L : Lie, L.lb = w.heap.size ∧ L.gb = w.heap.size + 1 + 1 ∧ L.rb = w.heap.size + 1 ∧ L.mb = mb ∧ L.B0 = B0 ∧ L.Bq = w.heap.size + 1 + 1 + 1 :=
    ⟨{ lb := w.heap.size, gb := w.heap.size + 1 + 1, rb := w.heap.size + 1, mb := mb, B0 := B0, Bq := w.heap.size + 1 + 1 + 1, l0 := by omega, g0 := by omega, r0 := by omega, m0 := by omega, l1 := by omega, g1 := by omega, r1 := by omega, m1 := by omega, lr := by omega, gr := by omega, mr := by omega }, rfl, rfl, rfl, rfl, rfl, rfl⟩
  have hC1 : Cell1 w1 (w.heap.size + 1) 22 (.slice none 0 0) := by
    rw [hw1]
    have h1 := heap_alloc_new (w.alloc (.cells #[.map (some mb)] 47)) (.cells #[.slice none 0 0] 22)
    rw [World.size_alloc] at h1
    exact (Below.heap_alloc _ _ _ (by simp [World.size_alloc])).trans h1
  have HE1 : Hid (EnvR L w1 m []) := hide ⟨by rw [e4]; exact HM.out.below B1, by rw [e1, e4, hw1]; go_simp, by rw [e1, e2, e3, hw1]; go_simp, by rw [S1, e6]; exact Nat.le_refl _, none, 0, by rw [e3]; exact hC1, World.ownsRow_nil _ _ _ _⟩
  have g1 : w1.cell? ⟨w.heap.size + 1 + 1, 0, none⟩ = some (.func (.func 36) #[] #[.pointer (some ⟨w.heap.size, 0, none⟩), .pointer (some ⟨w.heap.size + 1 + 1, 0, none⟩), .pointer (some ⟨w.heap.size + 1, 0, none⟩)]) := by
    have := HE1.out.goOn
    rw [e1, e2, e3] at this
    exact this
  have HB1 := hide (B1.mono (show B0 ≤ w.heap.size by omega))
  have hcall := hz_any L m.length m v HV.out (Nat.le_refl _) w1 [] HE1.out (by have := HMM.out; simp; omega)
  rw [e1, e2, e3] at hcall
  have HCALL := hide hcall
  have E3 := hide e3
  have E5 := hide e5
  have E6 := hide e6
  clear hw1 hC1 B1 hcall e1 e2 e3 e4 e5 e6
  go_wp2_with fail
  refine HCALL.out.mono ?_
  rintro e w2 ⟨rfl, hE2, hB2⟩
  rw [List.nil_append] at hE2
  rw [E5.out] at hB2
  clear HCALL
  have HLA : Hid (A.length ≤ 1000) := hide (by have := hz_len (m.length + 1) m v; have := HMM.out; rw [HAE.out]; omega)
  rw [← HAE.out] at hE2
  obtain ⟨ra, rc, hC2, hO2⟩ := hE2.row
  have HB2 := hide (HB1.out.trans hB2)
  have rc2 : w2.cell? ⟨w.heap.size + 1, 0, none⟩ = some (.slice ra A.length rc) := by rw [← E3.out]; exact hC2.cell
  rw [E6.out] at hO2
  have HO2 := hide hO2
  have hs2 := hE2.size
  rw [E6.out] at hs2
  have HS2 := hide hs2
  clear hs2
  clear hE2 hB2 hC2 hO2 HB1 HE1 g1 E3 E5 E6
  rcases HO2.out.2 with ⟨hv, h0⟩ | ⟨g, cap, cur, hv, hb, -⟩
  · have hA : A = [] := List.eq_nil_of_length_eq_zero h0
    subst hA
    simp only [Value.slice.injEq] at hv
    obtain ⟨rfl, -, rfl⟩ := hv
    simp only [List.length_nil] at rc2
    clear h0
    go_wp2_with fail
    refine (Reverse_nil none 0 w2).mono ?_
    rintro e w3 ⟨rfl, hw3⟩
    subst w3
    go_wp2_with fail
    go_ret
    exact ⟨none, 0, rfl, Rp.of_own HO2.out, HB2.out⟩
  · simp only [Value.slice.injEq, true_and] at hv
    obtain ⟨rfl, rfl⟩ := hv
    go_wp2_with fail
    refine (Reverse_any g A.length rc _ A w2 HO2.out HLA.out).mono ?_
    rintro e w3 ⟨rfl, hO3, hG3⟩
    have rc3 := hG3.cell rc2 (by have : w.heap.size + 1 + 1 + 1 ≤ g := hb; simp; omega)
    have HO3 := hide hO3
    have HB3 := hide (HB2.out.grown hG3 (by have := HS2.out; omega) (fun k hk => by cases hk; have : w.heap.size + 1 + 1 + 1 ≤ g := hb; omega))
    clear hO3 hG3 rc2
    go_wp2_with fail
    go_ret
    refine ⟨_, _, rfl, ?_, HB3.out⟩
    have := Rp.of_own HO3.out
    exact this

end Go.Proofs.Ytjcglpnpdalcjaa
