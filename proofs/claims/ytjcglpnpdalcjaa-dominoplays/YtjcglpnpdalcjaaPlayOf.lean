/-
  The document's own way to lay a piece at a row's end. No conditions beyond those that each theorem bears.
-/
import Derived.Test.YtjcglpnpdalcjaaPlay2
namespace Go.Proofs.Ytjcglpnpdalcjaa
open Go.RowKit
attribute [local go_sem] build35 run_eq35 guard35

theorem old_cell {w : World} {p : Addr} {v : Value} (o : Obj) (h : w.cell? p = some v) : (w.alloc o).cell? p = some v :=
  (((Below.refl w.heap.size w).alloc (Nat.le_refl _) o).cell (World.block_lt_of_cell? w _ h)).trans h

def playO (ps : List Pc) (p : Pc) (right : Bool) : List Pc × Bool := match playD ps p right with
  | some L => (L, true)
  | none => ([], false)

theorem own_one (w : World) (x y : Int) (base g : Nat) (hg : g = w.heap.size) (hb : base ≤ w.heap.size) : (w.alloc (.cells #[.int .i64 x, .int .i64 y] 35)).ownsRow base 35 2 (.slice (some ⟨g, 0, none⟩) 1 1) 1 (flat [(x, y)]) :=
  ⟨rfl, .inr ⟨_, _, _, rfl, hg ▸ hb, hg ▸ heap_alloc_new w _, Nat.le_refl _, by unfold maxLen; omega, rfl, rfl⟩⟩

set_option maxHeartbeats 1000000 in
theorem of_R1 (b off n c : Nat) (ps : List Pc) (x y E : Int) (w : World) (h : Rp w (some ⟨b, off, none⟩) n c ps) (hn0 : 0 < n) (hn : n ≤ 1000) (hE : (ps.getD (n - 1) (0, 0)).2 = E) (h1 : x = E) :
    Calls Try.prog 21 #[.slice (some ⟨b, off, none⟩) n c, .agg #[.int .i64 x, .int .i64 y], .bool true] w fun e w' => ∃ a' c', e = .returned (.tuple #[.slice a' (n + 1) c', .bool true]) ∧ Rp w' a' (n + 1) c' (ps ++ [(x, y)]) ∧ Below w.heap.size w w' := by
  have HH := hide h
  clear h
  obtain ⟨k, rfl⟩ : ∃ k, n = k + 1 := ⟨n - 1, by omega⟩
  obtain ⟨-, -, re⟩ := HH.out.cell (i := k) (by omega)
  obtain ⟨-, rb, -⟩ := HH.out.cell (i := 0) (by omega)
  rw [Nat.zero_mul, Nat.add_zero] at rb
  rw [Nat.add_sub_cancel] at hE
  rw [hE] at re
  clear hE
  subst h1
  have re2 := fun o o' => old_cell o' (old_cell o re)
  have rb2 := fun o o' => old_cell o' (old_cell o rb)
  have t1 : ((k + 1 : Nat) : Int) - 1 = (k : Int) := by omega
  have t2 : (k : Int) + 1 - 1 = (k : Int) := by omega
  have t3 : (k : Int) < ((k + 1 : Nat) : Int) := by omega
  have t4 : (k : Int) < (k : Int) + 1 := by omega
  have t5 : (((k + 1 : Nat) : Int) == 0) = false := by simp; omega
  have t6 : ((k : Int) + 1 == 0) = false := by simp; omega
  have t7 : (0 : Int) < ((k + 1 : Nat) : Int) := by omega
  have t8 : (0 : Int) < (k : Int) + 1 := by omega
  go_enter Try.func21, Try.ntmps21
  go_wp2_with (at_builtin; refine wpList_append_rp _ rfl _ _ rfl w.heap.size _ 0 [] rfl (World.ownsRow_nil _ _ _ _) _ (k + 1) c ps rfl (HH.out.mono (((Below.refl _ _).alloc (Nat.le_refl _) _).alloc (by simp [World.size_alloc]) _)) (by omega) (by simp [World.size_alloc]; omega) ?_)
  intro v1 w1 hO1 hG1
  obtain ⟨a1, c1, hv1⟩ := own_slice hO1
  rw [hv1] at hO1 ⊢
  have hB1 := ((((Below.refl w.heap.size w).alloc (Nat.le_refl _) _).alloc (by simp [World.size_alloc]) _)).grown hG1 (by simp [World.size_alloc]; omega) (fun j hj => by simp [Value.ownBlock] at hj)
  have p0 := hG1.cell (a := ⟨w.heap.size, 0, none⟩) (v := .int .i64 x) (by go_simp) (by simp [Value.ownBlock])
  have p1 := hG1.cell (a := ⟨w.heap.size, 1, none⟩) (v := .int .i64 y) (by go_simp) (by simp [Value.ownBlock])
  have HO1 := hide hO1
  have HB1 := hide hB1
  clear hO1 hB1 hG1 hv1 re2 rb2
  go_wp2_with (at_builtin; refine wpList_append_rp _ rfl _ _ rfl w.heap.size _ (k + 1) ps rfl (HO1.out.alloc _) _ 1 1 [(x, y)] rfl (Rp.one _ _ _) (by omega) (by have := HB1.out.size; simp [World.size_alloc]; omega) ?_)
  intro v2 w2 hO2 hG2
  obtain ⟨a2, c2, hv2⟩ := own_slice hO2
  rw [hv2] at hO2 ⊢
  have HB2 := hide ((HB1.out.alloc HB1.out.size _).grown hG2 (by have := HB1.out.size; simp [World.size_alloc]; omega) (fun j hj => (HO1.out.lt j hj).1))
  have HO2 := hide hO2
  clear hO2 hG2 hv2
  go_wp2_with fail
  exact bodyPost_ret (results_tmp2 rfl _ _ _) rfl ⟨_, _, rfl, Rp.of_own HO2.out, HB2.out⟩

set_option maxHeartbeats 1000000 in
theorem of_R2 (b off n c : Nat) (ps : List Pc) (x y E : Int) (w : World) (h : Rp w (some ⟨b, off, none⟩) n c ps) (hn0 : 0 < n) (hn : n ≤ 1000) (hE : (ps.getD (n - 1) (0, 0)).2 = E) (h1 : x ≠ E) (h2 : y = E) :
    Calls Try.prog 21 #[.slice (some ⟨b, off, none⟩) n c, .agg #[.int .i64 x, .int .i64 y], .bool true] w fun e w' => ∃ a' c', e = .returned (.tuple #[.slice a' (n + 1) c', .bool true]) ∧ Rp w' a' (n + 1) c' (ps ++ [(y, x)]) ∧ Below w.heap.size w w' := by
  have HH := hide h
  clear h
  obtain ⟨k, rfl⟩ : ∃ k, n = k + 1 := ⟨n - 1, by omega⟩
  obtain ⟨-, -, re⟩ := HH.out.cell (i := k) (by omega)
  obtain ⟨-, rb, -⟩ := HH.out.cell (i := 0) (by omega)
  rw [Nat.zero_mul, Nat.add_zero] at rb
  rw [Nat.add_sub_cancel] at hE
  rw [hE] at re
  clear hE
  subst h2
  have b1 : (x != y) = true := by simp [h1]
  have re2 := fun o o' => old_cell o' (old_cell o re)
  have rb2 := fun o o' => old_cell o' (old_cell o rb)
  have t1 : ((k + 1 : Nat) : Int) - 1 = (k : Int) := by omega
  have t2 : (k : Int) + 1 - 1 = (k : Int) := by omega
  have t3 : (k : Int) < ((k + 1 : Nat) : Int) := by omega
  have t4 : (k : Int) < (k : Int) + 1 := by omega
  have t5 : (((k + 1 : Nat) : Int) == 0) = false := by simp; omega
  have t6 : ((k : Int) + 1 == 0) = false := by simp; omega
  have t7 : (0 : Int) < ((k + 1 : Nat) : Int) := by omega
  have t8 : (0 : Int) < (k : Int) + 1 := by omega
  go_enter Try.func21, Try.ntmps21
  go_wp2_with (at_builtin; refine wpList_append_rp _ rfl _ _ rfl w.heap.size _ 0 [] rfl (World.ownsRow_nil _ _ _ _) _ (k + 1) c ps rfl (HH.out.mono (((Below.refl _ _).alloc (Nat.le_refl _) _).alloc (by simp [World.size_alloc]) _)) (by omega) (by simp [World.size_alloc]; omega) ?_)
  intro v1 w1 hO1 hG1
  obtain ⟨a1, c1, hv1⟩ := own_slice hO1
  rw [hv1] at hO1 ⊢
  have hB1 := ((((Below.refl w.heap.size w).alloc (Nat.le_refl _) _).alloc (by simp [World.size_alloc]) _)).grown hG1 (by simp [World.size_alloc]; omega) (fun j hj => by simp [Value.ownBlock] at hj)
  have p0 := hG1.cell (a := ⟨w.heap.size, 0, none⟩) (v := .int .i64 y) (by go_simp) (by simp [Value.ownBlock])
  have p1 := hG1.cell (a := ⟨w.heap.size, 1, none⟩) (v := .int .i64 x) (by go_simp) (by simp [Value.ownBlock])
  have HO1 := hide hO1
  have HB1 := hide hB1
  clear hO1 hB1 hG1 hv1 re2 rb2
  go_wp2_with (at_builtin; refine wpList_append_rp _ rfl _ _ rfl w.heap.size _ (k + 1) ps rfl (HO1.out.alloc _) _ 1 1 [(y, x)] rfl (Rp.one _ _ _) (by omega) (by have := HB1.out.size; simp [World.size_alloc]; omega) ?_)
  intro v2 w2 hO2 hG2
  obtain ⟨a2, c2, hv2⟩ := own_slice hO2
  rw [hv2] at hO2 ⊢
  have HB2 := hide ((HB1.out.alloc HB1.out.size _).grown hG2 (by have := HB1.out.size; simp [World.size_alloc]; omega) (fun j hj => (HO1.out.lt j hj).1))
  have HO2 := hide hO2
  clear hO2 hG2 hv2
  go_wp2_with fail
  exact bodyPost_ret (results_tmp2 rfl _ _ _) rfl ⟨_, _, rfl, Rp.of_own HO2.out, HB2.out⟩

set_option maxHeartbeats 1000000 in
theorem of_R3 (b off n c : Nat) (ps : List Pc) (x y E : Int) (w : World) (h : Rp w (some ⟨b, off, none⟩) n c ps) (hn0 : 0 < n) (hn : n ≤ 1000) (hE : (ps.getD (n - 1) (0, 0)).2 = E) (h1 : x ≠ E) (h2 : y ≠ E) :
    Calls Try.prog 21 #[.slice (some ⟨b, off, none⟩) n c, .agg #[.int .i64 x, .int .i64 y], .bool true] w fun e w' => e = .returned (.tuple #[.slice none 0 0, .bool false]) ∧ Below w.heap.size w w' := by
  have HH := hide h
  clear h
  obtain ⟨k, rfl⟩ : ∃ k, n = k + 1 := ⟨n - 1, by omega⟩
  obtain ⟨-, -, re⟩ := HH.out.cell (i := k) (by omega)
  obtain ⟨-, rb, -⟩ := HH.out.cell (i := 0) (by omega)
  rw [Nat.zero_mul, Nat.add_zero] at rb
  rw [Nat.add_sub_cancel] at hE
  rw [hE] at re
  clear hE
  have b1 : (x != E) = true := by simp [h1]
  have b2 : (y != E) = true := by simp [h2]
  have re2 := fun o o' => old_cell o' (old_cell o re)
  have rb2 := fun o o' => old_cell o' (old_cell o rb)
  have t1 : ((k + 1 : Nat) : Int) - 1 = (k : Int) := by omega
  have t2 : (k : Int) + 1 - 1 = (k : Int) := by omega
  have t3 : (k : Int) < ((k + 1 : Nat) : Int) := by omega
  have t4 : (k : Int) < (k : Int) + 1 := by omega
  have t5 : (((k + 1 : Nat) : Int) == 0) = false := by simp; omega
  have t6 : ((k : Int) + 1 == 0) = false := by simp; omega
  have t7 : (0 : Int) < ((k + 1 : Nat) : Int) := by omega
  have t8 : (0 : Int) < (k : Int) + 1 := by omega
  go_enter Try.func21, Try.ntmps21
  go_wp2_with fail
  exact bodyPost_ret (results_tmp2 rfl _ _ _) rfl ⟨rfl, ((Below.refl _ _).alloc (Nat.le_refl _) _).alloc (by simp [World.size_alloc]) _⟩

set_option maxHeartbeats 1000000 in
theorem of_L1 (b off n c : Nat) (ps : List Pc) (x y E : Int) (w : World) (h : Rp w (some ⟨b, off, none⟩) n c ps) (hn0 : 0 < n) (hn : n ≤ 1000) (hE : (ps.getD 0 (0, 0)).1 = E) (h1 : y = E) :
    Calls Try.prog 21 #[.slice (some ⟨b, off, none⟩) n c, .agg #[.int .i64 x, .int .i64 y], .bool false] w fun e w' => ∃ a' c', e = .returned (.tuple #[.slice a' (n + 1) c', .bool true]) ∧ Rp w' a' (n + 1) c' ((x, y) :: ps) ∧ Below w.heap.size w w' := by
  have HH := hide h
  clear h
  obtain ⟨k, rfl⟩ : ∃ k, n = k + 1 := ⟨n - 1, by omega⟩
  obtain ⟨-, -, re⟩ := HH.out.cell (i := k) (by omega)
  obtain ⟨-, rb, -⟩ := HH.out.cell (i := 0) (by omega)
  rw [Nat.zero_mul, Nat.add_zero] at rb
  rw [hE] at rb
  clear hE
  subst h1
  have re2 := fun o o' => old_cell o' (old_cell o re)
  have rb2 := fun o o' => old_cell o' (old_cell o rb)
  have t1 : ((k + 1 : Nat) : Int) - 1 = (k : Int) := by omega
  have t2 : (k : Int) + 1 - 1 = (k : Int) := by omega
  have t3 : (k : Int) < ((k + 1 : Nat) : Int) := by omega
  have t4 : (k : Int) < (k : Int) + 1 := by omega
  have t5 : (((k + 1 : Nat) : Int) == 0) = false := by simp; omega
  have t6 : ((k : Int) + 1 == 0) = false := by simp; omega
  have t7 : (0 : Int) < ((k + 1 : Nat) : Int) := by omega
  have t8 : (0 : Int) < (k : Int) + 1 := by omega
  go_enter Try.func21, Try.ntmps21
  go_wp2_with (at_builtin; refine wpList_append_rp _ rfl _ _ rfl w.heap.size _ 1 [(x, y)] rfl (own_one _ x y _ (w.heap.size + 1 + 1) (by simp [World.size_alloc]) (by simp [World.size_alloc]; omega)) _ (k + 1) c ps rfl (HH.out.mono ((((Below.refl _ _).alloc (Nat.le_refl _) _).alloc (by simp [World.size_alloc]) _).alloc (by simp [World.size_alloc]; omega) _)) (by omega) (by simp [World.size_alloc]; omega) ?_)
  intro v1 w1 hO1 hG1
  obtain ⟨a1, c1, hv1⟩ := own_slice hO1
  rw [hv1] at hO1 ⊢
  have hB1 := (((((Below.refl w.heap.size w).alloc (Nat.le_refl _) _).alloc (by simp [World.size_alloc]) _).alloc (by simp [World.size_alloc]; omega) _)).grown hG1 (by simp [World.size_alloc]; omega) (fun j hj => by simp [Value.ownBlock] at hj; subst hj; omega)
  have HO1 : Hid (w1.ownsRow w.heap.size 35 2 (.slice a1 (k + 1 + 1) c1) (k + 1 + 1) (flat ((x, y) :: ps))) := hide (by
    rw [show k + 1 + 1 = 1 + (k + 1) by omega]; exact hO1)
  rw [show 1 + (k + 1) = k + 1 + 1 by omega]
  have HB1 := hide hB1
  clear hO1 hB1 hG1 hv1 re2 rb2
  go_wp2_with fail
  exact bodyPost_ret (results_tmp2 rfl _ _ _) rfl ⟨_, _, rfl, Rp.of_own HO1.out, HB1.out⟩

set_option maxHeartbeats 1000000 in
theorem of_L2 (b off n c : Nat) (ps : List Pc) (x y E : Int) (w : World) (h : Rp w (some ⟨b, off, none⟩) n c ps) (hn0 : 0 < n) (hn : n ≤ 1000) (hE : (ps.getD 0 (0, 0)).1 = E) (h1 : y ≠ E) (h2 : x = E) :
    Calls Try.prog 21 #[.slice (some ⟨b, off, none⟩) n c, .agg #[.int .i64 x, .int .i64 y], .bool false] w fun e w' => ∃ a' c', e = .returned (.tuple #[.slice a' (n + 1) c', .bool true]) ∧ Rp w' a' (n + 1) c' ((y, x) :: ps) ∧ Below w.heap.size w w' := by
  have HH := hide h
  clear h
  obtain ⟨k, rfl⟩ : ∃ k, n = k + 1 := ⟨n - 1, by omega⟩
  obtain ⟨-, -, re⟩ := HH.out.cell (i := k) (by omega)
  obtain ⟨-, rb, -⟩ := HH.out.cell (i := 0) (by omega)
  rw [Nat.zero_mul, Nat.add_zero] at rb
  rw [hE] at rb
  clear hE
  subst h2
  have b1 : (y != x) = true := by simp [h1]
  have re2 := fun o o' => old_cell o' (old_cell o re)
  have rb2 := fun o o' => old_cell o' (old_cell o rb)
  have t1 : ((k + 1 : Nat) : Int) - 1 = (k : Int) := by omega
  have t2 : (k : Int) + 1 - 1 = (k : Int) := by omega
  have t3 : (k : Int) < ((k + 1 : Nat) : Int) := by omega
  have t4 : (k : Int) < (k : Int) + 1 := by omega
  have t5 : (((k + 1 : Nat) : Int) == 0) = false := by simp; omega
  have t6 : ((k : Int) + 1 == 0) = false := by simp; omega
  have t7 : (0 : Int) < ((k + 1 : Nat) : Int) := by omega
  have t8 : (0 : Int) < (k : Int) + 1 := by omega
  go_enter Try.func21, Try.ntmps21
  go_wp2_with (at_builtin; refine wpList_append_rp _ rfl _ _ rfl w.heap.size _ 1 [(y, x)] rfl (own_one _ y x _ (w.heap.size + 1 + 1) (by simp [World.size_alloc]) (by simp [World.size_alloc]; omega)) _ (k + 1) c ps rfl (HH.out.mono ((((Below.refl _ _).alloc (Nat.le_refl _) _).alloc (by simp [World.size_alloc]) _).alloc (by simp [World.size_alloc]; omega) _)) (by omega) (by simp [World.size_alloc]; omega) ?_)
  intro v1 w1 hO1 hG1
  obtain ⟨a1, c1, hv1⟩ := own_slice hO1
  rw [hv1] at hO1 ⊢
  have hB1 := (((((Below.refl w.heap.size w).alloc (Nat.le_refl _) _).alloc (by simp [World.size_alloc]) _).alloc (by simp [World.size_alloc]; omega) _)).grown hG1 (by simp [World.size_alloc]; omega) (fun j hj => by simp [Value.ownBlock] at hj; subst hj; omega)
  have HO1 : Hid (w1.ownsRow w.heap.size 35 2 (.slice a1 (k + 1 + 1) c1) (k + 1 + 1) (flat ((y, x) :: ps))) := hide (by
    rw [show k + 1 + 1 = 1 + (k + 1) by omega]; exact hO1)
  rw [show 1 + (k + 1) = k + 1 + 1 by omega]
  have HB1 := hide hB1
  clear hO1 hB1 hG1 hv1 re2 rb2
  go_wp2_with fail
  exact bodyPost_ret (results_tmp2 rfl _ _ _) rfl ⟨_, _, rfl, Rp.of_own HO1.out, HB1.out⟩

set_option maxHeartbeats 1000000 in
theorem of_L3 (b off n c : Nat) (ps : List Pc) (x y E : Int) (w : World) (h : Rp w (some ⟨b, off, none⟩) n c ps) (hn0 : 0 < n) (hn : n ≤ 1000) (hE : (ps.getD 0 (0, 0)).1 = E) (h1 : y ≠ E) (h2 : x ≠ E) :
    Calls Try.prog 21 #[.slice (some ⟨b, off, none⟩) n c, .agg #[.int .i64 x, .int .i64 y], .bool false] w fun e w' => e = .returned (.tuple #[.slice none 0 0, .bool false]) ∧ Below w.heap.size w w' := by
  have HH := hide h
  clear h
  obtain ⟨k, rfl⟩ : ∃ k, n = k + 1 := ⟨n - 1, by omega⟩
  obtain ⟨-, -, re⟩ := HH.out.cell (i := k) (by omega)
  obtain ⟨-, rb, -⟩ := HH.out.cell (i := 0) (by omega)
  rw [Nat.zero_mul, Nat.add_zero] at rb
  rw [hE] at rb
  clear hE
  have b1 : (y != E) = true := by simp [h1]
  have b2 : (x != E) = true := by simp [h2]
  have re2 := fun o o' => old_cell o' (old_cell o re)
  have rb2 := fun o o' => old_cell o' (old_cell o rb)
  have t1 : ((k + 1 : Nat) : Int) - 1 = (k : Int) := by omega
  have t2 : (k : Int) + 1 - 1 = (k : Int) := by omega
  have t3 : (k : Int) < ((k + 1 : Nat) : Int) := by omega
  have t4 : (k : Int) < (k : Int) + 1 := by omega
  have t5 : (((k + 1 : Nat) : Int) == 0) = false := by simp; omega
  have t6 : ((k : Int) + 1 == 0) = false := by simp; omega
  have t7 : (0 : Int) < ((k + 1 : Nat) : Int) := by omega
  have t8 : (0 : Int) < (k : Int) + 1 := by omega
  go_enter Try.func21, Try.ntmps21
  go_wp2_with fail
  exact bodyPost_ret (results_tmp2 rfl _ _ _) rfl ⟨rfl, ((Below.refl _ _).alloc (Nat.le_refl _) _).alloc (by simp [World.size_alloc]) _⟩

end Go.Proofs.Ytjcglpnpdalcjaa
