/-
  gammon.Rolls of at most three men. No conditions beyond those that each theorem bears.
-/
import Derived.Test.YtmboikpcbkiepaaMean
import Derived.Test.YtmboikpcbkiepaaDv
import Derived.Test.YtmboikpcbkiepaaRl
import Derived.OrdersHeld
import Derived.Deep.RegionHeld3
namespace Go.Proofs.Ytmboikpcbkiepaa
open Go.RowKit Go.Maps

/-- What Rolls counts, divided by what divides both. -/
def rA (m : List Nat) : Nat := vl m / Nat.gcd (vl m) one9
def rB (m : List Nat) : Nat := one9 / Nat.gcd (vl m) one9

def cs (m : List Nat) : List Int := m.map (fun n : Nat => (n : Int))

def fl (m : List Nat) : Nat → List Int
  | 0 => noS
  | i + 1 => (fl m i).set (i + 1) ((cs m).getD i 0)

set_option maxRecDepth 100000 in
theorem row_tab : (Ms.all fun m => decide (fl m 6 = sd6 m) && m.length == 6 && decide ((cs m).sum ≤ 3) && (cs m).all (fun z => decide (0 ≤ z ∧ z ≤ 3))) = true := by decide +kernel

theorem row_facts {m : List Nat} (hm : m ∈ Ms) : fl m 6 = sd6 m ∧ m.length = 6 ∧ (cs m).sum ≤ 3 ∧ ∀ z ∈ cs m, 0 ≤ z ∧ z ≤ 3 := by
  have h := List.all_eq_true.1 row_tab m hm
  simp only [Bool.and_eq_true, decide_eq_true_eq, beq_iff_eq, List.all_eq_true] at h
  exact ⟨h.1.1.1, h.1.1.2, h.1.2, h.2⟩

theorem fl_len (m : List Nat) : ∀ i, (fl m i).length = 52
  | 0 => noS_length
  | i + 1 => by rw [fl, List.length_set]; exact fl_len m i

theorem fl0 (m : List Nat) : fl m 0 = noS := rfl
theorem flS (m : List Nat) (i : Nat) : fl m (i + 1) = (fl m i).set (i + 1) ((cs m).getD i 0) := rfl
theorem one9_le : one9 ≤ 101559956668416 := by decide
theorem one9_pos : 0 < one9 := by decide

attribute [local irreducible] vl lst sd6 endsL sumS rowS one9 endsX fl

set_option maxRecDepth 100000 in
set_option maxHeartbeats 2000000 in
theorem Rolls_yes (b off c : Nat) (m : List Nat) (hm : m ∈ Ms) (w : World) (h : Rd w (some ⟨b, off, none⟩) 6 c (cs m)) :
    Calls Try.prog 17 #[.slice (some ⟨b, off, none⟩) (6 : Nat) c] w fun e w' => e = .returned (.tuple #[.int .i64 (rA m : Nat), .int .i64 (rB m : Nat), .int .i64 0]) ∧ Below w.heap.size w w' := by
  obtain ⟨hf6, hl6, hs3, hall⟩ := row_facts hm
  have hcm := h.max
  have hcn := h.cap
  unfold maxLen at hcm
  have AN := hide (anyNeg_any b off 6 c (cs m) w h)
  have hany : (cs m).any (fun x => decide (x < 0)) = false := by
    rw [List.any_eq_false]
    intro z hz
    have := (hall z hz).1
    simp; omega
  rw [hany] at AN
  have TM := hide (fun q => tooMany_any (some ⟨b, off, none⟩) 6 c (cs m) 3 (by omega) (w.drewN q) (h.mono (drewN_below _ _ _)) (fun z hz => (hall z hz).1) (by omega))
  rw [show tmB 3 (cs m) = false by simp [tmB]; omega] at TM
  have HM := hide (fun W => mean_any m hm W)
  rw [← hf6] at HM
  have HVB := hide (vl_le hm)
  have hbs : b < w.heap.size := by
    have := World.block_lt_of_cell? _ _ (h.cell (i := 0) (by omega)).2
    exact this
  have HR := hide h
  have HALL := hide (fun i (hi : i < 6) => hall _ (getD_mem (zs := cs m) (k := i) (by rw [cs, List.length_map, hl6]; exact hi)))
  clear h hany hf6 hs3 hall hm
  obtain ⟨n, hn⟩ : ∃ n : Nat, n = 6 := ⟨_, rfl⟩
  rw [← hn]
  have hn6 : ¬ (6 : Int) < (n : Int) := by omega
  have HN := hide hn
  rw [← hn] at AN TM HR
  clear hn
  go_enter Try.func17, Try.ntmps17
  go_wp2_with fail
  refine AN.out.mono ?_
  rintro e w1 ⟨rfl, q, rfl⟩
  have TQ := hide (TM.out q)
  have HB1 : Hid (Below w.heap.size w (w.drewN q)) := hide (drewN_below _ _ _)
  clear TM AN
  generalize hw1 : w.drewN q = w1 at *
  clear hw1
  go_wp2_with fail
  refine TQ.out.mono ?_
  rintro e w2 ⟨rfl, hw⟩
  subst w2
  clear TQ
  obtain ⟨w3, hw3⟩ : ∃ w3, w1.alloc (Obj.cells #[.int .i64 0, .int .i64 0, .int .i64 0, .int .i64 0, .int .i64 0, .int .i64 0, .int .i64 0, .int .i64 0, .int .i64 0, .int .i64 0, .int .i64 0, .int .i64 0, .int .i64 0, .int .i64 0, .int .i64 0, .int .i64 0, .int .i64 0, .int .i64 0, .int .i64 0, .int .i64 0, .int .i64 0, .int .i64 0, .int .i64 0, .int .i64 0, .int .i64 0, .int .i64 0, .int .i64 0, .int .i64 0, .int .i64 0, .int .i64 0, .int .i64 0, .int .i64 0, .int .i64 0, .int .i64 0, .int .i64 0, .int .i64 0, .int .i64 0, .int .i64 0, .int .i64 0, .int .i64 0, .int .i64 0, .int .i64 0, .int .i64 0, .int .i64 0, .int .i64 0, .int .i64 0, .int .i64 0, .int .i64 0, .int .i64 0, .int .i64 0, .int .i64 0, .int .i64 0] 54) = w3 := ⟨_, rfl⟩
  have hZ0 := zeros52 w1
  have hB20 := HB1.out.alloc HB1.out.size (Obj.cells #[.int .i64 0, .int .i64 0, .int .i64 0, .int .i64 0, .int .i64 0, .int .i64 0, .int .i64 0, .int .i64 0, .int .i64 0, .int .i64 0, .int .i64 0, .int .i64 0, .int .i64 0, .int .i64 0, .int .i64 0, .int .i64 0, .int .i64 0, .int .i64 0, .int .i64 0, .int .i64 0, .int .i64 0, .int .i64 0, .int .i64 0, .int .i64 0, .int .i64 0, .int .i64 0, .int .i64 0, .int .i64 0, .int .i64 0, .int .i64 0, .int .i64 0, .int .i64 0, .int .i64 0, .int .i64 0, .int .i64 0, .int .i64 0, .int .i64 0, .int .i64 0, .int .i64 0, .int .i64 0, .int .i64 0, .int .i64 0, .int .i64 0, .int .i64 0, .int .i64 0, .int .i64 0, .int .i64 0, .int .i64 0, .int .i64 0, .int .i64 0, .int .i64 0, .int .i64 0] 54)
  have hb1 := HB1.out.size
  obtain ⟨sb, hsb⟩ : ∃ sb, w1.heap.size = sb := ⟨_, rfl⟩
  rw [hw3] at hZ0 hB20
  rw [hsb] at hZ0 hb1
  have HZ0 := hide hZ0
  have HB2 := hide hB20
  clear hZ0 hB20
  go_wp2_with fail
  clear hw3 hsb
  go_loopw [20] (fun v wr => ∃ i : Nat, v = .int .i64 i ∧ i ≤ n ∧ Hid (Blk wr sb 54 (fl m i)) ∧ Hid (Below w.heap.size w wr)) (fun v _ => n - (intOf v).toNat)
  case atStart => exact ⟨0, rfl, by omega, hide (by rw [fl0]; exact HZ0.out), HB2⟩
  case round =>
    obtain ⟨i, rfl, hi, hK, hB⟩ := hrel
    clear HZ0 HB2
    by_cases hin : i < n
    · have hin' : (i : Int) < (n : Int) := by omega
      have hi6 : i < 6 := by have := HN.out; omega
      have hcw : wr.cell? ⟨b, off + i, none⟩ = some (.int .i64 ((cs m).getD i 0)) := (hB.out.cell (p := ⟨b, off + i, none⟩) hbs).trans (HR.out.cell (i := i) hin).2
      have hzr := HALL.out i hi6
      have f1 := hK.out.frozen (i + 1)
      have e1 := hK.out.cell (i := i + 1) (by rw [fl_len]; omega)
      have HK2 := hide (hK.out.set (i + 1) ((cs m).getD i 0))
      rw [← flS] at HK2
      have HB2 := hide (hB.out.setCell (p := ⟨sb, i + 1, none⟩) hb1 (.int .i64 ((cs m).getD i 0)))
      generalize (cs m).getD i 0 = z at *
      generalize (fl m i).getD (i + 1) 0 = y at *
      clear hK hB
      go_wp2_with fail
      exact ⟨⟨i + 1, by congr 1, by omega, HK2, HB2⟩, by simp [intOf]; omega⟩
    · have hin' : ¬ (i : Int) < (n : Int) := by omega
      have hi6 : i = 6 := by have := HN.out; omega
      rw [hi6] at hK
      have hl52 := hide (fl_len m 6)
      clear hi6
      generalize fl m 6 = s at *
      go_wp2_with (first | refine wpList_load_sd rfl _ rfl sb rfl s hl52.out hK.out ?_)
      refine (HM.out _).mono ?_
      rintro e w4 ⟨rfl, hw4⟩
      have HB4 := hide (hB.out.trans (hw4.mono hB.out.size))
      clear hw4 hB hK HM
      obtain ⟨V, hV⟩ : ∃ V, vl m = V := ⟨_, rfl⟩
      obtain ⟨O, hO⟩ : ∃ O, one9 = O := ⟨_, rfl⟩
      have hVb : V ≤ 304679870005248 := by rw [← hV]; exact HVB.out
      have hOb : O ≤ 101559956668416 := by rw [← hO]; exact one9_le
      have hO1 : 0 < O := by rw [← hO]; exact one9_pos
      have hG1 : 0 < Nat.gcd V O := Nat.gcd_pos_of_pos_right _ hO1
      have hA1 : rA m = V / Nat.gcd V O := by unfold rA; rw [hV, hO]
      have hB1 : rB m = O / Nat.gcd V O := by unfold rB; rw [hV, hO]
      rw [show tv m = .int .i64 (V : Nat) by rw [tv, hV], hO]
      have HDV := hide (divisor_any V O (by omega) (by omega))
      have hGO : Nat.gcd V O ≤ O := Nat.gcd_le_right _ hO1
      clear hV hO
      obtain ⟨A, hA⟩ : ∃ A, V / Nat.gcd V O = A := ⟨_, rfl⟩
      obtain ⟨B, hB⟩ : ∃ B, O / Nat.gcd V O = B := ⟨_, rfl⟩
      have hqa : Int.tdiv (V : Int) ((Nat.gcd V O : Nat) : Int) = (A : Int) := by
        rw [← hA, Int.natCast_ediv, Int.tdiv_eq_ediv_of_nonneg (by omega)]
      have hqb : Int.tdiv (O : Int) ((Nat.gcd V O : Nat) : Int) = (B : Int) := by
        rw [← hB, Int.natCast_ediv, Int.tdiv_eq_ediv_of_nonneg (by omega)]
      have hAb : A ≤ V := by rw [← hA]; exact Nat.div_le_self _ _
      have hBb : B ≤ O := by rw [← hB]; exact Nat.div_le_self _ _
      rw [hA] at hA1
      rw [hB] at hB1
      have HRA := hide hA1
      have HRB := hide hB1
      clear hA hB hA1 hB1
      go_wp2_with fail
      refine (HDV.out _).mono ?_
      rintro e w5 ⟨rfl, q2, rfl⟩
      have HB5 := hide (HB4.out.trans ((drewN_below _ w4 q2).mono HB4.out.size))
      generalize Nat.gcd V O = G at *
      have hGz : ((G : Int) == 0) = false := by simp; omega
      have hGne : (G : Int) ≠ 0 := by omega
      have hGn : ¬ G = 0 := by omega
      have hwA : IntKind.i64.wrap (A : Int) = (A : Int) := by rw [IntKind.wrap_i64] <;> omega
      have hwB : IntKind.i64.wrap (B : Int) = (B : Int) := by rw [IntKind.wrap_i64] <;> omega
      clear HDV HB4
      generalize w4.drewN q2 = w5 at *
      go_wp2_with fail
      refine wp_region_held (S := fun _ => True) (by kernel_rfl) ?_
      change wpAnyH _ _ _ _ _ _ _ _ (World.drew _)
      refine wpAnyH_take (i := 0) (v := .int .i64 V) rfl (by kernel_rfl) (by kernel_rfl) (by kernel_rfl) (fun _ _ _ h => h) (Or.inl ⟨by rfl, ?_⟩) trivial ?_
      · intro W _
        go_simp <;> first | done | rfl | (rw [IntKind.wrap_i64]; omega) | (rw [if_neg hGn, hwA]) | (rw [if_neg hGn, hwB]) | (intro hh; exfalso; omega)
      go_simp
      refine wpAnyH_take (i := 1) (v := .int .i64 G) rfl (by kernel_rfl) (by kernel_rfl) (by kernel_rfl) (fun _ _ _ h => h) (Or.inl ⟨by rfl, ?_⟩) trivial ?_
      · intro W _
        go_simp <;> first | done | rfl | (rw [IntKind.wrap_i64]; omega) | (rw [if_neg hGn, hwA]) | (rw [if_neg hGn, hwB]) | (intro hh; exfalso; omega)
      go_simp
      refine wpAnyH_take (i := 3) (v := .int .i64 O) rfl (by kernel_rfl) (by kernel_rfl) (by kernel_rfl) (fun _ _ _ h => h) (Or.inl ⟨by rfl, ?_⟩) trivial ?_
      · intro W _
        go_simp <;> first | done | rfl | (rw [IntKind.wrap_i64]; omega) | (rw [if_neg hGn, hwA]) | (rw [if_neg hGn, hwB]) | (intro hh; exfalso; omega)
      go_simp
      refine wpAnyH_take (i := 4) (v := .int .i64 G) rfl (by kernel_rfl) (by kernel_rfl) (by kernel_rfl) (fun _ _ _ h => h) (Or.inl ⟨by rfl, ?_⟩) trivial ?_
      · intro W _
        go_simp <;> first | done | rfl | (rw [IntKind.wrap_i64]; omega) | (rw [if_neg hGn, hwA]) | (rw [if_neg hGn, hwB]) | (intro hh; exfalso; omega)
      go_simp
      refine wpAnyH_take (i := 2) (v := .int .i64 A) rfl (by kernel_rfl) (by kernel_rfl) (by kernel_rfl) (fun _ _ _ h => h) (Or.inl ⟨by rfl, ?_⟩) trivial ?_
      · intro W _
        go_simp <;> first | done | rfl | (rw [IntKind.wrap_i64]; omega) | (rw [if_neg hGn, hwA]) | (rw [if_neg hGn, hwB]) | (intro hh; exfalso; omega)
      go_simp
      refine wpAnyH_take (i := 5) (v := .int .i64 B) rfl (by kernel_rfl) (by kernel_rfl) (by kernel_rfl) (fun _ _ _ h => h) (Or.inl ⟨by rfl, ?_⟩) trivial ?_
      · intro W _
        go_simp <;> first | done | rfl | (rw [IntKind.wrap_i64]; omega) | (rw [if_neg hGn, hwA]) | (rw [if_neg hGn, hwB]) | (intro hh; exfalso; omega)
      go_simp
      refine wpAnyH_take (i := 6) (v := .int .i64 A) rfl (by kernel_rfl) (by kernel_rfl) (by kernel_rfl) (fun _ _ _ h => h) (Or.inl ⟨by rfl, ?_⟩) trivial ?_
      · intro W _
        go_simp <;> first | done | rfl | (rw [IntKind.wrap_i64]; omega) | (rw [if_neg hGn, hwA]) | (rw [if_neg hGn, hwB]) | (intro hh; exfalso; omega)
      go_simp
      refine wpAnyH_take (i := 7) (v := .int .i64 B) rfl (by kernel_rfl) (by kernel_rfl) (by kernel_rfl) (fun _ _ _ h => h) (Or.inl ⟨by rfl, ?_⟩) trivial ?_
      · intro W _
        go_simp <;> first | done | rfl | (rw [IntKind.wrap_i64]; omega) | (rw [if_neg hGn, hwA]) | (rw [if_neg hGn, hwB]) | (intro hh; exfalso; omega)
      go_simp
      refine wpAnyH_take (i := 8) (v := .int .i64 0) rfl (by kernel_rfl) (by kernel_rfl) (by kernel_rfl) (fun _ _ _ h => h) (Or.inl ⟨by rfl, ?_⟩) trivial ?_
      · intro W _
        go_simp <;> first | done | rfl | (rw [IntKind.wrap_i64]; omega) | (rw [if_neg hGn, hwA]) | (rw [if_neg hGn, hwB]) | (intro hh; exfalso; omega)
      go_simp
      refine wpAnyH_done (by kernel_rfl) ?_ _
      go_wp2_with fail
      go_ret3
      exact ⟨by rw [HRA.out, HRB.out]; rfl, HB5.out.drew⟩

end Go.Proofs.Ytmboikpcbkiepaa
