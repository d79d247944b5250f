/-
  For every row, piece and side the law on Play answers true. No conditions beyond those that each theorem bears.
-/
import Derived.Test.YtjcglpnpdalcjaaPlayOf
namespace Go.Proofs.Ytjcglpnpdalcjaa
open Go.RowKit
attribute [local go_sem] build35 run_eq35 guard35

theorem of_0 (a : Option Addr) (c : Nat) (x y : Int) (right : Bool) (w : World) :
    Calls Try.prog 21 #[.slice a 0 c, .agg #[.int .i64 x, .int .i64 y], .bool right] w fun e w' => ∃ a' c', e = .returned (.tuple #[.slice a' 1 c', .bool true]) ∧ Rp w' a' 1 c' [(x, y)] ∧ Below w.heap.size w w' := by
  go_enter Try.func21, Try.ntmps21
  go_wp2_with fail
  refine bodyPost_ret (results_tmp2 rfl _ _ _) rfl ⟨_, _, rfl, ?_, ((Below.refl _ _).alloc (Nat.le_refl _) _).alloc (by simp [World.size_alloc]) _⟩
  have := Rp.one (w.alloc (.cells #[.int .i64 x, .int .i64 y] 35)) x y
  rw [World.size_alloc] at this
  exact this

theorem PlayOf_any (a : Option Addr) (n c : Nat) (ps : List Pc) (p : Pc) (right : Bool) (w : World) (h : Rp w a n c ps) (hn : n ≤ 1000) (hr : isR ps = true) :
    Calls Try.prog 21 #[.slice a n c, pv p, .bool right] w fun e w' => ∃ a' c', e = .returned (.tuple #[.slice a' (playO ps p right).1.length c', .bool (playO ps p right).2]) ∧ Rp w' a' (playO ps p right).1.length c' (playO ps p right).1 ∧ Below w.heap.size w w' := by
  have hl := h.len
  obtain ⟨x, y⟩ := p
  by_cases h0 : n = 0
  · subst h0
    obtain rfl : ps = [] := List.eq_nil_of_length_eq_zero hl
    have e : playO [] (x, y) right = ([(x, y)], true) := by cases right <;> rfl
    rw [e]
    exact of_0 a c x y right w
  · obtain ⟨b, off, rfl, -⟩ := h.cells (by omega)
    have hne : ps ≠ [] := by rintro rfl; simp at hl; omega
    cases right with
    | true =>
      have i1 := isR_last ps (x, y) hne
      have i2 := isR_last ps (y, x) hne
      rw [hr, Bool.true_and, hl] at i1 i2
      generalize hE : (ps.getD (n - 1) (0, 0)).2 = E at *
      by_cases h1 : x = E
      · have e : playO ps (x, y) true = (ps ++ [(x, y)], true) := by
          have : playD ps (x, y) true = some (ps ++ [(x, y)]) := by
            rw [playD, if_pos (by show isR (ps ++ [(x, y)]) = true; rw [i1]; simp [h1])]; rfl
          rw [playO, this]
        rw [e]
        simp only [List.length_append, List.length_cons, List.length_nil, hl]
        exact of_R1 b off n c ps x y E w h (by omega) hn hE h1
      · have n1 : ¬ isR (longer ps (x, y) true) = true := by
          show ¬ isR (ps ++ [(x, y)]) = true
          rw [i1]; simp; exact fun e => h1 e.symm
        by_cases h2 : y = E
        · have e : playO ps (x, y) true = (ps ++ [(y, x)], true) := by
            have : playD ps (x, y) true = some (ps ++ [(y, x)]) := by
              rw [playD, if_neg n1, if_pos (by show isR (ps ++ [(y, x)]) = true; rw [i2]; simp [h2])]; rfl
            rw [playO, this]
          rw [e]
          simp only [List.length_append, List.length_cons, List.length_nil, hl]
          exact of_R2 b off n c ps x y E w h (by omega) hn hE h1 h2
        · have e : playO ps (x, y) true = ([], false) := by
            have : playD ps (x, y) true = none := by
              rw [playD, if_neg n1, if_neg (by show ¬ isR (ps ++ [(y, x)]) = true; rw [i2]; simp; exact fun e => h2 e.symm)]
            rw [playO, this]
          rw [e]
          exact (of_R3 b off n c ps x y E w h (by omega) hn hE h1 h2).mono fun e w' ⟨he, hB⟩ => ⟨_, _, he, Rp.of_nil _, hB⟩
    | false =>
      have i1 := isR_head ps (x, y) hne
      have i2 := isR_head ps (y, x) hne
      rw [hr, Bool.and_true] at i1 i2
      generalize hE : (ps.getD 0 (0, 0)).1 = E at *
      by_cases h1 : y = E
      · have e : playO ps (x, y) false = ((x, y) :: ps, true) := by
          have : playD ps (x, y) false = some ((x, y) :: ps) := by
            rw [playD, if_pos (by show isR ((x, y) :: ps) = true; rw [i1]; simp [h1])]; rfl
          rw [playO, this]
        rw [e]
        simp only [List.length_cons, hl]
        exact of_L1 b off n c ps x y E w h (by omega) hn hE h1
      · have n1 : ¬ isR (longer ps (x, y) false) = true := by
          show ¬ isR ((x, y) :: ps) = true
          rw [i1]; simp; exact h1
        by_cases h2 : x = E
        · have e : playO ps (x, y) false = ((y, x) :: ps, true) := by
            have : playD ps (x, y) false = some ((y, x) :: ps) := by
              rw [playD, if_neg n1, if_pos (by show isR ((y, x) :: ps) = true; rw [i2]; simp [h2])]; rfl
            rw [playO, this]
          rw [e]
          simp only [List.length_cons, hl]
          exact of_L2 b off n c ps x y E w h (by omega) hn hE h1 h2
        · have e : playO ps (x, y) false = ([], false) := by
            have : playD ps (x, y) false = none := by
              rw [playD, if_neg n1, if_neg (by show ¬ isR ((y, x) :: ps) = true; rw [i2]; simp; exact h2)]
            rw [playO, this]
          rw [e]
          exact (of_L3 b off n c ps x y E w h (by omega) hn hE h1 h2).mono fun e w' ⟨he, hB⟩ => ⟨_, _, he, Rp.of_nil _, hB⟩

set_option maxRecDepth 100000 in
set_option maxHeartbeats 4000000 in
theorem law5_size (a : Option Addr) (n c : Nat) (ps : List Pc) (x y : Int) (right : Bool) (w : World) (h : Rp w a n c ps) (hsz : n * 16 ≤ 140737488351232) (hn : 60 ≤ n) :
    Calls Try.prog 5 #[.slice a n c, pv (x, y), .bool right] w fun e w' => e = .returned (.bool true) ∧ Below w.heap.size w w' := by
  have hln := h.len
  have HV : Hid (playV ps (x, y) right = ([], 2)) := hide (by rw [playV, if_pos (by rw [fltE, if_pos (by omega)]; simp), fltE, if_pos (by omega)])
  have HH := hide h
  clear h
  unfold pv
  simp only
  go_enter Try.func5, Try.ntmps5
  go_wp2_with fail
  have B0 : Below w.heap.size w (w.alloc (.cells #[.int .i64 x, .int .i64 y] 35)) := (Below.refl _ _).alloc (Nat.le_refl _) _
  have e0 : (w.alloc (.cells #[.int .i64 x, .int .i64 y] 35)).cell? ⟨w.heap.size, 0, none⟩ = some (.int .i64 x) := by go_simp
  have e1 : (w.alloc (.cells #[.int .i64 x, .int .i64 y] 35)).cell? ⟨w.heap.size, 1, none⟩ = some (.int .i64 y) := by go_simp
  have hs0 : w.heap.size < (w.alloc (.cells #[.int .i64 x, .int .i64 y] 35)).heap.size := by simp [World.size_alloc]
  generalize w.alloc (.cells #[.int .i64 x, .int .i64 y] 35) = w3 at *
  have HE0 : Hid (∀ W, Below w3.heap.size w3 W → W.cell? ⟨w.heap.size, 0, none⟩ = some (.int .i64 x)) := hide (fun W hW => (hW.cell (p := ⟨w.heap.size, 0, none⟩) hs0).trans e0)
  have HE1 : Hid (∀ W, Below w3.heap.size w3 W → W.cell? ⟨w.heap.size, 1, none⟩ = some (.int .i64 y)) := hide (fun W hW => (hW.cell (p := ⟨w.heap.size, 1, none⟩) hs0).trans e1)
  have HB3 := hide B0
  clear B0 e0 e1
  refine wp_region_held (S := fun W => Below w3.heap.size w3 W) (by kernel_rfl) ?_
  change wpAnyH _ _ _ _ _ _ _ _ (World.drew _)
  have SW : Below w3.heap.size w3 w3.drew := (Below.refl _ w3).drew
  refine wpAnyH_take (i := 0) (v := .slice a n c) rfl (by kernel_rfl) (by kernel_rfl) (by kernel_rfl) (fun _ _ _ h => h) (Or.inl ⟨by rfl, ?_⟩) SW ?_
  · intro W hW
    have f0 := HE0.out W hW
    have f1 := HE1.out W hW
    go_simp
  go_simp
  refine wpAnyH_take (i := 2) (v := .agg #[.int .i64 x, .int .i64 y]) rfl (by kernel_rfl) (by kernel_rfl) (by kernel_rfl) (fun _ _ _ h => h) (Or.inl ⟨by rfl, ?_⟩) SW ?_
  · intro W hW
    have f0 := HE0.out W hW
    have f1 := HE1.out W hW
    go_simp
  go_simp
  refine wpAnyH_take (i := 3) (v := .bool right) rfl (by kernel_rfl) (by kernel_rfl) (by kernel_rfl) (fun _ _ _ h => h) (Or.inl ⟨by rfl, ?_⟩) SW ?_
  · intro W hW
    have f0 := HE0.out W hW
    have f1 := HE1.out W hW
    go_simp
  go_simp
  refine wpAnyH_ready (rs := [1]) (by kernel_rfl) (by simp) ?_
  refine AllReadyH.cons rfl (fun K1 hK1 => ?_) AllReadyH.nil
  go_simp
  refine (pieces_any a n c ps _ (HH.out.mono (HB3.out.trans (SW.mono HB3.out.size))) hsz).mono ?_
  rintro e w4 ⟨a4, c4, rfl, hR4, hB4⟩
  refine hK1.out _ _ (SW.trans (hB4.mono SW.size)) (fun SW => ?_)
  clear hK1 K1 hB4
  go_simp
  refine wpAnyH_ready (rs := [4]) (by kernel_rfl) (by simp) ?_
  refine AllReadyH.cons rfl (fun K1 hK1 => ?_) AllReadyH.nil
  go_simp
  refine (Play_any a4 n c4 ps (x, y) right _ hR4).mono ?_
  rintro e w5 ⟨a5, c5, rfl, hR5, hB5⟩
  rw [HV.out] at hR5 ⊢
  have HR5 := hide hR5
  refine hK1.out _ _ (SW.trans (hB5.mono SW.size)) (fun SW => ?_)
  clear hK1 K1 hB5 hR5 hR4
  go_simp
  refine wpAnyH_take (i := 5) (v := .tuple #[.slice a5 0 c5, .int .i64 2]) rfl (by kernel_rfl) (by kernel_rfl) (by kernel_rfl) (fun _ _ _ h => h) (Or.inl ⟨by rfl, ?_⟩) SW ?_
  · intro W hW
    have f0 := HE0.out W hW
    have f1 := HE1.out W hW
    go_simp
  go_simp
  refine wpAnyH_take (i := 6) (v := .slice a5 0 c5) rfl (by kernel_rfl) (by kernel_rfl) (by kernel_rfl) (fun _ _ _ h => h) (Or.inl ⟨by rfl, ?_⟩) SW ?_
  · intro W hW
    have f0 := HE0.out W hW
    have f1 := HE1.out W hW
    go_simp
  go_simp
  refine wpAnyH_take (i := 7) (v := .int .i64 2) rfl (by kernel_rfl) (by kernel_rfl) (by kernel_rfl) (fun _ _ _ h => h) (Or.inl ⟨by rfl, ?_⟩) SW ?_
  · intro W hW
    have f0 := HE0.out W hW
    have f1 := HE1.out W hW
    go_simp
  go_simp
  refine wpAnyH_take (i := 8) (v := .slice a5 0 c5) rfl (by kernel_rfl) (by kernel_rfl) (by kernel_rfl) (fun _ _ _ h => h) (Or.inl ⟨by rfl, ?_⟩) SW ?_
  · intro W hW
    have f0 := HE0.out W hW
    have f1 := HE1.out W hW
    go_simp
  go_simp
  refine wpAnyH_take (i := 9) (v := .int .i64 2) rfl (by kernel_rfl) (by kernel_rfl) (by kernel_rfl) (fun _ _ _ h => h) (Or.inl ⟨by rfl, ?_⟩) SW ?_
  · intro W hW
    have f0 := HE0.out W hW
    have f1 := HE1.out W hW
    go_simp
  go_simp
  refine wpAnyH_done (by kernel_rfl) ?_ _
  have HB5 := hide (HB3.out.trans (SW.mono HB3.out.size))
  have g0 := HE0.out _ SW
  have g1 := HE1.out _ SW
  have HS5 := hide (Nat.lt_of_lt_of_le hs0 SW.size)
  clear SW HE0 HE1 HB3 hs0
  have b60 : (60 : Int) ≤ (n : Int) := by omega
  go_wp2_with fail
  go_ret
  exact ⟨rfl, HB5.out⟩

set_option maxRecDepth 100000 in
set_option maxHeartbeats 4000000 in
theorem law5_may (a : Option Addr) (n c : Nat) (ps : List Pc) (x y : Int) (right : Bool) (w : World) (h : Rp w a n c ps) (hsz : n * 16 ≤ 140737488351232) (hn : n ≤ 59) (hm : pcsB ps = false) :
    Calls Try.prog 5 #[.slice a n c, pv (x, y), .bool right] w fun e w' => e = .returned (.bool true) ∧ Below w.heap.size w w' := by
  have hln := h.len
  have HV : Hid (playV ps (x, y) right = ([], 3)) := hide (by rw [playV, if_pos (by rw [fltE, if_neg (by omega), hm]; simp), fltE, if_neg (by omega), hm]; rfl)
  have HH := hide h
  clear h
  unfold pv
  simp only
  go_enter Try.func5, Try.ntmps5
  go_wp2_with fail
  have B0 : Below w.heap.size w (w.alloc (.cells #[.int .i64 x, .int .i64 y] 35)) := (Below.refl _ _).alloc (Nat.le_refl _) _
  have e0 : (w.alloc (.cells #[.int .i64 x, .int .i64 y] 35)).cell? ⟨w.heap.size, 0, none⟩ = some (.int .i64 x) := by go_simp
  have e1 : (w.alloc (.cells #[.int .i64 x, .int .i64 y] 35)).cell? ⟨w.heap.size, 1, none⟩ = some (.int .i64 y) := by go_simp
  have hs0 : w.heap.size < (w.alloc (.cells #[.int .i64 x, .int .i64 y] 35)).heap.size := by simp [World.size_alloc]
  generalize w.alloc (.cells #[.int .i64 x, .int .i64 y] 35) = w3 at *
  have HE0 : Hid (∀ W, Below w3.heap.size w3 W → W.cell? ⟨w.heap.size, 0, none⟩ = some (.int .i64 x)) := hide (fun W hW => (hW.cell (p := ⟨w.heap.size, 0, none⟩) hs0).trans e0)
  have HE1 : Hid (∀ W, Below w3.heap.size w3 W → W.cell? ⟨w.heap.size, 1, none⟩ = some (.int .i64 y)) := hide (fun W hW => (hW.cell (p := ⟨w.heap.size, 1, none⟩) hs0).trans e1)
  have HB3 := hide B0
  clear B0 e0 e1
  refine wp_region_held (S := fun W => Below w3.heap.size w3 W) (by kernel_rfl) ?_
  change wpAnyH _ _ _ _ _ _ _ _ (World.drew _)
  have SW : Below w3.heap.size w3 w3.drew := (Below.refl _ w3).drew
  refine wpAnyH_take (i := 0) (v := .slice a n c) rfl (by kernel_rfl) (by kernel_rfl) (by kernel_rfl) (fun _ _ _ h => h) (Or.inl ⟨by rfl, ?_⟩) SW ?_
  · intro W hW
    have f0 := HE0.out W hW
    have f1 := HE1.out W hW
    go_simp
  go_simp
  refine wpAnyH_take (i := 2) (v := .agg #[.int .i64 x, .int .i64 y]) rfl (by kernel_rfl) (by kernel_rfl) (by kernel_rfl) (fun _ _ _ h => h) (Or.inl ⟨by rfl, ?_⟩) SW ?_
  · intro W hW
    have f0 := HE0.out W hW
    have f1 := HE1.out W hW
    go_simp
  go_simp
  refine wpAnyH_take (i := 3) (v := .bool right) rfl (by kernel_rfl) (by kernel_rfl) (by kernel_rfl) (fun _ _ _ h => h) (Or.inl ⟨by rfl, ?_⟩) SW ?_
  · intro W hW
    have f0 := HE0.out W hW
    have f1 := HE1.out W hW
    go_simp
  go_simp
  refine wpAnyH_ready (rs := [1]) (by kernel_rfl) (by simp) ?_
  refine AllReadyH.cons rfl (fun K1 hK1 => ?_) AllReadyH.nil
  go_simp
  refine (pieces_any a n c ps _ (HH.out.mono (HB3.out.trans (SW.mono HB3.out.size))) hsz).mono ?_
  rintro e w4 ⟨a4, c4, rfl, hR4, hB4⟩
  refine hK1.out _ _ (SW.trans (hB4.mono SW.size)) (fun SW => ?_)
  clear hK1 K1 hB4
  go_simp
  refine wpAnyH_ready (rs := [4]) (by kernel_rfl) (by simp) ?_
  refine AllReadyH.cons rfl (fun K1 hK1 => ?_) AllReadyH.nil
  go_simp
  refine (Play_any a4 n c4 ps (x, y) right _ hR4).mono ?_
  rintro e w5 ⟨a5, c5, rfl, hR5, hB5⟩
  rw [HV.out] at hR5 ⊢
  have HR5 := hide hR5
  refine hK1.out _ _ (SW.trans (hB5.mono SW.size)) (fun SW => ?_)
  clear hK1 K1 hB5 hR5 hR4
  go_simp
  refine wpAnyH_take (i := 5) (v := .tuple #[.slice a5 0 c5, .int .i64 3]) rfl (by kernel_rfl) (by kernel_rfl) (by kernel_rfl) (fun _ _ _ h => h) (Or.inl ⟨by rfl, ?_⟩) SW ?_
  · intro W hW
    have f0 := HE0.out W hW
    have f1 := HE1.out W hW
    go_simp
  go_simp
  refine wpAnyH_take (i := 6) (v := .slice a5 0 c5) rfl (by kernel_rfl) (by kernel_rfl) (by kernel_rfl) (fun _ _ _ h => h) (Or.inl ⟨by rfl, ?_⟩) SW ?_
  · intro W hW
    have f0 := HE0.out W hW
    have f1 := HE1.out W hW
    go_simp
  go_simp
  refine wpAnyH_take (i := 7) (v := .int .i64 3) rfl (by kernel_rfl) (by kernel_rfl) (by kernel_rfl) (fun _ _ _ h => h) (Or.inl ⟨by rfl, ?_⟩) SW ?_
  · intro W hW
    have f0 := HE0.out W hW
    have f1 := HE1.out W hW
    go_simp
  go_simp
  refine wpAnyH_take (i := 8) (v := .slice a5 0 c5) rfl (by kernel_rfl) (by kernel_rfl) (by kernel_rfl) (fun _ _ _ h => h) (Or.inl ⟨by rfl, ?_⟩) SW ?_
  · intro W hW
    have f0 := HE0.out W hW
    have f1 := HE1.out W hW
    go_simp
  go_simp
  refine wpAnyH_take (i := 9) (v := .int .i64 3) rfl (by kernel_rfl) (by kernel_rfl) (by kernel_rfl) (fun _ _ _ h => h) (Or.inl ⟨by rfl, ?_⟩) SW ?_
  · intro W hW
    have f0 := HE0.out W hW
    have f1 := HE1.out W hW
    go_simp
  go_simp
  refine wpAnyH_done (by kernel_rfl) ?_ _
  have HB5 := hide (HB3.out.trans (SW.mono HB3.out.size))
  have g0 := HE0.out _ SW
  have g1 := HE1.out _ SW
  have HS5 := hide (Nat.lt_of_lt_of_le hs0 SW.size)
  clear SW HE0 HE1 HB3 hs0
  have b60 : ¬ (60 : Int) ≤ (n : Int) := by omega
  go_wp2_with fail
  refine (PiecesMay_any a n c ps _ (HH.out.mono HB5.out)).mono ?_
  rintro e w6 ⟨rfl, hB6⟩
  rw [hm]
  have HB6 := hide (HB5.out.trans (hB6.mono HB5.out.size))
  have f0 := (hB6.cell (p := ⟨w.heap.size, 0, none⟩) HS5.out).trans g0
  have f1 := (hB6.cell (p := ⟨w.heap.size, 1, none⟩) HS5.out).trans g1
  have HS6 := hide (Nat.lt_of_lt_of_le HS5.out hB6.size)
  clear hB6 HB5 HS5 g0 g1
  go_wp2_with fail
  go_ret
  exact ⟨rfl, HB6.out⟩

set_option maxRecDepth 100000 in
set_option maxHeartbeats 4000000 in
theorem law5_piece (a : Option Addr) (n c : Nat) (ps : List Pc) (x y : Int) (right : Bool) (w : World) (h : Rp w a n c ps) (hsz : n * 16 ≤ 140737488351232) (hn : n ≤ 59) (hm : pcsB ps = true) (hp : pcB (x, y) = false) :
    Calls Try.prog 5 #[.slice a n c, pv (x, y), .bool right] w fun e w' => e = .returned (.bool true) ∧ Below w.heap.size w w' := by
  have hln := h.len
  have HV : Hid (playV ps (x, y) right = ([], 3)) := hide (by 
    have hF : fltE ps 59 = 0 := by (rw [fltE, if_neg (by omega), hm]; rfl)
    rw [playV, if_neg (by simp [hF]), if_pos hp])
  have HH := hide h
  clear h
  unfold pv
  simp only
  go_enter Try.func5, Try.ntmps5
  go_wp2_with fail
  have B0 : Below w.heap.size w (w.alloc (.cells #[.int .i64 x, .int .i64 y] 35)) := (Below.refl _ _).alloc (Nat.le_refl _) _
  have e0 : (w.alloc (.cells #[.int .i64 x, .int .i64 y] 35)).cell? ⟨w.heap.size, 0, none⟩ = some (.int .i64 x) := by go_simp
  have e1 : (w.alloc (.cells #[.int .i64 x, .int .i64 y] 35)).cell? ⟨w.heap.size, 1, none⟩ = some (.int .i64 y) := by go_simp
  have hs0 : w.heap.size < (w.alloc (.cells #[.int .i64 x, .int .i64 y] 35)).heap.size := by simp [World.size_alloc]
  generalize w.alloc (.cells #[.int .i64 x, .int .i64 y] 35) = w3 at *
  have HE0 : Hid (∀ W, Below w3.heap.size w3 W → W.cell? ⟨w.heap.size, 0, none⟩ = some (.int .i64 x)) := hide (fun W hW => (hW.cell (p := ⟨w.heap.size, 0, none⟩) hs0).trans e0)
  have HE1 : Hid (∀ W, Below w3.heap.size w3 W → W.cell? ⟨w.heap.size, 1, none⟩ = some (.int .i64 y)) := hide (fun W hW => (hW.cell (p := ⟨w.heap.size, 1, none⟩) hs0).trans e1)
  have HB3 := hide B0
  clear B0 e0 e1
  refine wp_region_held (S := fun W => Below w3.heap.size w3 W) (by kernel_rfl) ?_
  change wpAnyH _ _ _ _ _ _ _ _ (World.drew _)
  have SW : Below w3.heap.size w3 w3.drew := (Below.refl _ w3).drew
  refine wpAnyH_take (i := 0) (v := .slice a n c) rfl (by kernel_rfl) (by kernel_rfl) (by kernel_rfl) (fun _ _ _ h => h) (Or.inl ⟨by rfl, ?_⟩) SW ?_
  · intro W hW
    have f0 := HE0.out W hW
    have f1 := HE1.out W hW
    go_simp
  go_simp
  refine wpAnyH_take (i := 2) (v := .agg #[.int .i64 x, .int .i64 y]) rfl (by kernel_rfl) (by kernel_rfl) (by kernel_rfl) (fun _ _ _ h => h) (Or.inl ⟨by rfl, ?_⟩) SW ?_
  · intro W hW
    have f0 := HE0.out W hW
    have f1 := HE1.out W hW
    go_simp
  go_simp
  refine wpAnyH_take (i := 3) (v := .bool right) rfl (by kernel_rfl) (by kernel_rfl) (by kernel_rfl) (fun _ _ _ h => h) (Or.inl ⟨by rfl, ?_⟩) SW ?_
  · intro W hW
    have f0 := HE0.out W hW
    have f1 := HE1.out W hW
    go_simp
  go_simp
  refine wpAnyH_ready (rs := [1]) (by kernel_rfl) (by simp) ?_
  refine AllReadyH.cons rfl (fun K1 hK1 => ?_) AllReadyH.nil
  go_simp
  refine (pieces_any a n c ps _ (HH.out.mono (HB3.out.trans (SW.mono HB3.out.size))) hsz).mono ?_
  rintro e w4 ⟨a4, c4, rfl, hR4, hB4⟩
  refine hK1.out _ _ (SW.trans (hB4.mono SW.size)) (fun SW => ?_)
  clear hK1 K1 hB4
  go_simp
  refine wpAnyH_ready (rs := [4]) (by kernel_rfl) (by simp) ?_
  refine AllReadyH.cons rfl (fun K1 hK1 => ?_) AllReadyH.nil
  go_simp
  refine (Play_any a4 n c4 ps (x, y) right _ hR4).mono ?_
  rintro e w5 ⟨a5, c5, rfl, hR5, hB5⟩
  rw [HV.out] at hR5 ⊢
  have HR5 := hide hR5
  refine hK1.out _ _ (SW.trans (hB5.mono SW.size)) (fun SW => ?_)
  clear hK1 K1 hB5 hR5 hR4
  go_simp
  refine wpAnyH_take (i := 5) (v := .tuple #[.slice a5 0 c5, .int .i64 3]) rfl (by kernel_rfl) (by kernel_rfl) (by kernel_rfl) (fun _ _ _ h => h) (Or.inl ⟨by rfl, ?_⟩) SW ?_
  · intro W hW
    have f0 := HE0.out W hW
    have f1 := HE1.out W hW
    go_simp
  go_simp
  refine wpAnyH_take (i := 6) (v := .slice a5 0 c5) rfl (by kernel_rfl) (by kernel_rfl) (by kernel_rfl) (fun _ _ _ h => h) (Or.inl ⟨by rfl, ?_⟩) SW ?_
  · intro W hW
    have f0 := HE0.out W hW
    have f1 := HE1.out W hW
    go_simp
  go_simp
  refine wpAnyH_take (i := 7) (v := .int .i64 3) rfl (by kernel_rfl) (by kernel_rfl) (by kernel_rfl) (fun _ _ _ h => h) (Or.inl ⟨by rfl, ?_⟩) SW ?_
  · intro W hW
    have f0 := HE0.out W hW
    have f1 := HE1.out W hW
    go_simp
  go_simp
  refine wpAnyH_take (i := 8) (v := .slice a5 0 c5) rfl (by kernel_rfl) (by kernel_rfl) (by kernel_rfl) (fun _ _ _ h => h) (Or.inl ⟨by rfl, ?_⟩) SW ?_
  · intro W hW
    have f0 := HE0.out W hW
    have f1 := HE1.out W hW
    go_simp
  go_simp
  refine wpAnyH_take (i := 9) (v := .int .i64 3) rfl (by kernel_rfl) (by kernel_rfl) (by kernel_rfl) (fun _ _ _ h => h) (Or.inl ⟨by rfl, ?_⟩) SW ?_
  · intro W hW
    have f0 := HE0.out W hW
    have f1 := HE1.out W hW
    go_simp
  go_simp
  refine wpAnyH_done (by kernel_rfl) ?_ _
  have HB5 := hide (HB3.out.trans (SW.mono HB3.out.size))
  have g0 := HE0.out _ SW
  have g1 := HE1.out _ SW
  have HS5 := hide (Nat.lt_of_lt_of_le hs0 SW.size)
  clear SW HE0 HE1 HB3 hs0
  have b60 : ¬ (60 : Int) ≤ (n : Int) := by omega
  go_wp2_with fail
  refine (PiecesMay_any a n c ps _ (HH.out.mono HB5.out)).mono ?_
  rintro e w6 ⟨rfl, hB6⟩
  rw [hm]
  have HB6 := hide (HB5.out.trans (hB6.mono HB5.out.size))
  have f0 := (hB6.cell (p := ⟨w.heap.size, 0, none⟩) HS5.out).trans g0
  have f1 := (hB6.cell (p := ⟨w.heap.size, 1, none⟩) HS5.out).trans g1
  have HS6 := hide (Nat.lt_of_lt_of_le HS5.out hB6.size)
  clear hB6 HB5 HS5 g0 g1
  go_wp2_with fail
  refine (PieceMay_any (x, y) _).mono ?_
  rintro e w7 ⟨rfl, hB7⟩
  rw [hp]
  have HB7 := hide (HB6.out.trans (hB7.mono HB6.out.size))
  have g0 := (hB7.cell (p := ⟨w.heap.size, 0, none⟩) HS6.out).trans f0
  have g1 := (hB7.cell (p := ⟨w.heap.size, 1, none⟩) HS6.out).trans f1
  have HS7 := hide (Nat.lt_of_lt_of_le HS6.out hB7.size)
  clear hB7 HB6 HS6 f0 f1
  go_wp2_with fail
  go_ret
  exact ⟨rfl, HB7.out⟩

set_option maxRecDepth 100000 in
set_option maxHeartbeats 4000000 in
theorem law5_row (a : Option Addr) (n c : Nat) (ps : List Pc) (x y : Int) (right : Bool) (w : World) (h : Rp w a n c ps) (hsz : n * 16 ≤ 140737488351232) (hn : n ≤ 59) (hm : pcsB ps = true) (hp : pcB (x, y) = true) (hr : isR ps = false) :
    Calls Try.prog 5 #[.slice a n c, pv (x, y), .bool right] w fun e w' => e = .returned (.bool true) ∧ Below w.heap.size w w' := by
  have hln := h.len
  have HV : Hid (playV ps (x, y) right = ([], 1)) := hide (by 
    have hF : fltE ps 59 = 0 := by (rw [fltE, if_neg (by omega), hm]; rfl)
    rw [playV, if_neg (by simp [hF]), if_neg (by simp [hp]), if_pos hr])
  have HH := hide h
  clear h
  unfold pv
  simp only
  go_enter Try.func5, Try.ntmps5
  go_wp2_with fail
  have B0 : Below w.heap.size w (w.alloc (.cells #[.int .i64 x, .int .i64 y] 35)) := (Below.refl _ _).alloc (Nat.le_refl _) _
  have e0 : (w.alloc (.cells #[.int .i64 x, .int .i64 y] 35)).cell? ⟨w.heap.size, 0, none⟩ = some (.int .i64 x) := by go_simp
  have e1 : (w.alloc (.cells #[.int .i64 x, .int .i64 y] 35)).cell? ⟨w.heap.size, 1, none⟩ = some (.int .i64 y) := by go_simp
  have hs0 : w.heap.size < (w.alloc (.cells #[.int .i64 x, .int .i64 y] 35)).heap.size := by simp [World.size_alloc]
  generalize w.alloc (.cells #[.int .i64 x, .int .i64 y] 35) = w3 at *
  have HE0 : Hid (∀ W, Below w3.heap.size w3 W → W.cell? ⟨w.heap.size, 0, none⟩ = some (.int .i64 x)) := hide (fun W hW => (hW.cell (p := ⟨w.heap.size, 0, none⟩) hs0).trans e0)
  have HE1 : Hid (∀ W, Below w3.heap.size w3 W → W.cell? ⟨w.heap.size, 1, none⟩ = some (.int .i64 y)) := hide (fun W hW => (hW.cell (p := ⟨w.heap.size, 1, none⟩) hs0).trans e1)
  have HB3 := hide B0
  clear B0 e0 e1
  refine wp_region_held (S := fun W => Below w3.heap.size w3 W) (by kernel_rfl) ?_
  change wpAnyH _ _ _ _ _ _ _ _ (World.drew _)
  have SW : Below w3.heap.size w3 w3.drew := (Below.refl _ w3).drew
  refine wpAnyH_take (i := 0) (v := .slice a n c) rfl (by kernel_rfl) (by kernel_rfl) (by kernel_rfl) (fun _ _ _ h => h) (Or.inl ⟨by rfl, ?_⟩) SW ?_
  · intro W hW
    have f0 := HE0.out W hW
    have f1 := HE1.out W hW
    go_simp
  go_simp
  refine wpAnyH_take (i := 2) (v := .agg #[.int .i64 x, .int .i64 y]) rfl (by kernel_rfl) (by kernel_rfl) (by kernel_rfl) (fun _ _ _ h => h) (Or.inl ⟨by rfl, ?_⟩) SW ?_
  · intro W hW
    have f0 := HE0.out W hW
    have f1 := HE1.out W hW
    go_simp
  go_simp
  refine wpAnyH_take (i := 3) (v := .bool right) rfl (by kernel_rfl) (by kernel_rfl) (by kernel_rfl) (fun _ _ _ h => h) (Or.inl ⟨by rfl, ?_⟩) SW ?_
  · intro W hW
    have f0 := HE0.out W hW
    have f1 := HE1.out W hW
    go_simp
  go_simp
  refine wpAnyH_ready (rs := [1]) (by kernel_rfl) (by simp) ?_
  refine AllReadyH.cons rfl (fun K1 hK1 => ?_) AllReadyH.nil
  go_simp
  refine (pieces_any a n c ps _ (HH.out.mono (HB3.out.trans (SW.mono HB3.out.size))) hsz).mono ?_
  rintro e w4 ⟨a4, c4, rfl, hR4, hB4⟩
  refine hK1.out _ _ (SW.trans (hB4.mono SW.size)) (fun SW => ?_)
  clear hK1 K1 hB4
  go_simp
  refine wpAnyH_ready (rs := [4]) (by kernel_rfl) (by simp) ?_
  refine AllReadyH.cons rfl (fun K1 hK1 => ?_) AllReadyH.nil
  go_simp
  refine (Play_any a4 n c4 ps (x, y) right _ hR4).mono ?_
  rintro e w5 ⟨a5, c5, rfl, hR5, hB5⟩
  rw [HV.out] at hR5 ⊢
  have HR5 := hide hR5
  refine hK1.out _ _ (SW.trans (hB5.mono SW.size)) (fun SW => ?_)
  clear hK1 K1 hB5 hR5 hR4
  go_simp
  refine wpAnyH_take (i := 5) (v := .tuple #[.slice a5 0 c5, .int .i64 1]) rfl (by kernel_rfl) (by kernel_rfl) (by kernel_rfl) (fun _ _ _ h => h) (Or.inl ⟨by rfl, ?_⟩) SW ?_
  · intro W hW
    have f0 := HE0.out W hW
    have f1 := HE1.out W hW
    go_simp
  go_simp
  refine wpAnyH_take (i := 6) (v := .slice a5 0 c5) rfl (by kernel_rfl) (by kernel_rfl) (by kernel_rfl) (fun _ _ _ h => h) (Or.inl ⟨by rfl, ?_⟩) SW ?_
  · intro W hW
    have f0 := HE0.out W hW
    have f1 := HE1.out W hW
    go_simp
  go_simp
  refine wpAnyH_take (i := 7) (v := .int .i64 1) rfl (by kernel_rfl) (by kernel_rfl) (by kernel_rfl) (fun _ _ _ h => h) (Or.inl ⟨by rfl, ?_⟩) SW ?_
  · intro W hW
    have f0 := HE0.out W hW
    have f1 := HE1.out W hW
    go_simp
  go_simp
  refine wpAnyH_take (i := 8) (v := .slice a5 0 c5) rfl (by kernel_rfl) (by kernel_rfl) (by kernel_rfl) (fun _ _ _ h => h) (Or.inl ⟨by rfl, ?_⟩) SW ?_
  · intro W hW
    have f0 := HE0.out W hW
    have f1 := HE1.out W hW
    go_simp
  go_simp
  refine wpAnyH_take (i := 9) (v := .int .i64 1) rfl (by kernel_rfl) (by kernel_rfl) (by kernel_rfl) (fun _ _ _ h => h) (Or.inl ⟨by rfl, ?_⟩) SW ?_
  · intro W hW
    have f0 := HE0.out W hW
    have f1 := HE1.out W hW
    go_simp
  go_simp
  refine wpAnyH_done (by kernel_rfl) ?_ _
  have HB5 := hide (HB3.out.trans (SW.mono HB3.out.size))
  have g0 := HE0.out _ SW
  have g1 := HE1.out _ SW
  have HS5 := hide (Nat.lt_of_lt_of_le hs0 SW.size)
  clear SW HE0 HE1 HB3 hs0
  have b60 : ¬ (60 : Int) ≤ (n : Int) := by omega
  go_wp2_with fail
  refine (PiecesMay_any a n c ps _ (HH.out.mono HB5.out)).mono ?_
  rintro e w6 ⟨rfl, hB6⟩
  rw [hm]
  have HB6 := hide (HB5.out.trans (hB6.mono HB5.out.size))
  have f0 := (hB6.cell (p := ⟨w.heap.size, 0, none⟩) HS5.out).trans g0
  have f1 := (hB6.cell (p := ⟨w.heap.size, 1, none⟩) HS5.out).trans g1
  have HS6 := hide (Nat.lt_of_lt_of_le HS5.out hB6.size)
  clear hB6 HB5 HS5 g0 g1
  go_wp2_with fail
  refine (PieceMay_any (x, y) _).mono ?_
  rintro e w7 ⟨rfl, hB7⟩
  rw [hp]
  have HB7 := hide (HB6.out.trans (hB7.mono HB6.out.size))
  have g0 := (hB7.cell (p := ⟨w.heap.size, 0, none⟩) HS6.out).trans f0
  have g1 := (hB7.cell (p := ⟨w.heap.size, 1, none⟩) HS6.out).trans f1
  have HS7 := hide (Nat.lt_of_lt_of_le HS6.out hB7.size)
  clear hB7 HB6 HS6 f0 f1
  go_wp2_with fail
  refine (RowIs_any a n c ps _ (HH.out.mono HB7.out)).mono ?_
  rintro e w8 ⟨rfl, q8, hw8⟩
  rw [hr]
  have hB8 : Below w7.heap.size w7 w8 := hw8 ▸ drewN_below _ _ _
  have HB8 := hide (HB7.out.trans (hB8.mono HB7.out.size))
  have f0 := (hB8.cell (p := ⟨w.heap.size, 0, none⟩) HS7.out).trans g0
  have f1 := (hB8.cell (p := ⟨w.heap.size, 1, none⟩) HS7.out).trans g1
  clear hB8 hw8 HB7 HS7 g0 g1
  go_wp2_with fail
  go_ret
  exact ⟨rfl, HB8.out⟩

set_option maxRecDepth 100000 in
set_option maxHeartbeats 4000000 in
theorem law5_none (a : Option Addr) (n c : Nat) (ps : List Pc) (x y : Int) (right : Bool) (w : World) (h : Rp w a n c ps) (hsz : n * 16 ≤ 140737488351232) (hn : n ≤ 59) (hm : pcsB ps = true) (hp : pcB (x, y) = true) (hr : isR ps = true) (hD : playD ps (x, y) right = none) :
    Calls Try.prog 5 #[.slice a n c, pv (x, y), .bool right] w fun e w' => e = .returned (.bool true) ∧ Below w.heap.size w w' := by
  have hln := h.len
  have HV : Hid (playV ps (x, y) right = ([], 10)) := hide (by 
    have hF : fltE ps 59 = 0 := by (rw [fltE, if_neg (by omega), hm]; rfl)
    rw [playV, if_neg (by simp [hF]), if_neg (by simp [hp]), if_neg (by simp [hr]), hD])
  have HH := hide h
  clear h
  unfold pv
  simp only
  go_enter Try.func5, Try.ntmps5
  go_wp2_with fail
  have B0 : Below w.heap.size w (w.alloc (.cells #[.int .i64 x, .int .i64 y] 35)) := (Below.refl _ _).alloc (Nat.le_refl _) _
  have e0 : (w.alloc (.cells #[.int .i64 x, .int .i64 y] 35)).cell? ⟨w.heap.size, 0, none⟩ = some (.int .i64 x) := by go_simp
  have e1 : (w.alloc (.cells #[.int .i64 x, .int .i64 y] 35)).cell? ⟨w.heap.size, 1, none⟩ = some (.int .i64 y) := by go_simp
  have hs0 : w.heap.size < (w.alloc (.cells #[.int .i64 x, .int .i64 y] 35)).heap.size := by simp [World.size_alloc]
  generalize w.alloc (.cells #[.int .i64 x, .int .i64 y] 35) = w3 at *
  have HE0 : Hid (∀ W, Below w3.heap.size w3 W → W.cell? ⟨w.heap.size, 0, none⟩ = some (.int .i64 x)) := hide (fun W hW => (hW.cell (p := ⟨w.heap.size, 0, none⟩) hs0).trans e0)
  have HE1 : Hid (∀ W, Below w3.heap.size w3 W → W.cell? ⟨w.heap.size, 1, none⟩ = some (.int .i64 y)) := hide (fun W hW => (hW.cell (p := ⟨w.heap.size, 1, none⟩) hs0).trans e1)
  have HB3 := hide B0
  clear B0 e0 e1
  refine wp_region_held (S := fun W => Below w3.heap.size w3 W) (by kernel_rfl) ?_
  change wpAnyH _ _ _ _ _ _ _ _ (World.drew _)
  have SW : Below w3.heap.size w3 w3.drew := (Below.refl _ w3).drew
  refine wpAnyH_take (i := 0) (v := .slice a n c) rfl (by kernel_rfl) (by kernel_rfl) (by kernel_rfl) (fun _ _ _ h => h) (Or.inl ⟨by rfl, ?_⟩) SW ?_
  · intro W hW
    have f0 := HE0.out W hW
    have f1 := HE1.out W hW
    go_simp
  go_simp
  refine wpAnyH_take (i := 2) (v := .agg #[.int .i64 x, .int .i64 y]) rfl (by kernel_rfl) (by kernel_rfl) (by kernel_rfl) (fun _ _ _ h => h) (Or.inl ⟨by rfl, ?_⟩) SW ?_
  · intro W hW
    have f0 := HE0.out W hW
    have f1 := HE1.out W hW
    go_simp
  go_simp
  refine wpAnyH_take (i := 3) (v := .bool right) rfl (by kernel_rfl) (by kernel_rfl) (by kernel_rfl) (fun _ _ _ h => h) (Or.inl ⟨by rfl, ?_⟩) SW ?_
  · intro W hW
    have f0 := HE0.out W hW
    have f1 := HE1.out W hW
    go_simp
  go_simp
  refine wpAnyH_ready (rs := [1]) (by kernel_rfl) (by simp) ?_
  refine AllReadyH.cons rfl (fun K1 hK1 => ?_) AllReadyH.nil
  go_simp
  refine (pieces_any a n c ps _ (HH.out.mono (HB3.out.trans (SW.mono HB3.out.size))) hsz).mono ?_
  rintro e w4 ⟨a4, c4, rfl, hR4, hB4⟩
  refine hK1.out _ _ (SW.trans (hB4.mono SW.size)) (fun SW => ?_)
  clear hK1 K1 hB4
  go_simp
  refine wpAnyH_ready (rs := [4]) (by kernel_rfl) (by simp) ?_
  refine AllReadyH.cons rfl (fun K1 hK1 => ?_) AllReadyH.nil
  go_simp
  refine (Play_any a4 n c4 ps (x, y) right _ hR4).mono ?_
  rintro e w5 ⟨a5, c5, rfl, hR5, hB5⟩
  rw [HV.out] at hR5 ⊢
  have HR5 := hide hR5
  refine hK1.out _ _ (SW.trans (hB5.mono SW.size)) (fun SW => ?_)
  clear hK1 K1 hB5 hR5 hR4
  go_simp
  refine wpAnyH_take (i := 5) (v := .tuple #[.slice a5 0 c5, .int .i64 10]) rfl (by kernel_rfl) (by kernel_rfl) (by kernel_rfl) (fun _ _ _ h => h) (Or.inl ⟨by rfl, ?_⟩) SW ?_
  · intro W hW
    have f0 := HE0.out W hW
    have f1 := HE1.out W hW
    go_simp
  go_simp
  refine wpAnyH_take (i := 6) (v := .slice a5 0 c5) rfl (by kernel_rfl) (by kernel_rfl) (by kernel_rfl) (fun _ _ _ h => h) (Or.inl ⟨by rfl, ?_⟩) SW ?_
  · intro W hW
    have f0 := HE0.out W hW
    have f1 := HE1.out W hW
    go_simp
  go_simp
  refine wpAnyH_take (i := 7) (v := .int .i64 10) rfl (by kernel_rfl) (by kernel_rfl) (by kernel_rfl) (fun _ _ _ h => h) (Or.inl ⟨by rfl, ?_⟩) SW ?_
  · intro W hW
    have f0 := HE0.out W hW
    have f1 := HE1.out W hW
    go_simp
  go_simp
  refine wpAnyH_take (i := 8) (v := .slice a5 0 c5) rfl (by kernel_rfl) (by kernel_rfl) (by kernel_rfl) (fun _ _ _ h => h) (Or.inl ⟨by rfl, ?_⟩) SW ?_
  · intro W hW
    have f0 := HE0.out W hW
    have f1 := HE1.out W hW
    go_simp
  go_simp
  refine wpAnyH_take (i := 9) (v := .int .i64 10) rfl (by kernel_rfl) (by kernel_rfl) (by kernel_rfl) (fun _ _ _ h => h) (Or.inl ⟨by rfl, ?_⟩) SW ?_
  · intro W hW
    have f0 := HE0.out W hW
    have f1 := HE1.out W hW
    go_simp
  go_simp
  refine wpAnyH_done (by kernel_rfl) ?_ _
  have HB5 := hide (HB3.out.trans (SW.mono HB3.out.size))
  have g0 := HE0.out _ SW
  have g1 := HE1.out _ SW
  have HS5 := hide (Nat.lt_of_lt_of_le hs0 SW.size)
  clear SW HE0 HE1 HB3 hs0
  have b60 : ¬ (60 : Int) ≤ (n : Int) := by omega
  go_wp2_with fail
  refine (PiecesMay_any a n c ps _ (HH.out.mono HB5.out)).mono ?_
  rintro e w6 ⟨rfl, hB6⟩
  rw [hm]
  have HB6 := hide (HB5.out.trans (hB6.mono HB5.out.size))
  have f0 := (hB6.cell (p := ⟨w.heap.size, 0, none⟩) HS5.out).trans g0
  have f1 := (hB6.cell (p := ⟨w.heap.size, 1, none⟩) HS5.out).trans g1
  have HS6 := hide (Nat.lt_of_lt_of_le HS5.out hB6.size)
  clear hB6 HB5 HS5 g0 g1
  go_wp2_with fail
  refine (PieceMay_any (x, y) _).mono ?_
  rintro e w7 ⟨rfl, hB7⟩
  rw [hp]
  have HB7 := hide (HB6.out.trans (hB7.mono HB6.out.size))
  have g0 := (hB7.cell (p := ⟨w.heap.size, 0, none⟩) HS6.out).trans f0
  have g1 := (hB7.cell (p := ⟨w.heap.size, 1, none⟩) HS6.out).trans f1
  have HS7 := hide (Nat.lt_of_lt_of_le HS6.out hB7.size)
  clear hB7 HB6 HS6 f0 f1
  go_wp2_with fail
  refine (RowIs_any a n c ps _ (HH.out.mono HB7.out)).mono ?_
  rintro e w8 ⟨rfl, q8, hw8⟩
  rw [hr]
  have hB8 : Below w7.heap.size w7 w8 := hw8 ▸ drewN_below _ _ _
  have HB8 := hide (HB7.out.trans (hB8.mono HB7.out.size))
  have f0 := (hB8.cell (p := ⟨w.heap.size, 0, none⟩) HS7.out).trans g0
  have f1 := (hB8.cell (p := ⟨w.heap.size, 1, none⟩) HS7.out).trans g1
  clear hB8 hw8 HB7 HS7 g0 g1
  go_wp2_with fail
  refine (PlayOf_any a n c ps (x, y) right _ (HH.out.mono HB8.out) (by omega) hr).mono ?_
  rintro e w9 ⟨a9, c9, rfl, hR9, hB9⟩
  rw [show playO ps (x, y) right = ([], false) by rw [playO, hD]] at hR9 ⊢
  have HB9 := hide (HB8.out.trans (hB9.mono HB8.out.size))
  clear hR9 hB9 HB8 f0 f1
  go_wp2_with fail
  go_ret
  exact ⟨rfl, HB9.out⟩

set_option maxRecDepth 100000 in
set_option maxHeartbeats 4000000 in
theorem law5_some (a : Option Addr) (n c : Nat) (ps : List Pc) (x y : Int) (right : Bool) (w : World) (h : Rp w a n c ps) (hsz : n * 16 ≤ 140737488351232) (L : List Pc) (hn : n ≤ 59) (hm : pcsB ps = true) (hp : pcB (x, y) = true) (hr : isR ps = true) (hD : playD ps (x, y) right = some L) :
    Calls Try.prog 5 #[.slice a n c, pv (x, y), .bool right] w fun e w' => e = .returned (.bool true) ∧ Below w.heap.size w w' := by
  have hln := h.len
  have HV : Hid (playV ps (x, y) right = (L, 0)) := hide (by 
    have hF : fltE ps 59 = 0 := by (rw [fltE, if_neg (by omega), hm]; rfl)
    rw [playV, if_neg (by simp [hF]), if_neg (by simp [hp]), if_neg (by simp [hr]), hD])
  have HH := hide h
  clear h
  unfold pv
  simp only
  go_enter Try.func5, Try.ntmps5
  go_wp2_with fail
  have B0 : Below w.heap.size w (w.alloc (.cells #[.int .i64 x, .int .i64 y] 35)) := (Below.refl _ _).alloc (Nat.le_refl _) _
  have e0 : (w.alloc (.cells #[.int .i64 x, .int .i64 y] 35)).cell? ⟨w.heap.size, 0, none⟩ = some (.int .i64 x) := by go_simp
  have e1 : (w.alloc (.cells #[.int .i64 x, .int .i64 y] 35)).cell? ⟨w.heap.size, 1, none⟩ = some (.int .i64 y) := by go_simp
  have hs0 : w.heap.size < (w.alloc (.cells #[.int .i64 x, .int .i64 y] 35)).heap.size := by simp [World.size_alloc]
  generalize w.alloc (.cells #[.int .i64 x, .int .i64 y] 35) = w3 at *
  have HE0 : Hid (∀ W, Below w3.heap.size w3 W → W.cell? ⟨w.heap.size, 0, none⟩ = some (.int .i64 x)) := hide (fun W hW => (hW.cell (p := ⟨w.heap.size, 0, none⟩) hs0).trans e0)
  have HE1 : Hid (∀ W, Below w3.heap.size w3 W → W.cell? ⟨w.heap.size, 1, none⟩ = some (.int .i64 y)) := hide (fun W hW => (hW.cell (p := ⟨w.heap.size, 1, none⟩) hs0).trans e1)
  have HB3 := hide B0
  clear B0 e0 e1
  refine wp_region_held (S := fun W => Below w3.heap.size w3 W) (by kernel_rfl) ?_
  change wpAnyH _ _ _ _ _ _ _ _ (World.drew _)
  have SW : Below w3.heap.size w3 w3.drew := (Below.refl _ w3).drew
  refine wpAnyH_take (i := 0) (v := .slice a n c) rfl (by kernel_rfl) (by kernel_rfl) (by kernel_rfl) (fun _ _ _ h => h) (Or.inl ⟨by rfl, ?_⟩) SW ?_
  · intro W hW
    have f0 := HE0.out W hW
    have f1 := HE1.out W hW
    go_simp
  go_simp
  refine wpAnyH_take (i := 2) (v := .agg #[.int .i64 x, .int .i64 y]) rfl (by kernel_rfl) (by kernel_rfl) (by kernel_rfl) (fun _ _ _ h => h) (Or.inl ⟨by rfl, ?_⟩) SW ?_
  · intro W hW
    have f0 := HE0.out W hW
    have f1 := HE1.out W hW
    go_simp
  go_simp
  refine wpAnyH_take (i := 3) (v := .bool right) rfl (by kernel_rfl) (by kernel_rfl) (by kernel_rfl) (fun _ _ _ h => h) (Or.inl ⟨by rfl, ?_⟩) SW ?_
  · intro W hW
    have f0 := HE0.out W hW
    have f1 := HE1.out W hW
    go_simp
  go_simp
  refine wpAnyH_ready (rs := [1]) (by kernel_rfl) (by simp) ?_
  refine AllReadyH.cons rfl (fun K1 hK1 => ?_) AllReadyH.nil
  go_simp
  refine (pieces_any a n c ps _ (HH.out.mono (HB3.out.trans (SW.mono HB3.out.size))) hsz).mono ?_
  rintro e w4 ⟨a4, c4, rfl, hR4, hB4⟩
  refine hK1.out _ _ (SW.trans (hB4.mono SW.size)) (fun SW => ?_)
  clear hK1 K1 hB4
  go_simp
  refine wpAnyH_ready (rs := [4]) (by kernel_rfl) (by simp) ?_
  refine AllReadyH.cons rfl (fun K1 hK1 => ?_) AllReadyH.nil
  go_simp
  refine (Play_any a4 n c4 ps (x, y) right _ hR4).mono ?_
  rintro e w5 ⟨a5, c5, rfl, hR5, hB5⟩
  rw [HV.out] at hR5 ⊢
  have HR5 := hide hR5
  refine hK1.out _ _ (SW.trans (hB5.mono SW.size)) (fun SW => ?_)
  clear hK1 K1 hB5 hR5 hR4
  go_simp
  refine wpAnyH_take (i := 5) (v := .tuple #[.slice a5 L.length c5, .int .i64 0]) rfl (by kernel_rfl) (by kernel_rfl) (by kernel_rfl) (fun _ _ _ h => h) (Or.inl ⟨by rfl, ?_⟩) SW ?_
  · intro W hW
    have f0 := HE0.out W hW
    have f1 := HE1.out W hW
    go_simp
  go_simp
  refine wpAnyH_take (i := 6) (v := .slice a5 L.length c5) rfl (by kernel_rfl) (by kernel_rfl) (by kernel_rfl) (fun _ _ _ h => h) (Or.inl ⟨by rfl, ?_⟩) SW ?_
  · intro W hW
    have f0 := HE0.out W hW
    have f1 := HE1.out W hW
    go_simp
  go_simp
  refine wpAnyH_take (i := 7) (v := .int .i64 0) rfl (by kernel_rfl) (by kernel_rfl) (by kernel_rfl) (fun _ _ _ h => h) (Or.inl ⟨by rfl, ?_⟩) SW ?_
  · intro W hW
    have f0 := HE0.out W hW
    have f1 := HE1.out W hW
    go_simp
  go_simp
  refine wpAnyH_take (i := 8) (v := .slice a5 L.length c5) rfl (by kernel_rfl) (by kernel_rfl) (by kernel_rfl) (fun _ _ _ h => h) (Or.inl ⟨by rfl, ?_⟩) SW ?_
  · intro W hW
    have f0 := HE0.out W hW
    have f1 := HE1.out W hW
    go_simp
  go_simp
  refine wpAnyH_take (i := 9) (v := .int .i64 0) rfl (by kernel_rfl) (by kernel_rfl) (by kernel_rfl) (fun _ _ _ h => h) (Or.inl ⟨by rfl, ?_⟩) SW ?_
  · intro W hW
    have f0 := HE0.out W hW
    have f1 := HE1.out W hW
    go_simp
  go_simp
  refine wpAnyH_done (by kernel_rfl) ?_ _
  have HB5 := hide (HB3.out.trans (SW.mono HB3.out.size))
  have g0 := HE0.out _ SW
  have g1 := HE1.out _ SW
  have HS5 := hide (Nat.lt_of_lt_of_le hs0 SW.size)
  clear SW HE0 HE1 HB3 hs0
  have b60 : ¬ (60 : Int) ≤ (n : Int) := by omega
  go_wp2_with fail
  refine (PiecesMay_any a n c ps _ (HH.out.mono HB5.out)).mono ?_
  rintro e w6 ⟨rfl, hB6⟩
  rw [hm]
  have HB6 := hide (HB5.out.trans (hB6.mono HB5.out.size))
  have f0 := (hB6.cell (p := ⟨w.heap.size, 0, none⟩) HS5.out).trans g0
  have f1 := (hB6.cell (p := ⟨w.heap.size, 1, none⟩) HS5.out).trans g1
  have HS6 := hide (Nat.lt_of_lt_of_le HS5.out hB6.size)
  have HK6 := hide (HR5.out.mono hB6)
  clear hB6 HB5 HR5 HS5 g0 g1
  go_wp2_with fail
  refine (PieceMay_any (x, y) _).mono ?_
  rintro e w7 ⟨rfl, hB7⟩
  rw [hp]
  have HB7 := hide (HB6.out.trans (hB7.mono HB6.out.size))
  have g0 := (hB7.cell (p := ⟨w.heap.size, 0, none⟩) HS6.out).trans f0
  have g1 := (hB7.cell (p := ⟨w.heap.size, 1, none⟩) HS6.out).trans f1
  have HS7 := hide (Nat.lt_of_lt_of_le HS6.out hB7.size)
  have HK7 := hide (HK6.out.mono hB7)
  clear hB7 HB6 HK6 HS6 f0 f1
  go_wp2_with fail
  refine (RowIs_any a n c ps _ (HH.out.mono HB7.out)).mono ?_
  rintro e w8 ⟨rfl, q8, hw8⟩
  rw [hr]
  have hB8 : Below w7.heap.size w7 w8 := hw8 ▸ drewN_below _ _ _
  have HB8 := hide (HB7.out.trans (hB8.mono HB7.out.size))
  have f0 := (hB8.cell (p := ⟨w.heap.size, 0, none⟩) HS7.out).trans g0
  have f1 := (hB8.cell (p := ⟨w.heap.size, 1, none⟩) HS7.out).trans g1
  have HK8 := hide (HK7.out.mono hB8)
  clear HK7 hB8 hw8 HB7 HS7 g0 g1
  go_wp2_with fail
  refine (PlayOf_any a n c ps (x, y) right _ (HH.out.mono HB8.out) (by omega) hr).mono ?_
  rintro e w9 ⟨a9, c9, rfl, hR9, hB9⟩
  rw [show playO ps (x, y) right = (L, true) by rw [playO, hD]] at hR9 ⊢
  have HB9 := hide (HB8.out.trans (hB9.mono HB8.out.size))
  have HK9 := hide (HK8.out.mono hB9)
  have HR9 := hide hR9
  clear hR9 hB9 HB8 HK8 f0 f1
  go_wp2_with fail
  refine (samePieces_any _ _ _ L _ _ _ L _ HK9.out HR9.out).mono ?_
  rintro e w10 ⟨rfl, q10, hw10⟩
  rw [show decide (L = L) = true by simp]
  have HB10 := hide (HB9.out.trans ((hw10 ▸ drewN_below w9.heap.size w9 q10 : Below w9.heap.size w9 w10).mono HB9.out.size))
  clear hw10 HB9 HK9 HR9
  go_wp2_with fail
  go_ret
  exact ⟨rfl, HB10.out⟩


theorem law5_any (a : Option Addr) (n c : Nat) (ps : List Pc) (p : Pc) (right : Bool) (w : World) (h : Rp w a n c ps) (hsz : n * 16 ≤ 140737488351232) :
    Calls Try.prog 5 #[.slice a n c, pv p, .bool right] w fun e w' => e = .returned (.bool true) ∧ Below w.heap.size w w' := by
  obtain ⟨x, y⟩ := p
  by_cases hn : 60 ≤ n
  · exact law5_size a n c ps x y right w h hsz hn
  · cases hm : pcsB ps with
    | false => exact law5_may a n c ps x y right w h hsz (by omega) hm
    | true =>
      cases hp : pcB (x, y) with
      | false => exact law5_piece a n c ps x y right w h hsz (by omega) hm hp
      | true =>
        cases hr : isR ps with
        | false => exact law5_row a n c ps x y right w h hsz (by omega) hm hp hr
        | true =>
          cases hD : playD ps (x, y) right with
          | none => exact law5_none a n c ps x y right w h hsz (by omega) hm hp hr hD
          | some L => exact law5_some a n c ps x y right w h hsz L (by omega) hm hp hr hD

end Go.Proofs.Ytjcglpnpdalcjaa
