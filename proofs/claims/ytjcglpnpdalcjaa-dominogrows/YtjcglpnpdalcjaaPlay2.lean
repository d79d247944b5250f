/-
  What Play answers for every argument, and the document's own way to lay a piece. No conditions beyond those that each theorem bears.
-/
import Derived.Test.YtjcglpnpdalcjaaPlay
namespace Go.Proofs.Ytjcglpnpdalcjaa
open Go.RowKit
attribute [local go_sem] build35 run_eq35 guard35

/-- What Play answers. -/
def playV (ps : List Pc) (p : Pc) (right : Bool) : List Pc × Int :=
  if fltE ps 59 ≠ 0 then ([], fltE ps 59) else if pcB p = false then ([], 3) else if isR ps = false then ([], 1) else match playD ps p right with
    | some L => (L, 0)
    | none => ([], 10)

theorem fltE_zero {ps : List Pc} {m : Nat} (h : fltE ps m = 0) : ps.length ≤ m ∧ pcsB ps = true := by
  unfold fltE at h
  split at h
  · simp at h
  · split at h
    · rename_i h1 h2; exact ⟨by omega, h2⟩
    · simp at h

set_option maxHeartbeats 1000000 in
theorem Play_any (a : Option Addr) (n c : Nat) (ps : List Pc) (p : Pc) (right : Bool) (w : World) (h : Rp w a n c ps) :
    Calls Try.prog 19 #[.slice a n c, pv p, .bool right] w fun e w' => ∃ a' c', e = .returned (.tuple #[.slice a' (playV ps p right).1.length c', .int .i64 (playV ps p right).2]) ∧ Rp w' a' (playV ps p right).1.length c' (playV ps p right).1 ∧ Below w.heap.size w w' := by
  by_cases hf : fltE ps 59 = 0
  · obtain ⟨h1, h2⟩ := fltE_zero hf
    cases hp : pcB p with
    | false =>
      have HV : Hid (playV ps p right = ([], 3)) := hide (by rw [playV, if_neg (by simp [hf]), if_pos hp])
      rw [HV.out]
      have HH := hide h
      clear h h1 h2
      obtain ⟨x, y⟩ := p
      unfold pv
      simp only [List.length_nil]
      go_enter Try.func19, Try.ntmps19
      go_wp2_with fail
      have B0 : Below w.heap.size w (w.alloc (.cells #[.int .i64 x, .int .i64 y] 35)) := (Below.refl _ _).alloc (Nat.le_refl _) _
      refine (fault_any a n c ps 59 _ (HH.out.mono B0)).mono ?_
      rintro e w1 ⟨rfl, hB1⟩
      rw [hf]
      have c0 : w1.cell? ⟨w.heap.size, 0, none⟩ = some (.int .i64 x) := (hB1.cell (by simp [World.size_alloc])).trans (by go_simp)
      have c1 : w1.cell? ⟨w.heap.size, 1, none⟩ = some (.int .i64 y) := (hB1.cell (by simp [World.size_alloc])).trans (by go_simp)
      have HB1 := hide (B0.trans (hB1.mono B0.size))
      clear B0 hB1
      go_wp2_with fail
      refine (wrongPiece_any (x, y) _).mono ?_
      rintro e w2 ⟨rfl, hB2⟩
      rw [hp]
      have HB2 := hide (HB1.out.trans (hB2.mono HB1.out.size))
      clear c0 c1 hB2 HB1
      go_wp2_with fail
      refine bodyPost_ret (results_tmp2 rfl _ _ _) rfl ⟨_, _, rfl, Rp.of_nil _, HB2.out⟩
    | true =>
      cases hr : isR ps with
      | false =>
        have HV : Hid (playV ps p right = ([], 1)) := hide (by rw [playV, if_neg (by simp [hf]), if_neg (by simp [hp]), if_pos hr])
        rw [HV.out]
        have HH := hide h
        clear h h1 h2
        obtain ⟨x, y⟩ := p
        unfold pv
        simp only [List.length_nil]
        go_enter Try.func19, Try.ntmps19
        go_wp2_with fail
        have B0 : Below w.heap.size w (w.alloc (.cells #[.int .i64 x, .int .i64 y] 35)) := (Below.refl _ _).alloc (Nat.le_refl _) _
        refine (fault_any a n c ps 59 _ (HH.out.mono B0)).mono ?_
        rintro e w1 ⟨rfl, hB1⟩
        rw [hf]
        have c0 : w1.cell? ⟨w.heap.size, 0, none⟩ = some (.int .i64 x) := (hB1.cell (by simp [World.size_alloc])).trans (by go_simp)
        have c1 : w1.cell? ⟨w.heap.size, 1, none⟩ = some (.int .i64 y) := (hB1.cell (by simp [World.size_alloc])).trans (by go_simp)
        have HB1 := hide (B0.trans (hB1.mono B0.size))
        clear B0 hB1
        go_wp2_with fail
        refine (wrongPiece_any (x, y) _).mono ?_
        rintro e w2 ⟨rfl, hB2⟩
        rw [hp]
        have HB2 := hide (HB1.out.trans (hB2.mono HB1.out.size))
        clear c0 c1 hB2 HB1
        go_wp2_with fail
        refine (isRow_any a n c ps _ (HH.out.mono HB2.out)).mono ?_
        rintro e w3 ⟨rfl, q, hw3⟩
        rw [hr]
        have hB3 : Below w2.heap.size w2 w3 := hw3 ▸ drewN_below _ _ _
        have HB3 := hide (HB2.out.trans (hB3.mono HB2.out.size))
        clear hw3 hB3 HB2
        go_wp2_with fail
        refine bodyPost_ret (results_tmp2 rfl _ _ _) rfl ⟨_, _, rfl, Rp.of_nil _, HB3.out⟩
      | true =>
        refine (Play_ok a n c ps p right w h (by have := h.len; omega) h2 hp hr).mono ?_
        rintro e w' ⟨hP, hB⟩
        cases hD : playD ps p right with
        | none =>
          rw [hD] at hP
          have HV : playV ps p right = ([], 10) := by rw [playV, if_neg (by simp [hf]), if_neg (by simp [hp]), if_neg (by simp [hr]), hD]
          rw [HV]
          exact ⟨_, _, hP, Rp.of_nil _, hB⟩
        | some L =>
          rw [hD] at hP
          have HV : playV ps p right = (L, 0) := by rw [playV, if_neg (by simp [hf]), if_neg (by simp [hp]), if_neg (by simp [hr]), hD]
          rw [HV]
          obtain ⟨a', c', he, hR⟩ := hP
          exact ⟨a', c', he, hR, hB⟩
  · have HV : Hid (playV ps p right = ([], fltE ps 59)) := hide (by rw [playV, if_pos hf])
    rw [HV.out]
    have HH := hide h
    clear h
    obtain ⟨x, y⟩ := p
    unfold pv
    simp only [List.length_nil]
    generalize hE : fltE ps 59 = E at *
    have hb : (E != 0) = true := by simp [hf]
    have HE := hide hE
    clear hE
    go_enter Try.func19, Try.ntmps19
    go_wp2_with fail
    have B0 : Below w.heap.size w (w.alloc (.cells #[.int .i64 x, .int .i64 y] 35)) := (Below.refl _ _).alloc (Nat.le_refl _) _
    refine (fault_any a n c ps 59 _ (HH.out.mono B0)).mono ?_
    rintro e w1 ⟨rfl, hB1⟩
    rw [HE.out]
    have HB1 := hide (B0.trans (hB1.mono B0.size))
    clear B0 hB1
    go_wp2_with fail
    refine bodyPost_ret (results_tmp2 rfl _ _ _) rfl ⟨_, _, rfl, Rp.of_nil _, HB1.out⟩

theorem isR_snoc (ps : List Pc) (p q : Pc) : isR (ps ++ [p, q]) = (isR (ps ++ [p]) && p.2 == q.1) := by
  induction ps with
  | nil => simp [isR]
  | cons r ps ih =>
    cases ps with
    | nil => simp [isR] at ih ⊢
    | cons s t =>
      simp only [List.cons_append] at ih ⊢
      rw [isR, isR, ih, Bool.and_assoc]

theorem isR_last (ps : List Pc) (p : Pc) (h0 : ps ≠ []) : isR (ps ++ [p]) = (isR ps && (ps.getD (ps.length - 1) (0, 0)).2 == p.1) := by
  obtain ⟨qs, q, rfl⟩ : ∃ qs q, ps = qs ++ [q] := ⟨ps.dropLast, ps.getLast h0, (List.dropLast_concat_getLast h0).symm⟩
  rw [List.append_assoc, List.singleton_append, isR_snoc]
  simp [List.getD]

theorem isR_head (ps : List Pc) (p : Pc) (h0 : ps ≠ []) : isR (p :: ps) = (p.2 == (ps.getD 0 (0, 0)).1 && isR ps) := by
  cases ps with
  | nil => simp at h0
  | cons q r => rw [isR]; simp [List.getD]

end Go.Proofs.Ytjcglpnpdalcjaa
