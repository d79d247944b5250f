/-
  What gammon.Step answers. No conditions beyond those that each theorem bears.
-/
import Derived.Test.YtmboikpcbkiepaaStOh
namespace Go.Proofs.Ytmboikpcbkiepaa
open Go.RowKit

set_option maxRecDepth 100000 in
set_option maxHeartbeats 4000000 in
theorem Step_state (a : Option Addr) (n c : Nat) (P : List Int) (W B : Int) (T f p : Int) (w : World) (h : Rd w a n c P) (hP : ∀ z ∈ P, -9223372036854775808 ≤ z ∧ z ≤ 9223372036854775807) (hm : mayG P W B T = false) :
    Calls Try.prog 10 #[.agg (gmA a n c W B T), .int .i64 f, .int .i64 p] w fun e w' => e = .returned (.tuple #[.agg (gmA none 0 0 0 0 0), .int .i64 12]) ∧ Below w.heap.size w w' := by
  have HRD := hide h
  clear h
  go_enter Try.func10, Try.ntmps10
  go_upto_region 1 with fail
  obtain ⟨w1, hw1⟩ : ∃ w1, (w.alloc (Obj.cells (gmA a n c W B T) 24)).alloc (Obj.cells #[.slice none 0 0, .int .i64 0, .int .i64 0, .int .i64 0] 24) = w1 := ⟨_, rfl⟩
  rw [hw1]
  have K1 : Gm w1 w.heap.size a n c W B T := by rw [← hw1]; exact (Gm.new w _ _ _ _ _ _).old _
  have K2 : Gm w1 (w.heap.size + 1) none 0 0 0 0 0 := by
    rw [← hw1]
    have := Gm.new (w.alloc (Obj.cells (gmA a n c W B T) 24)) none 0 0 0 0 0
    rw [World.size_alloc] at this
    exact this
  have B1 : Below w.heap.size w w1 := by rw [← hw1]; exact ((Below.refl _ w).alloc (Nat.le_refl _) _).alloc (by simp) _
  clear hw1
  have CALL := hide (May_any a n c P W B T w1 (HRD.out.mono B1) hP)
  rw [hm] at CALL
  go_wp2_with (refine wpList_load_gm rfl (.tmp 3) rfl w.heap.size rfl K1 ?_)
  refine CALL.out.mono ?_
  rintro e w2 ⟨rfl, hb⟩
  have C1 := K1.below hb K1.lt
  have C2 := K2.below hb K2.lt
  have B2 := B1.trans (hb.mono B1.size)
  clear K1 K2 B1 CALL hb
  obtain ⟨p0, p1, p2, p3⟩ := C1.cells
  go_wp2_with (refine wpList_store_gm rfl (.tmp 6) (.tmp 14) rfl (w.heap.size + 1) rfl rfl C2 ?_; intro w6 k6 kk6)
  exact bodyPost_ret (results_gb rfl _ _ (w.heap.size + 1) rfl k6) rfl ⟨rfl, B2.trans ((kk6.mono (Y := fun k => w.heap.size ≤ k) (fun k _ e => by omega)).below (by have := B2.size; omega) (fun k hk e => by omega))⟩

set_option maxRecDepth 100000 in
set_option maxHeartbeats 4000000 in
theorem Step_range1 (a : Option Addr) (n c : Nat) (P : List Int) (W B : Int) (T f p : Int) (w : World) (h : Rd w a n c P) (hP : ∀ z ∈ P, -9223372036854775808 ≤ z ∧ z ≤ 9223372036854775807) (hm : mayG P W B T = true) (hf : f < 0) :
    Calls Try.prog 10 #[.agg (gmA a n c W B T), .int .i64 f, .int .i64 p] w fun e w' => e = .returned (.tuple #[.agg (gmA none 0 0 0 0 0), .int .i64 3]) ∧ Below w.heap.size w w' := by
  have HRD := hide h
  clear h
  go_enter Try.func10, Try.ntmps10
  go_upto_region 1 with fail
  obtain ⟨w1, hw1⟩ : ∃ w1, (w.alloc (Obj.cells (gmA a n c W B T) 24)).alloc (Obj.cells #[.slice none 0 0, .int .i64 0, .int .i64 0, .int .i64 0] 24) = w1 := ⟨_, rfl⟩
  rw [hw1]
  have K1 : Gm w1 w.heap.size a n c W B T := by rw [← hw1]; exact (Gm.new w _ _ _ _ _ _).old _
  have K2 : Gm w1 (w.heap.size + 1) none 0 0 0 0 0 := by
    rw [← hw1]
    have := Gm.new (w.alloc (Obj.cells (gmA a n c W B T) 24)) none 0 0 0 0 0
    rw [World.size_alloc] at this
    exact this
  have B1 : Below w.heap.size w w1 := by rw [← hw1]; exact ((Below.refl _ w).alloc (Nat.le_refl _) _).alloc (by simp) _
  clear hw1
  have CALL := hide (May_any a n c P W B T w1 (HRD.out.mono B1) hP)
  rw [hm] at CALL
  go_wp2_with (refine wpList_load_gm rfl (.tmp 3) rfl w.heap.size rfl K1 ?_)
  refine CALL.out.mono ?_
  rintro e w2 ⟨rfl, hb⟩
  have C1 := K1.below hb K1.lt
  have C2 := K2.below hb K2.lt
  have B2 := B1.trans (hb.mono B1.size)
  clear K1 K2 B1 CALL hb
  obtain ⟨p0, p1, p2, p3⟩ := C1.cells
  go_wp2_with (refine wpList_store_gm rfl (.tmp 6) (.tmp 25) rfl (w.heap.size + 1) rfl rfl C2 ?_; intro w6 k6 kk6)
  exact bodyPost_ret (results_gb rfl _ _ (w.heap.size + 1) rfl k6) rfl ⟨rfl, B2.trans ((kk6.mono (Y := fun k => w.heap.size ≤ k) (fun k _ e => by omega)).below (by have := B2.size; omega) (fun k hk e => by omega))⟩

set_option maxRecDepth 100000 in
set_option maxHeartbeats 4000000 in
theorem Step_range2 (a : Option Addr) (n c : Nat) (P : List Int) (W B : Int) (T f p : Int) (w : World) (h : Rd w a n c P) (hP : ∀ z ∈ P, -9223372036854775808 ≤ z ∧ z ≤ 9223372036854775807) (hm : mayG P W B T = true) (hf : ¬ f < 0) (hf2 : 25 ≤ f) :
    Calls Try.prog 10 #[.agg (gmA a n c W B T), .int .i64 f, .int .i64 p] w fun e w' => e = .returned (.tuple #[.agg (gmA none 0 0 0 0 0), .int .i64 3]) ∧ Below w.heap.size w w' := by
  have HRD := hide h
  clear h
  go_enter Try.func10, Try.ntmps10
  go_upto_region 1 with fail
  obtain ⟨w1, hw1⟩ : ∃ w1, (w.alloc (Obj.cells (gmA a n c W B T) 24)).alloc (Obj.cells #[.slice none 0 0, .int .i64 0, .int .i64 0, .int .i64 0] 24) = w1 := ⟨_, rfl⟩
  rw [hw1]
  have K1 : Gm w1 w.heap.size a n c W B T := by rw [← hw1]; exact (Gm.new w _ _ _ _ _ _).old _
  have K2 : Gm w1 (w.heap.size + 1) none 0 0 0 0 0 := by
    rw [← hw1]
    have := Gm.new (w.alloc (Obj.cells (gmA a n c W B T) 24)) none 0 0 0 0 0
    rw [World.size_alloc] at this
    exact this
  have B1 : Below w.heap.size w w1 := by rw [← hw1]; exact ((Below.refl _ w).alloc (Nat.le_refl _) _).alloc (by simp) _
  clear hw1
  have CALL := hide (May_any a n c P W B T w1 (HRD.out.mono B1) hP)
  rw [hm] at CALL
  go_wp2_with (refine wpList_load_gm rfl (.tmp 3) rfl w.heap.size rfl K1 ?_)
  refine CALL.out.mono ?_
  rintro e w2 ⟨rfl, hb⟩
  have C1 := K1.below hb K1.lt
  have C2 := K2.below hb K2.lt
  have B2 := B1.trans (hb.mono B1.size)
  clear K1 K2 B1 CALL hb
  obtain ⟨p0, p1, p2, p3⟩ := C1.cells
  have q1 : decide (f < 0) = false := by simpa using hf
  go_wp2_with (refine wpList_store_gm rfl (.tmp 6) (.tmp 25) rfl (w.heap.size + 1) rfl rfl C2 ?_; intro w6 k6 kk6)
  exact bodyPost_ret (results_gb rfl _ _ (w.heap.size + 1) rfl k6) rfl ⟨rfl, B2.trans ((kk6.mono (Y := fun k => w.heap.size ≤ k) (fun k _ e => by omega)).below (by have := B2.size; omega) (fun k hk e => by omega))⟩

set_option maxRecDepth 100000 in
set_option maxHeartbeats 4000000 in
theorem Step_range3 (a : Option Addr) (n c : Nat) (P : List Int) (W B : Int) (T f p : Int) (w : World) (h : Rd w a n c P) (hP : ∀ z ∈ P, -9223372036854775808 ≤ z ∧ z ≤ 9223372036854775807) (hm : mayG P W B T = true) (hf : ¬ f < 0) (hf2 : ¬ 25 ≤ f) (hp : wpB p = true) :
    Calls Try.prog 10 #[.agg (gmA a n c W B T), .int .i64 f, .int .i64 p] w fun e w' => e = .returned (.tuple #[.agg (gmA none 0 0 0 0 0), .int .i64 3]) ∧ Below w.heap.size w w' := by
  have HRD := hide h
  clear h
  go_enter Try.func10, Try.ntmps10
  go_upto_region 1 with fail
  obtain ⟨w1, hw1⟩ : ∃ w1, (w.alloc (Obj.cells (gmA a n c W B T) 24)).alloc (Obj.cells #[.slice none 0 0, .int .i64 0, .int .i64 0, .int .i64 0] 24) = w1 := ⟨_, rfl⟩
  rw [hw1]
  have K1 : Gm w1 w.heap.size a n c W B T := by rw [← hw1]; exact (Gm.new w _ _ _ _ _ _).old _
  have K2 : Gm w1 (w.heap.size + 1) none 0 0 0 0 0 := by
    rw [← hw1]
    have := Gm.new (w.alloc (Obj.cells (gmA a n c W B T) 24)) none 0 0 0 0 0
    rw [World.size_alloc] at this
    exact this
  have B1 : Below w.heap.size w w1 := by rw [← hw1]; exact ((Below.refl _ w).alloc (Nat.le_refl _) _).alloc (by simp) _
  clear hw1
  have CALL := hide (May_any a n c P W B T w1 (HRD.out.mono B1) hP)
  rw [hm] at CALL
  go_wp2_with (refine wpList_load_gm rfl (.tmp 3) rfl w.heap.size rfl K1 ?_)
  refine CALL.out.mono ?_
  rintro e w2 ⟨rfl, hb⟩
  have C1 := K1.below hb K1.lt
  have C2 := K2.below hb K2.lt
  have B2 := B1.trans (hb.mono B1.size)
  clear K1 K2 B1 CALL hb
  obtain ⟨p0, p1, p2, p3⟩ := C1.cells
  have q1 : decide (f < 0) = false := by simpa using hf
  have q2 : decide (25 ≤ f) = false := by simpa using hf2
  have WP := hide (wrongPips_any p)
  rw [hp] at WP
  go_wp2_with fail
  refine (WP.out _).mono ?_
  rintro e w9 ⟨rfl, hw⟩
  subst w9
  go_wp2_with (refine wpList_store_gm rfl (.tmp 6) (.tmp 25) rfl (w.heap.size + 1) rfl rfl C2 ?_; intro w6 k6 kk6)
  exact bodyPost_ret (results_gb rfl _ _ (w.heap.size + 1) rfl k6) rfl ⟨rfl, B2.trans ((kk6.mono (Y := fun k => w.heap.size ≤ k) (fun k _ e => by omega)).below (by have := B2.size; omega) (fun k hk e => by omega))⟩

theorem stp_length (S : List Int) (hS : S.length = 52) (f p : Nat) (S' : List Int) (h : stp S f p = some S') : S'.length = 52 := by
  unfold stp at h
  split at h
  · cases h
  split at h
  · split at h
    · cases h
    · obtain rfl := Option.some.inj h
      simp [hS]
  split at h
  · cases h
  · obtain rfl := Option.some.inj h
    simp [hitS, hS]

theorem stp_small (S : List Int) (hS : S.length = 52) (hr : ∀ i, i < 52 → -400 ≤ S.getD i 0 ∧ S.getD i 0 ≤ 400) (f p : Nat) (hf : 1 ≤ f ∧ f ≤ 25) (S' : List Int) (h : stp S f p = some S') : ∀ i, i < 52 → -1000 ≤ S'.getD i 0 ∧ S'.getD i 0 ≤ 1000 := by
  intro i hi
  have h1 := hr i hi
  have h2 := hr f (by omega)
  have h3 := hr 26 (by omega)
  unfold stp at h
  split at h
  · cases h
  split at h
  · split at h
    · cases h
    · obtain rfl := Option.some.inj h
      rw [getD_set _ _ _ _ (by omega)]
      split <;> omega
  split at h
  · cases h
  · obtain rfl := Option.some.inj h
    have h4 := hr (26 + (f - p)) (by omega)
    have h5 := hr (f - p) (by omega)
    unfold hitS
    rw [getD_set _ _ _ _ (by simp; omega), getD_set _ _ _ _ (by simp; omega), getD_set _ _ _ _ (by simp; omega), getD_set _ _ _ _ (by omega)]
    split
    · omega
    split
    · omega
    split
    · omega
    split <;> omega

theorem Blk.rd {w : World} {g : Nat} {P : List Int} (h : Blk w g 3 P) (hl : P.length = 26) : Rd w (some ⟨g, 0, none⟩) 26 26 P :=
  ⟨hl, Nat.le_refl _, by unfold maxLen; omega, (fun h => by simp at h), fun _ => ⟨g, 0, rfl, fun i hi => by rw [Nat.zero_add, h.cell (by omega)]⟩⟩

theorem seen_15 (P : List Int) (W B : Int) (t : Nat) (h : mayP P W B t) : ∀ i, i < 52 → -400 ≤ (seenL P W B t).getD i 0 ∧ (seenL P W B t).getD i 0 ≤ 400 := by
  intro i hi
  have hW := h.W15
  have hB := h.B15
  have hz : ∀ q, q ≤ 25 → -15 ≤ ma P t q ∧ ma P t q ≤ 15 := fun q hq => by
    have h1 := h.low _ (getD_mem (zs := P) (k := q) (by rw [h.1]; omega))
    have h2 := h.high _ (getD_mem (zs := P) (k := q) (by rw [h.1]; omega))
    unfold ma; split <;> omega
  rw [seenL, range_getD 52 _ i hi, seenF]
  split
  · unfold ownB; split <;> omega
  split
  · unfold othB; split <;> omega
  split
  · rename_i h1 h2 h3
    have := aw_lt t i (by omega)
    have := hz (aw t i) (by omega)
    unfold up; split <;> omega
  split
  · rename_i h1 h2 h3 h4
    have := aw_lt t (i - 26) (by omega)
    have := hz (aw t (i - 26)) (by omega)
    unfold up; split <;> omega
  omega

theorem seen_small (P : List Int) (W B : Int) (t : Nat) (h : mayP P W B t) : ∀ i, i < 52 → -1000 ≤ (seenL P W B t).getD i 0 ∧ (seenL P W B t).getD i 0 ≤ 1000 := fun i hi => by
  have := seen_15 P W B t h i hi
  omega

/-- What Step answers at a board that may be. -/
def StA (P : List Int) (W B : Int) (t f p : Nat) (w : World) (e : Ending) (w' : World) : Prop :=
  (stR P W B t f p = none ∧ e = .returned (.tuple #[.agg (gmA none 0 0 0 0 0), .int .i64 8]) ∧ Below w.heap.size w w')
  ∨ ∃ g Q W' B', stR P W B t f p = some (Q, W', B') ∧ e = .returned (.tuple #[.agg (gmA (some ⟨g, 0, none⟩) 26 26 W' B' t), .int .i64 0]) ∧ Rd w' (some ⟨g, 0, none⟩) 26 26 Q ∧ Below w.heap.size w w'

set_option maxRecDepth 100000 in
set_option maxHeartbeats 4000000 in
theorem Step_go (a : Option Addr) (n c : Nat) (P : List Int) (W B : Int) (t f p : Nat) (w : World) (h : Rd w a n c P) (hP : ∀ z ∈ P, -9223372036854775808 ≤ z ∧ z ≤ 9223372036854775807) (hm : mayG P W B t = true) (ht : t ≤ 1) (hf : f ≤ 24) (hp : 1 ≤ p ∧ p ≤ 6) :
    Calls Try.prog 10 #[.agg (gmA a n c W B t), .int .i64 f, .int .i64 p] w fun e w' => StA P W B t f p w e w' := by
  have HRD := hide h
  clear h
  have HM : Hid (mayP P W B t) := hide (by simpa [mayG] using hm)
  go_enter Try.func10, Try.ntmps10
  go_upto_region 1 with fail
  obtain ⟨w1, hw1⟩ : ∃ w1, (w.alloc (Obj.cells (gmA a n c W B t) 24)).alloc (Obj.cells #[.slice none 0 0, .int .i64 0, .int .i64 0, .int .i64 0] 24) = w1 := ⟨_, rfl⟩
  rw [hw1]
  have K1 : Gm w1 w.heap.size a n c W B t := by rw [← hw1]; exact (Gm.new w _ _ _ _ _ _).old _
  have K2 : Gm w1 (w.heap.size + 1) none 0 0 0 0 0 := by
    rw [← hw1]
    have := Gm.new (w.alloc (Obj.cells (gmA a n c W B t) 24)) none 0 0 0 0 0
    rw [World.size_alloc] at this
    exact this
  have B1 : Below w.heap.size w w1 := by rw [← hw1]; exact ((Below.refl _ w).alloc (Nat.le_refl _) _).alloc (by simp) _
  clear hw1
  have CALL := hide (May_any a n c P W B t w1 (HRD.out.mono B1) hP)
  rw [hm] at CALL
  go_wp2_with (refine wpList_load_gm rfl (.tmp 3) rfl w.heap.size rfl K1 ?_)
  refine CALL.out.mono ?_
  rintro e w2 ⟨rfl, hb⟩
  have C1 := K1.below hb K1.lt
  have C2 := K2.below hb K2.lt
  have B2 := B1.trans (hb.mono B1.size)
  clear K1 K2 B1 CALL hb
  obtain ⟨p0, p1, p2, p3⟩ := C1.cells
  have hl : n = 26 := by rw [← HRD.out.len]; exact HM.out.1
  subst hl
  have hz15 : Hid (∀ z ∈ P, -15 ≤ z ∧ z ≤ 15) := hide (fun z hz => ⟨HM.out.low z hz, HM.out.high z hz⟩)
  have WP := hide (wrongPips_any p)
  rw [show wpB (p : Int) = false from by simp only [wpB, decide_eq_false_iff_not]; omega] at WP
  have q2 : ¬ (25 : Int) ≤ (f : Int) := by omega
  have SR : Hid (∀ i, i < 52 → -1000 ≤ (seenL P W B t).getD i 0 ∧ (seenL P W B t).getD i 0 ≤ 1000) := hide (seen_small P W B t HM.out)
  have S4 : Hid (∀ i, i < 52 → -400 ≤ (seenL P W B t).getD i 0 ∧ (seenL P W B t).getD i 0 ≤ 400) := hide (seen_15 P W B t HM.out)
  have RS := hide (show stR P W B t f p = (stp (seenL P W B t) (if f = 0 then 25 else aw t f) p).map fun S => (toldP S t, ownB (S.getD 25 0) (S.getD 26 0) t, othB (S.getD 25 0) (S.getD 26 0) t) from rfl)
  obtain ⟨pl, hpl⟩ : ∃ pl, (if f = 0 then 25 else aw t f) = pl := ⟨_, rfl⟩
  have hpl1 : 1 ≤ pl ∧ pl ≤ 25 := by
    rw [← hpl]
    by_cases e : f = 0
    · rw [if_pos e]; omega
    · rw [if_neg e]; have := aw_lt t f (by omega); omega
  rw [hpl] at RS
  have HPL := hide hpl
  clear hpl
  go_wp2_with fail
  refine (WP.out _).mono ?_
  rintro e w9 ⟨rfl, hw⟩
  subst w9
  clear WP
  by_cases hf0 : f = 0
  · obtain rfl : pl = 25 := by rw [← HPL.out, if_pos hf0]
    have q3 : ¬ (0 : Int) < (f : Int) := by omega
    go_wp2_with (refine wpList_load_gm rfl (.tmp 3) rfl w.heap.size rfl C1 ?_)
    refine (seen_any a c P W B t ht _ (HRD.out.mono B2) hz15.out).mono ?_
    rintro e w3 ⟨rfl, hb⟩
    have D1 := C1.below hb C1.lt
    have D2 := C2.below hb C2.lt
    have B3 := B2.trans (hb.mono B2.size)
    clear C1 C2 B2 hb p0 p1 p2 p3
    have SL := seenL_length P W B t
    obtain ⟨S, hS⟩ : ∃ S, seenL P W B t = S := ⟨_, rfl⟩
    rw [hS] at RS SL SR S4
    rw [hS]
    clear hS
    have ST := hide (step_any S SL SR.out 25 p hpl1 hp)
    go_wp2_with fail
    refine (ST.out _).mono ?_
    rintro e w4 ⟨rfl, hb⟩
    have C1 := D1.below hb D1.lt
    have C2 := D2.below hb D2.lt
    have B2 := B3.trans (hb.mono B3.size)
    clear D1 D2 B3 hb ST
    obtain ⟨p0, p1, p2, p3⟩ := C1.cells
    cases ho : stp S 25 p with
    | none =>
      have HV : Hid (stR P W B t f p = none) := hide (by rw [RS.out, ho]; rfl)
      clear ho
      unfold stpV
      simp only [Option.getD_none, Option.isSome_none]
      have KB : Blk (w4.alloc (Obj.cells #[.int .i64 0, .int .i64 0, .int .i64 0, .int .i64 0, .int .i64 0, .int .i64 0, .int .i64 0, .int .i64 0, .int .i64 0, .int .i64 0, .int .i64 0, .int .i64 0, .int .i64 0, .int .i64 0, .int .i64 0, .int .i64 0, .int .i64 0, .int .i64 0, .int .i64 0, .int .i64 0, .int .i64 0, .int .i64 0, .int .i64 0, .int .i64 0, .int .i64 0, .int .i64 0, .int .i64 0, .int .i64 0, .int .i64 0, .int .i64 0, .int .i64 0, .int .i64 0, .int .i64 0, .int .i64 0, .int .i64 0, .int .i64 0, .int .i64 0, .int .i64 0, .int .i64 0, .int .i64 0, .int .i64 0, .int .i64 0, .int .i64 0, .int .i64 0, .int .i64 0, .int .i64 0, .int .i64 0, .int .i64 0, .int .i64 0, .int .i64 0, .int .i64 0, .int .i64 0] 54)) w4.heap.size 54 noS := Blk.new w4 54 noS _ rfl
      have C2' := C2.old (Obj.cells #[.int .i64 0, .int .i64 0, .int .i64 0, .int .i64 0, .int .i64 0, .int .i64 0, .int .i64 0, .int .i64 0, .int .i64 0, .int .i64 0, .int .i64 0, .int .i64 0, .int .i64 0, .int .i64 0, .int .i64 0, .int .i64 0, .int .i64 0, .int .i64 0, .int .i64 0, .int .i64 0, .int .i64 0, .int .i64 0, .int .i64 0, .int .i64 0, .int .i64 0, .int .i64 0, .int .i64 0, .int .i64 0, .int .i64 0, .int .i64 0, .int .i64 0, .int .i64 0, .int .i64 0, .int .i64 0, .int .i64 0, .int .i64 0, .int .i64 0, .int .i64 0, .int .i64 0, .int .i64 0, .int .i64 0, .int .i64 0, .int .i64 0, .int .i64 0, .int .i64 0, .int .i64 0, .int .i64 0, .int .i64 0, .int .i64 0, .int .i64 0, .int .i64 0, .int .i64 0] 54)
      have B2' := B2.alloc B2.size (Obj.cells #[.int .i64 0, .int .i64 0, .int .i64 0, .int .i64 0, .int .i64 0, .int .i64 0, .int .i64 0, .int .i64 0, .int .i64 0, .int .i64 0, .int .i64 0, .int .i64 0, .int .i64 0, .int .i64 0, .int .i64 0, .int .i64 0, .int .i64 0, .int .i64 0, .int .i64 0, .int .i64 0, .int .i64 0, .int .i64 0, .int .i64 0, .int .i64 0, .int .i64 0, .int .i64 0, .int .i64 0, .int .i64 0, .int .i64 0, .int .i64 0, .int .i64 0, .int .i64 0, .int .i64 0, .int .i64 0, .int .i64 0, .int .i64 0, .int .i64 0, .int .i64 0, .int .i64 0, .int .i64 0, .int .i64 0, .int .i64 0, .int .i64 0, .int .i64 0, .int .i64 0, .int .i64 0, .int .i64 0, .int .i64 0, .int .i64 0, .int .i64 0, .int .i64 0, .int .i64 0] 54)
      have hlt := C2.lt
      go_upto_region 9 with (refine wpList_store_sd rfl (.tmp 9) (.tmp 38) rfl w4.heap.size noS noS rfl rfl rfl rfl KB ?_; intro w5 k5 kk5)
      have C3 := C2'.keeps kk5 (by omega)
      have B3 := B2'.trans ((kk5.mono (Y := fun k => w.heap.size ≤ k) (fun k _ e => by have := B2.size; omega)).below (by have := B2'.size; omega) (fun k hk e => by omega))
      clear C2' B2' KB
      go_wp2_with (refine wpList_store_gm rfl (.tmp 6) (.tmp 42) rfl (w.heap.size + 1) rfl rfl C3 ?_; intro w6 k6 kk6)
      exact bodyPost_ret (results_gb rfl _ _ (w.heap.size + 1) rfl k6) rfl (Or.inl ⟨HV.out, rfl, B3.trans ((kk6.mono (Y := fun k => w.heap.size ≤ k) (fun k _ e => by omega)).below (by have := B3.size; omega) (fun k hk e => by omega))⟩)
    | some S' =>
      have HV := hide (show stR P W B t f p = some (toldP S' t, ownB (S'.getD 25 0) (S'.getD 26 0) t, othB (S'.getD 25 0) (S'.getD 26 0) t) by rw [RS.out, ho]; rfl)
      have SL' := stp_length S SL _ _ _ ho
      have SS' := hide (stp_small S SL S4.out _ _ hpl1 _ ho)
      clear ho
      unfold stpV
      simp only [Option.getD_some, Option.isSome_some]
      have KB : Blk (w4.alloc (Obj.cells #[.int .i64 0, .int .i64 0, .int .i64 0, .int .i64 0, .int .i64 0, .int .i64 0, .int .i64 0, .int .i64 0, .int .i64 0, .int .i64 0, .int .i64 0, .int .i64 0, .int .i64 0, .int .i64 0, .int .i64 0, .int .i64 0, .int .i64 0, .int .i64 0, .int .i64 0, .int .i64 0, .int .i64 0, .int .i64 0, .int .i64 0, .int .i64 0, .int .i64 0, .int .i64 0, .int .i64 0, .int .i64 0, .int .i64 0, .int .i64 0, .int .i64 0, .int .i64 0, .int .i64 0, .int .i64 0, .int .i64 0, .int .i64 0, .int .i64 0, .int .i64 0, .int .i64 0, .int .i64 0, .int .i64 0, .int .i64 0, .int .i64 0, .int .i64 0, .int .i64 0, .int .i64 0, .int .i64 0, .int .i64 0, .int .i64 0, .int .i64 0, .int .i64 0, .int .i64 0] 54)) w4.heap.size 54 noS := Blk.new w4 54 noS _ rfl
      have C1' := C1.old (Obj.cells #[.int .i64 0, .int .i64 0, .int .i64 0, .int .i64 0, .int .i64 0, .int .i64 0, .int .i64 0, .int .i64 0, .int .i64 0, .int .i64 0, .int .i64 0, .int .i64 0, .int .i64 0, .int .i64 0, .int .i64 0, .int .i64 0, .int .i64 0, .int .i64 0, .int .i64 0, .int .i64 0, .int .i64 0, .int .i64 0, .int .i64 0, .int .i64 0, .int .i64 0, .int .i64 0, .int .i64 0, .int .i64 0, .int .i64 0, .int .i64 0, .int .i64 0, .int .i64 0, .int .i64 0, .int .i64 0, .int .i64 0, .int .i64 0, .int .i64 0, .int .i64 0, .int .i64 0, .int .i64 0, .int .i64 0, .int .i64 0, .int .i64 0, .int .i64 0, .int .i64 0, .int .i64 0, .int .i64 0, .int .i64 0, .int .i64 0, .int .i64 0, .int .i64 0, .int .i64 0] 54)
      have C2' := C2.old (Obj.cells #[.int .i64 0, .int .i64 0, .int .i64 0, .int .i64 0, .int .i64 0, .int .i64 0, .int .i64 0, .int .i64 0, .int .i64 0, .int .i64 0, .int .i64 0, .int .i64 0, .int .i64 0, .int .i64 0, .int .i64 0, .int .i64 0, .int .i64 0, .int .i64 0, .int .i64 0, .int .i64 0, .int .i64 0, .int .i64 0, .int .i64 0, .int .i64 0, .int .i64 0, .int .i64 0, .int .i64 0, .int .i64 0, .int .i64 0, .int .i64 0, .int .i64 0, .int .i64 0, .int .i64 0, .int .i64 0, .int .i64 0, .int .i64 0, .int .i64 0, .int .i64 0, .int .i64 0, .int .i64 0, .int .i64 0, .int .i64 0, .int .i64 0, .int .i64 0, .int .i64 0, .int .i64 0, .int .i64 0, .int .i64 0, .int .i64 0, .int .i64 0, .int .i64 0, .int .i64 0] 54)
      have B2' := B2.alloc B2.size (Obj.cells #[.int .i64 0, .int .i64 0, .int .i64 0, .int .i64 0, .int .i64 0, .int .i64 0, .int .i64 0, .int .i64 0, .int .i64 0, .int .i64 0, .int .i64 0, .int .i64 0, .int .i64 0, .int .i64 0, .int .i64 0, .int .i64 0, .int .i64 0, .int .i64 0, .int .i64 0, .int .i64 0, .int .i64 0, .int .i64 0, .int .i64 0, .int .i64 0, .int .i64 0, .int .i64 0, .int .i64 0, .int .i64 0, .int .i64 0, .int .i64 0, .int .i64 0, .int .i64 0, .int .i64 0, .int .i64 0, .int .i64 0, .int .i64 0, .int .i64 0, .int .i64 0, .int .i64 0, .int .i64 0, .int .i64 0, .int .i64 0, .int .i64 0, .int .i64 0, .int .i64 0, .int .i64 0, .int .i64 0, .int .i64 0, .int .i64 0, .int .i64 0, .int .i64 0, .int .i64 0] 54)
      have hlt := C2.lt
      have hlt1 := C1.lt
      go_upto_region 9 with (refine wpList_store_sd rfl (.tmp 9) (.tmp 38) rfl w4.heap.size S' noS SL' rfl rfl rfl KB ?_; intro w5 k5 kk5)
      have D1 := C1'.keeps kk5 (by omega)
      have D2 := C2'.keeps kk5 (by omega)
      have B3 := B2'.trans ((kk5.mono (Y := fun k => w.heap.size ≤ k) (fun k _ e => by have := B2.size; omega)).below (by have := B2'.size; omega) (fun k hk e => by omega))
      clear C2' B2' KB C1' p0 p1 p2 p3 C1 C2 B2 hlt hlt1
      obtain ⟨p0, p1, p2, p3⟩ := D1.cells
      go_wp2_with (refine wpList_load_sd rfl (.tmp 9) rfl w4.heap.size rfl S' SL' k5 ?_)
      refine (told_any S' SL' SS'.out t ht t _).mono ?_
      rintro e w6 ⟨g, rfl, hB, hg, hb⟩
      have E2 := D2.below hb D2.lt
      have B4 := B3.trans (hb.mono B3.size)
      have hne : g ≠ w.heap.size + 1 := by have := D2.lt; omega
      have RB : Rd w6 (some ⟨g, 0, none⟩) 26 26 (toldP S' t) := Blk.rd hB (toldP_length S' t)
      clear D1 D2 B3 hB hb p0 p1 p2 p3
      generalize ownB (S'.getD 25 0) (S'.getD 26 0) t = W' at *
      generalize othB (S'.getD 25 0) (S'.getD 26 0) t = B' at *
      go_wp2_with (refine wpList_store_gm rfl (.tmp 6) (.tmp 48) rfl (w.heap.size + 1) rfl rfl E2 ?_; intro w7 k7 kk7)
      exact bodyPost_ret (results_gb rfl _ _ (w.heap.size + 1) rfl k7) rfl (Or.inr ⟨g, _, W', B', HV.out, rfl, RB.keeps kk7 (fun b off e => by simp at e; omega), B4.trans ((kk7.mono (Y := fun k => w.heap.size ≤ k) (fun k _ e => by omega)).below (by have := B4.size; omega) (fun k hk e => by omega))⟩)
  · have q3 : (0 : Int) < (f : Int) := by omega
    have hpa : aw t f = pl := by rw [← HPL.out, if_neg hf0]
    have AW := hide (away_any f t (by omega) ht)
    rw [hpa] at AW
    clear hpa
    go_wp2_with fail
    refine (AW.out _).mono ?_
    rintro e w9 ⟨rfl, hw⟩
    subst w9
    go_wp2_with (refine wpList_load_gm rfl (.tmp 3) rfl w.heap.size rfl C1 ?_)
    refine (seen_any a c P W B t ht _ (HRD.out.mono B2) hz15.out).mono ?_
    rintro e w3 ⟨rfl, hb⟩
    have D1 := C1.below hb C1.lt
    have D2 := C2.below hb C2.lt
    have B3 := B2.trans (hb.mono B2.size)
    clear C1 C2 B2 hb p0 p1 p2 p3
    have SL := seenL_length P W B t
    obtain ⟨S, hS⟩ : ∃ S, seenL P W B t = S := ⟨_, rfl⟩
    rw [hS] at RS SL SR S4
    rw [hS]
    clear hS
    have ST := hide (step_any S SL SR.out pl p hpl1 hp)
    go_wp2_with fail
    refine (ST.out _).mono ?_
    rintro e w4 ⟨rfl, hb⟩
    have C1 := D1.below hb D1.lt
    have C2 := D2.below hb D2.lt
    have B2 := B3.trans (hb.mono B3.size)
    clear D1 D2 B3 hb ST
    obtain ⟨p0, p1, p2, p3⟩ := C1.cells
    cases ho : stp S pl p with
    | none =>
      have HV : Hid (stR P W B t f p = none) := hide (by rw [RS.out, ho]; rfl)
      clear ho
      unfold stpV
      simp only [Option.getD_none, Option.isSome_none]
      have KB : Blk (w4.alloc (Obj.cells #[.int .i64 0, .int .i64 0, .int .i64 0, .int .i64 0, .int .i64 0, .int .i64 0, .int .i64 0, .int .i64 0, .int .i64 0, .int .i64 0, .int .i64 0, .int .i64 0, .int .i64 0, .int .i64 0, .int .i64 0, .int .i64 0, .int .i64 0, .int .i64 0, .int .i64 0, .int .i64 0, .int .i64 0, .int .i64 0, .int .i64 0, .int .i64 0, .int .i64 0, .int .i64 0, .int .i64 0, .int .i64 0, .int .i64 0, .int .i64 0, .int .i64 0, .int .i64 0, .int .i64 0, .int .i64 0, .int .i64 0, .int .i64 0, .int .i64 0, .int .i64 0, .int .i64 0, .int .i64 0, .int .i64 0, .int .i64 0, .int .i64 0, .int .i64 0, .int .i64 0, .int .i64 0, .int .i64 0, .int .i64 0, .int .i64 0, .int .i64 0, .int .i64 0, .int .i64 0] 54)) w4.heap.size 54 noS := Blk.new w4 54 noS _ rfl
      have C2' := C2.old (Obj.cells #[.int .i64 0, .int .i64 0, .int .i64 0, .int .i64 0, .int .i64 0, .int .i64 0, .int .i64 0, .int .i64 0, .int .i64 0, .int .i64 0, .int .i64 0, .int .i64 0, .int .i64 0, .int .i64 0, .int .i64 0, .int .i64 0, .int .i64 0, .int .i64 0, .int .i64 0, .int .i64 0, .int .i64 0, .int .i64 0, .int .i64 0, .int .i64 0, .int .i64 0, .int .i64 0, .int .i64 0, .int .i64 0, .int .i64 0, .int .i64 0, .int .i64 0, .int .i64 0, .int .i64 0, .int .i64 0, .int .i64 0, .int .i64 0, .int .i64 0, .int .i64 0, .int .i64 0, .int .i64 0, .int .i64 0, .int .i64 0, .int .i64 0, .int .i64 0, .int .i64 0, .int .i64 0, .int .i64 0, .int .i64 0, .int .i64 0, .int .i64 0, .int .i64 0, .int .i64 0] 54)
      have B2' := B2.alloc B2.size (Obj.cells #[.int .i64 0, .int .i64 0, .int .i64 0, .int .i64 0, .int .i64 0, .int .i64 0, .int .i64 0, .int .i64 0, .int .i64 0, .int .i64 0, .int .i64 0, .int .i64 0, .int .i64 0, .int .i64 0, .int .i64 0, .int .i64 0, .int .i64 0, .int .i64 0, .int .i64 0, .int .i64 0, .int .i64 0, .int .i64 0, .int .i64 0, .int .i64 0, .int .i64 0, .int .i64 0, .int .i64 0, .int .i64 0, .int .i64 0, .int .i64 0, .int .i64 0, .int .i64 0, .int .i64 0, .int .i64 0, .int .i64 0, .int .i64 0, .int .i64 0, .int .i64 0, .int .i64 0, .int .i64 0, .int .i64 0, .int .i64 0, .int .i64 0, .int .i64 0, .int .i64 0, .int .i64 0, .int .i64 0, .int .i64 0, .int .i64 0, .int .i64 0, .int .i64 0, .int .i64 0] 54)
      have hlt := C2.lt
      go_upto_region 9 with (refine wpList_store_sd rfl (.tmp 9) (.tmp 38) rfl w4.heap.size noS noS rfl rfl rfl rfl KB ?_; intro w5 k5 kk5)
      have C3 := C2'.keeps kk5 (by omega)
      have B3 := B2'.trans ((kk5.mono (Y := fun k => w.heap.size ≤ k) (fun k _ e => by have := B2.size; omega)).below (by have := B2'.size; omega) (fun k hk e => by omega))
      clear C2' B2' KB
      go_wp2_with (refine wpList_store_gm rfl (.tmp 6) (.tmp 42) rfl (w.heap.size + 1) rfl rfl C3 ?_; intro w6 k6 kk6)
      exact bodyPost_ret (results_gb rfl _ _ (w.heap.size + 1) rfl k6) rfl (Or.inl ⟨HV.out, rfl, B3.trans ((kk6.mono (Y := fun k => w.heap.size ≤ k) (fun k _ e => by omega)).below (by have := B3.size; omega) (fun k hk e => by omega))⟩)
    | some S' =>
      have HV := hide (show stR P W B t f p = some (toldP S' t, ownB (S'.getD 25 0) (S'.getD 26 0) t, othB (S'.getD 25 0) (S'.getD 26 0) t) by rw [RS.out, ho]; rfl)
      have SL' := stp_length S SL _ _ _ ho
      have SS' := hide (stp_small S SL S4.out _ _ hpl1 _ ho)
      clear ho
      unfold stpV
      simp only [Option.getD_some, Option.isSome_some]
      have KB : Blk (w4.alloc (Obj.cells #[.int .i64 0, .int .i64 0, .int .i64 0, .int .i64 0, .int .i64 0, .int .i64 0, .int .i64 0, .int .i64 0, .int .i64 0, .int .i64 0, .int .i64 0, .int .i64 0, .int .i64 0, .int .i64 0, .int .i64 0, .int .i64 0, .int .i64 0, .int .i64 0, .int .i64 0, .int .i64 0, .int .i64 0, .int .i64 0, .int .i64 0, .int .i64 0, .int .i64 0, .int .i64 0, .int .i64 0, .int .i64 0, .int .i64 0, .int .i64 0, .int .i64 0, .int .i64 0, .int .i64 0, .int .i64 0, .int .i64 0, .int .i64 0, .int .i64 0, .int .i64 0, .int .i64 0, .int .i64 0, .int .i64 0, .int .i64 0, .int .i64 0, .int .i64 0, .int .i64 0, .int .i64 0, .int .i64 0, .int .i64 0, .int .i64 0, .int .i64 0, .int .i64 0, .int .i64 0] 54)) w4.heap.size 54 noS := Blk.new w4 54 noS _ rfl
      have C1' := C1.old (Obj.cells #[.int .i64 0, .int .i64 0, .int .i64 0, .int .i64 0, .int .i64 0, .int .i64 0, .int .i64 0, .int .i64 0, .int .i64 0, .int .i64 0, .int .i64 0, .int .i64 0, .int .i64 0, .int .i64 0, .int .i64 0, .int .i64 0, .int .i64 0, .int .i64 0, .int .i64 0, .int .i64 0, .int .i64 0, .int .i64 0, .int .i64 0, .int .i64 0, .int .i64 0, .int .i64 0, .int .i64 0, .int .i64 0, .int .i64 0, .int .i64 0, .int .i64 0, .int .i64 0, .int .i64 0, .int .i64 0, .int .i64 0, .int .i64 0, .int .i64 0, .int .i64 0, .int .i64 0, .int .i64 0, .int .i64 0, .int .i64 0, .int .i64 0, .int .i64 0, .int .i64 0, .int .i64 0, .int .i64 0, .int .i64 0, .int .i64 0, .int .i64 0, .int .i64 0, .int .i64 0] 54)
      have C2' := C2.old (Obj.cells #[.int .i64 0, .int .i64 0, .int .i64 0, .int .i64 0, .int .i64 0, .int .i64 0, .int .i64 0, .int .i64 0, .int .i64 0, .int .i64 0, .int .i64 0, .int .i64 0, .int .i64 0, .int .i64 0, .int .i64 0, .int .i64 0, .int .i64 0, .int .i64 0, .int .i64 0, .int .i64 0, .int .i64 0, .int .i64 0, .int .i64 0, .int .i64 0, .int .i64 0, .int .i64 0, .int .i64 0, .int .i64 0, .int .i64 0, .int .i64 0, .int .i64 0, .int .i64 0, .int .i64 0, .int .i64 0, .int .i64 0, .int .i64 0, .int .i64 0, .int .i64 0, .int .i64 0, .int .i64 0, .int .i64 0, .int .i64 0, .int .i64 0, .int .i64 0, .int .i64 0, .int .i64 0, .int .i64 0, .int .i64 0, .int .i64 0, .int .i64 0, .int .i64 0, .int .i64 0] 54)
      have B2' := B2.alloc B2.size (Obj.cells #[.int .i64 0, .int .i64 0, .int .i64 0, .int .i64 0, .int .i64 0, .int .i64 0, .int .i64 0, .int .i64 0, .int .i64 0, .int .i64 0, .int .i64 0, .int .i64 0, .int .i64 0, .int .i64 0, .int .i64 0, .int .i64 0, .int .i64 0, .int .i64 0, .int .i64 0, .int .i64 0, .int .i64 0, .int .i64 0, .int .i64 0, .int .i64 0, .int .i64 0, .int .i64 0, .int .i64 0, .int .i64 0, .int .i64 0, .int .i64 0, .int .i64 0, .int .i64 0, .int .i64 0, .int .i64 0, .int .i64 0, .int .i64 0, .int .i64 0, .int .i64 0, .int .i64 0, .int .i64 0, .int .i64 0, .int .i64 0, .int .i64 0, .int .i64 0, .int .i64 0, .int .i64 0, .int .i64 0, .int .i64 0, .int .i64 0, .int .i64 0, .int .i64 0, .int .i64 0] 54)
      have hlt := C2.lt
      have hlt1 := C1.lt
      go_upto_region 9 with (refine wpList_store_sd rfl (.tmp 9) (.tmp 38) rfl w4.heap.size S' noS SL' rfl rfl rfl KB ?_; intro w5 k5 kk5)
      have D1 := C1'.keeps kk5 (by omega)
      have D2 := C2'.keeps kk5 (by omega)
      have B3 := B2'.trans ((kk5.mono (Y := fun k => w.heap.size ≤ k) (fun k _ e => by have := B2.size; omega)).below (by have := B2'.size; omega) (fun k hk e => by omega))
      clear C2' B2' KB C1' p0 p1 p2 p3 C1 C2 B2 hlt hlt1
      obtain ⟨p0, p1, p2, p3⟩ := D1.cells
      go_wp2_with (refine wpList_load_sd rfl (.tmp 9) rfl w4.heap.size rfl S' SL' k5 ?_)
      refine (told_any S' SL' SS'.out t ht t _).mono ?_
      rintro e w6 ⟨g, rfl, hB, hg, hb⟩
      have E2 := D2.below hb D2.lt
      have B4 := B3.trans (hb.mono B3.size)
      have hne : g ≠ w.heap.size + 1 := by have := D2.lt; omega
      have RB : Rd w6 (some ⟨g, 0, none⟩) 26 26 (toldP S' t) := Blk.rd hB (toldP_length S' t)
      clear D1 D2 B3 hB hb p0 p1 p2 p3
      generalize ownB (S'.getD 25 0) (S'.getD 26 0) t = W' at *
      generalize othB (S'.getD 25 0) (S'.getD 26 0) t = B' at *
      go_wp2_with (refine wpList_store_gm rfl (.tmp 6) (.tmp 48) rfl (w.heap.size + 1) rfl rfl E2 ?_; intro w7 k7 kk7)
      exact bodyPost_ret (results_gb rfl _ _ (w.heap.size + 1) rfl k7) rfl (Or.inr ⟨g, _, W', B', HV.out, rfl, RB.keeps kk7 (fun b off e => by simp at e; omega), B4.trans ((kk7.mono (Y := fun k => w.heap.size ≤ k) (fun k _ e => by omega)).below (by have := B4.size; omega) (fun k hk e => by omega))⟩)

end Go.Proofs.Ytmboikpcbkiepaa
