/-
  All that may come of a throw. No conditions beyond those that each theorem bears.
-/
import Derived.Test.YtmboikpcbkiepaaEnds
namespace Go.Proofs.Ytmboikpcbkiepaa
open Go.RowKit Go.Maps

/-- Unlike ones: both if both can be, else the greater one, else the less. -/
def two (F G B : List Int → Prop) (s : List Int) : List Int → Prop := fun z =>
  ((∃ u, B u) ∧ B z) ∨ ((∀ u, ¬ B u) ∧ (∃ u, F u) ∧ F z) ∨ ((∀ u, ¬ B u) ∧ (∀ u, ¬ F u) ∧ (∃ u, G u) ∧ G z) ∨ ((∀ u, ¬ B u) ∧ (∀ u, ¬ F u) ∧ (∀ u, ¬ G u) ∧ z = s)

def bothX (s : List Int) (g l : Nat) : List Int → Prop := fun z => aft (aft (fun u => u = s) g) l z ∨ aft (aft (fun u => u = s) l) g z

def endsX (s : List Int) (x y : Nat) : List Int → Prop :=
  if x = y then rep x 4 (fun u => u = s) else two (aft (fun u => u = s) (max x y)) (aft (fun u => u = s) (min x y)) (bothX s (max x y) (min x y)) s

theorem some_of_not {X : List Int → Prop} (h : ¬ ∀ u, ¬ X u) : ∃ u, X u := Classical.byContradiction fun hn => h fun u hu => hn ⟨u, hu⟩

set_option maxRecDepth 100000 in
set_option maxHeartbeats 1000000 in
theorem ends_any (w : World) (s : List Int) (c : Int) (hs : Gd c s) (hc : c ≤ 700) (x y : Nat) (hx : 1 ≤ x ∧ x ≤ 6) (hy : 1 ≤ y ∧ y ≤ 6) :
    Calls Try.prog 36 #[sv s, .int .i64 x, .int .i64 y] w fun e w' => ∃ b', e = .returned (.map (some b')) ∧ St w' b' 400000 (c + 4) (endsX s x y) ∧ w.heap.size ≤ b' ∧ Below w.heap.size w w' := by
  have hmm := @run_makeMap Try.prog
  have hl52 := hide hs.len
  obtain ⟨w0, hw0⟩ : ∃ w0, w.alloc (Obj.cells (ivs s).toArray 54) = w0 := ⟨_, rfl⟩
  have K0 : Blk w0 w.heap.size 54 s := by rw [← hw0]; exact Blk.new w 54 s _ rfl
  have B0 : Below w.heap.size w w0 := by rw [← hw0]; exact (Below.refl _ w).alloc (Nat.le_refl _) _
  have hz0 : w0.heap.size = w.heap.size + 1 := by rw [← hw0]; simp
  have B1 := B0.trans (((Below.refl w0.heap.size w0).alloc (Nat.le_refl _) (Obj.map #[] 0)).mono B0.size)
  have K1 : Blk (w0.alloc (Obj.map #[] 0)) w.heap.size 54 s := K0.old _
  obtain ⟨w1, hrun1, hS1, hk1⟩ := (St.made w0 c).put (s := s) Try.underlying62 (by omega) (by omega) hs
  have HS1 : Hid (St w1 w0.heap.size 1 c (fun u => u = s)) := hide (hS1.congr (fun u => by simp))
  have HB1 := hide (B1.trans (hk1.below B1.size (fun k hk e => by omega)))
  have HK0 := hide K0
  have HK1 := hide K1
  have hb0 : w.heap.size ≤ w0.heap.size := by omega
  obtain ⟨b0, hb0e⟩ : ∃ b0, w0.heap.size = b0 := ⟨_, rfl⟩
  rw [hb0e] at HS1 hrun1 hb0
  have HZ0 := hide hz0
  clear K0 K1 B0 B1 hS1 hk1 hs hz0
  by_cases hxy : x = y
  · have hxyb : ((x : Int) == (y : Int)) = true := by simp [hxy]
    have hxyn : (x == y) = true := by simp [hxy]
    have HE : Hid (endsX s x y = rep x 4 (fun u => u = s)) := hide (by unfold endsX; rw [if_pos hxy])
    rw [HE.out]
    clear hxy HE
    go_enter Try.func36, Try.ntmps36
    go_wp2_with (first | refine wpList_load_sd rfl _ rfl w.heap.size rfl s hl52.out HK1.out ?_)
    refine (repeated_any _ b0 c (by omega) _ HS1.out x hx).mono ?_
    rintro e w2 ⟨b2, rfl, hS2, hb2, hw⟩
    have HS2 := hide hS2
    have HB2 := hide (HB1.out.trans (hw.mono HB1.out.size))
    have hb2' : w.heap.size ≤ b2 := by have := HB1.out.size; rcases hb2 with h | h <;> omega
    clear hS2 hw hb2
    go_wp2
    go_ret
    exact ⟨b2, rfl, HS2.out, hb2', HB2.out⟩
  · have hxyb : ((x : Int) == (y : Int)) = false := by simp; omega
    have hxyn : (x == y) = false := by simpa using hxy
    by_cases hlt : y < x
    · have hlt' : (y : Int) < (x : Int) := by omega
      have hle' : (y : Int) ≤ (x : Int) := by omega
      have HE : Hid (endsX s x y = two (aft (fun u => u = s) x) (aft (fun u => u = s) y) (bothX s x y) s) := hide (by unfold endsX; rw [if_neg hxy, show max x y = x by omega, show min x y = y by omega])
      rw [HE.out]
      clear hxy HE
      have HBX : Hid (∀ z, (aft (aft (fun u => u = s) x) y z ∨ aft (aft (fun u => u = s) y) x z) ↔ bothX s x y z) := hide (fun z => Iff.rfl)
      have HA1 := hide (fun W hW => after_any W b0 1 c (by omega) (fun u => u = s) hW (by omega) x hx)
      have HA2 := hide (fun W hW => after_any W b0 1 c (by omega) (fun u => u = s) hW (by omega) y hy)
      have HA3 := hide (fun W b2 hW => after_any W b2 25 (c + 1) (by omega) (aft (fun u => u = s) x) hW (by omega) y hy)
      have HA4 := hide (fun W b2 hW => after_any W b2 25 (c + 1) (by omega) (aft (fun u => u = s) y) hW (by omega) x hx)
      generalize aft (aft (fun u => u = s) x) y = A3 at *
      generalize aft (aft (fun u => u = s) y) x = A4 at *
      generalize aft (fun u => u = s) x = A1 at *
      generalize aft (fun u => u = s) y = A2 at *
      generalize bothX s x y = BB at *
      go_enter Try.func36, Try.ntmps36
      go_wp2_with (first | refine wpList_load_sd rfl _ rfl w.heap.size rfl s hl52.out HK1.out ?_)
      refine (HA1.out _ HS1.out).mono ?_
      rintro e w2 ⟨b2, rfl, hS2, hb2, hw⟩
      have HS12 := hide (HS1.out.below hw HS1.out.lt)
      have HS2 := hide hS2
      have HB2 := hide (HB1.out.trans (hw.mono HB1.out.size))
      have hb2' : w.heap.size ≤ b2 := by have := HB1.out.size; omega
      clear hS2 hw HS1 HB1 hmm hrun1
      go_wp2_with fail
      refine (HA2.out _ HS12.out).mono ?_
      rintro e w3 ⟨b3, rfl, hS3, hb3, hw⟩
      have HS13 := hide (HS12.out.below hw HS12.out.lt)
      have HS23 := hide (HS2.out.below hw HS2.out.lt)
      have HS3 := hide hS3
      have HB3 := hide (HB2.out.trans (hw.mono HB2.out.size))
      have hb3' : w.heap.size ≤ b3 := by have := HB2.out.size; omega
      clear hS3 hw HS12 HS2 HB2
      go_wp2_with fail
      refine (HA3.out _ b2 HS23.out).mono ?_
      rintro e w4 ⟨b4, rfl, hS4, hb4, hw⟩
      have HS14 := hide (HS13.out.below hw HS13.out.lt)
      have HS24 := hide (HS23.out.below hw HS23.out.lt)
      have HS34 := hide (HS3.out.below hw HS3.out.lt)
      have HS4 := hide hS4
      have HB4 := hide (HB3.out.trans (hw.mono HB3.out.size))
      have hb4' : w.heap.size ≤ b4 := by have := HB3.out.size; omega
      have l14 := HS13.out.lt
      have l24 := HS23.out.lt
      have l34 := HS3.out.lt
      clear hS4 hw HS13 HS23 HS3 HB3
      go_wp2_with fail
      refine (HA4.out _ b3 HS34.out).mono ?_
      rintro e w5 ⟨b5, rfl, hS5, hb5, hw⟩
      have HS15 := HS14.out.below hw HS14.out.lt
      have HS25 := HS24.out.below hw HS24.out.lt
      have HS35 := HS34.out.below hw HS34.out.lt
      have HS45 := HS4.out.below hw HS4.out.lt
      have HB5 := HB4.out.trans (hw.mono HB4.out.size)
      have l45 := HS4.out.lt
      have HCP := hide (Copy_any w5 b4 b5 (25 * 25) (25 * 25) (c + 1 + 1) (by omega) A4 A3 HS45 hS5 (by omega) (by omega) (by omega))
      have H15 := hide HS15
      have H25 := hide HS25
      have H35 := hide HS35
      have H5 := hide HB5
      clear hS5 hw HS14 HS24 HS34 HS4 HB4 HS15 HS25 HS35 HS45 HB5
      go_wp2_with fail
      refine HCP.out.mono ?_
      rintro e w6 ⟨rfl, hS6, hk6⟩
      have HSB := hide (hS6.congr HBX.out)
      have HS16 := hide (H15.out.kept hk6 (by omega))
      have HS26 := hide (H25.out.kept hk6 (by omega))
      have HS36 := hide (H35.out.kept hk6 (by omega))
      have HBz := hide (H5.out.trans (hk6.below H5.out.size (fun k hk e => by omega)))
      clear hS6 hk6 HCP H15 H25 H35 H5
      obtain ⟨q4, hq4l, hr4, hq4⟩ := HSB.out.len Try.underlying62
      obtain ⟨q2, hq2l, hr2, hq2⟩ := HS26.out.len Try.underlying62
      obtain ⟨q3, hq3l, hr3, hq3⟩ := HS36.out.len Try.underlying62
      have r4 := hr4 3
      have r2 := hr2 3
      have r3 := hr3 3
      clear hr4 hr2 hr3
      by_cases h4 : q4 = 0
      · have n4 : decide ((0 : Int) < (q4 : Int)) = false := by simp; omega
        have n4n : decide (0 < q4) = false := by simp; omega
        have e4 := hq4.1 h4
        by_cases h2 : q2 = 0
        · have n2 : decide ((0 : Int) < (q2 : Int)) = false := by simp; omega
          have n2n : decide (0 < q2) = false := by simp; omega
          have e2 := hq2.1 h2
          by_cases h3 : q3 = 0
          · have n3 : decide ((0 : Int) < (q3 : Int)) = false := by simp; omega
            have n3n : decide (0 < q3) = false := by simp; omega
            have e3 := hq3.1 h3
            have HF := hide ((HS16.out.mono (n' := 400000) (c' := c + 4) (by omega) (by omega)).congr (Y := two A1 A2 BB s) (fun z => ⟨fun h => Or.inr (Or.inr (Or.inr ⟨e4, e2, e3, h⟩)), fun h => by
              rcases h with ⟨⟨u, hu⟩, _⟩ | ⟨_, ⟨u, hu⟩, _⟩ | ⟨_, _, ⟨u, hu⟩, _⟩ | ⟨_, _, _, h⟩
              · exact absurd hu (e4 u)
              · exact absurd hu (e2 u)
              · exact absurd hu (e3 u)
              · exact h⟩))
            clear hq4 hq2 hq3 h4 h2 h3 e4 e2 e3
            go_wp2
            go_ret
            exact ⟨b0, rfl, HF.out, by omega, HBz.out⟩
          · have n3 : (0 : Int) < (q3 : Int) := by omega
            have e3 := some_of_not (fun h => h3 (hq3.2 h))
            have HF := hide ((HS36.out.mono (n' := 400000) (c' := c + 4) (by omega) (by omega)).congr (Y := two A1 A2 BB s) (fun z => ⟨fun h => Or.inr (Or.inr (Or.inl ⟨e4, e2, e3, h⟩)), fun h => by
              rcases h with ⟨⟨u, hu⟩, _⟩ | ⟨_, ⟨u, hu⟩, _⟩ | ⟨_, _, _, h⟩ | ⟨_, _, h0, _⟩
              · exact absurd hu (e4 u)
              · exact absurd hu (e2 u)
              · exact h
              · obtain ⟨u, hu⟩ := e3; exact absurd hu (h0 u)⟩))
            clear hq4 hq2 hq3 h4 h2 h3 e4 e2 e3
            go_wp2
            go_ret
            exact ⟨b3, rfl, HF.out, hb3', HBz.out⟩
        · have n2 : (0 : Int) < (q2 : Int) := by omega
          have e2 := some_of_not (fun h => h2 (hq2.2 h))
          have HF := hide ((HS26.out.mono (n' := 400000) (c' := c + 4) (by omega) (by omega)).congr (Y := two A1 A2 BB s) (fun z => ⟨fun h => Or.inr (Or.inl ⟨e4, e2, h⟩), fun h => by
            rcases h with ⟨⟨u, hu⟩, _⟩ | ⟨_, _, h⟩ | ⟨_, h0, _⟩ | ⟨_, h0, _⟩
            · exact absurd hu (e4 u)
            · exact h
            · obtain ⟨u, hu⟩ := e2; exact absurd hu (h0 u)
            · obtain ⟨u, hu⟩ := e2; exact absurd hu (h0 u)⟩))
          clear hq4 hq2 hq3 h4 h2 e4 e2
          go_wp2
          go_ret
          exact ⟨b2, rfl, HF.out, hb2', HBz.out⟩
      · have n4 : (0 : Int) < (q4 : Int) := by omega
        have e4 := some_of_not (fun h => h4 (hq4.2 h))
        have HF := hide ((HSB.out.mono (n' := 400000) (c' := c + 4) (by omega) (by omega)).congr (Y := two A1 A2 BB s) (fun z => ⟨fun h => Or.inl ⟨e4, h⟩, fun h => by
          rcases h with ⟨_, h⟩ | ⟨h0, _⟩ | ⟨h0, _⟩ | ⟨h0, _⟩
          · exact h
          · obtain ⟨u, hu⟩ := e4; exact absurd hu (h0 u)
          · obtain ⟨u, hu⟩ := e4; exact absurd hu (h0 u)
          · obtain ⟨u, hu⟩ := e4; exact absurd hu (h0 u)⟩))
        clear hq4 hq2 hq3 h4 e4
        go_wp2
        go_ret
        exact ⟨b4, rfl, HF.out, hb4', HBz.out⟩
    · have hlt : x < y := by omega
      have hlt' : (x : Int) < (y : Int) := by omega
      have hle' : (x : Int) ≤ (y : Int) := by omega
      have HE : Hid (endsX s x y = two (aft (fun u => u = s) y) (aft (fun u => u = s) x) (bothX s y x) s) := hide (by unfold endsX; rw [if_neg hxy, show max x y = y by omega, show min x y = x by omega])
      rw [HE.out]
      clear hxy HE
      have HBX : Hid (∀ z, (aft (aft (fun u => u = s) y) x z ∨ aft (aft (fun u => u = s) x) y z) ↔ bothX s y x z) := hide (fun z => Iff.rfl)
      have HA1 := hide (fun W hW => after_any W b0 1 c (by omega) (fun u => u = s) hW (by omega) y hy)
      have HA2 := hide (fun W hW => after_any W b0 1 c (by omega) (fun u => u = s) hW (by omega) x hx)
      have HA3 := hide (fun W b2 hW => after_any W b2 25 (c + 1) (by omega) (aft (fun u => u = s) y) hW (by omega) x hx)
      have HA4 := hide (fun W b2 hW => after_any W b2 25 (c + 1) (by omega) (aft (fun u => u = s) x) hW (by omega) y hy)
      generalize aft (aft (fun u => u = s) y) x = A3 at *
      generalize aft (aft (fun u => u = s) x) y = A4 at *
      generalize aft (fun u => u = s) y = A1 at *
      generalize aft (fun u => u = s) x = A2 at *
      generalize bothX s y x = BB at *
      go_enter Try.func36, Try.ntmps36
      go_wp2_with (first | refine wpList_load_sd rfl _ rfl w.heap.size rfl s hl52.out HK1.out ?_)
      refine (HA1.out _ HS1.out).mono ?_
      rintro e w2 ⟨b2, rfl, hS2, hb2, hw⟩
      have HS12 := hide (HS1.out.below hw HS1.out.lt)
      have HS2 := hide hS2
      have HB2 := hide (HB1.out.trans (hw.mono HB1.out.size))
      have hb2' : w.heap.size ≤ b2 := by have := HB1.out.size; omega
      clear hS2 hw HS1 HB1 hmm hrun1
      go_wp2_with fail
      refine (HA2.out _ HS12.out).mono ?_
      rintro e w3 ⟨b3, rfl, hS3, hb3, hw⟩
      have HS13 := hide (HS12.out.below hw HS12.out.lt)
      have HS23 := hide (HS2.out.below hw HS2.out.lt)
      have HS3 := hide hS3
      have HB3 := hide (HB2.out.trans (hw.mono HB2.out.size))
      have hb3' : w.heap.size ≤ b3 := by have := HB2.out.size; omega
      clear hS3 hw HS12 HS2 HB2
      go_wp2_with fail
      refine (HA3.out _ b2 HS23.out).mono ?_
      rintro e w4 ⟨b4, rfl, hS4, hb4, hw⟩
      have HS14 := hide (HS13.out.below hw HS13.out.lt)
      have HS24 := hide (HS23.out.below hw HS23.out.lt)
      have HS34 := hide (HS3.out.below hw HS3.out.lt)
      have HS4 := hide hS4
      have HB4 := hide (HB3.out.trans (hw.mono HB3.out.size))
      have hb4' : w.heap.size ≤ b4 := by have := HB3.out.size; omega
      have l14 := HS13.out.lt
      have l24 := HS23.out.lt
      have l34 := HS3.out.lt
      clear hS4 hw HS13 HS23 HS3 HB3
      go_wp2_with fail
      refine (HA4.out _ b3 HS34.out).mono ?_
      rintro e w5 ⟨b5, rfl, hS5, hb5, hw⟩
      have HS15 := HS14.out.below hw HS14.out.lt
      have HS25 := HS24.out.below hw HS24.out.lt
      have HS35 := HS34.out.below hw HS34.out.lt
      have HS45 := HS4.out.below hw HS4.out.lt
      have HB5 := HB4.out.trans (hw.mono HB4.out.size)
      have l45 := HS4.out.lt
      have HCP := hide (Copy_any w5 b4 b5 (25 * 25) (25 * 25) (c + 1 + 1) (by omega) A4 A3 HS45 hS5 (by omega) (by omega) (by omega))
      have H15 := hide HS15
      have H25 := hide HS25
      have H35 := hide HS35
      have H5 := hide HB5
      clear hS5 hw HS14 HS24 HS34 HS4 HB4 HS15 HS25 HS35 HS45 HB5
      go_wp2_with fail
      refine HCP.out.mono ?_
      rintro e w6 ⟨rfl, hS6, hk6⟩
      have HSB := hide (hS6.congr HBX.out)
      have HS16 := hide (H15.out.kept hk6 (by omega))
      have HS26 := hide (H25.out.kept hk6 (by omega))
      have HS36 := hide (H35.out.kept hk6 (by omega))
      have HBz := hide (H5.out.trans (hk6.below H5.out.size (fun k hk e => by omega)))
      clear hS6 hk6 HCP H15 H25 H35 H5
      obtain ⟨q4, hq4l, hr4, hq4⟩ := HSB.out.len Try.underlying62
      obtain ⟨q2, hq2l, hr2, hq2⟩ := HS26.out.len Try.underlying62
      obtain ⟨q3, hq3l, hr3, hq3⟩ := HS36.out.len Try.underlying62
      have r4 := hr4 3
      have r2 := hr2 3
      have r3 := hr3 3
      clear hr4 hr2 hr3
      by_cases h4 : q4 = 0
      · have n4 : decide ((0 : Int) < (q4 : Int)) = false := by simp; omega
        have n4n : decide (0 < q4) = false := by simp; omega
        have e4 := hq4.1 h4
        by_cases h2 : q2 = 0
        · have n2 : decide ((0 : Int) < (q2 : Int)) = false := by simp; omega
          have n2n : decide (0 < q2) = false := by simp; omega
          have e2 := hq2.1 h2
          by_cases h3 : q3 = 0
          · have n3 : decide ((0 : Int) < (q3 : Int)) = false := by simp; omega
            have n3n : decide (0 < q3) = false := by simp; omega
            have e3 := hq3.1 h3
            have HF := hide ((HS16.out.mono (n' := 400000) (c' := c + 4) (by omega) (by omega)).congr (Y := two A1 A2 BB s) (fun z => ⟨fun h => Or.inr (Or.inr (Or.inr ⟨e4, e2, e3, h⟩)), fun h => by
              rcases h with ⟨⟨u, hu⟩, _⟩ | ⟨_, ⟨u, hu⟩, _⟩ | ⟨_, _, ⟨u, hu⟩, _⟩ | ⟨_, _, _, h⟩
              · exact absurd hu (e4 u)
              · exact absurd hu (e2 u)
              · exact absurd hu (e3 u)
              · exact h⟩))
            clear hq4 hq2 hq3 h4 h2 h3 e4 e2 e3
            go_wp2
            go_ret
            exact ⟨b0, rfl, HF.out, by omega, HBz.out⟩
          · have n3 : (0 : Int) < (q3 : Int) := by omega
            have e3 := some_of_not (fun h => h3 (hq3.2 h))
            have HF := hide ((HS36.out.mono (n' := 400000) (c' := c + 4) (by omega) (by omega)).congr (Y := two A1 A2 BB s) (fun z => ⟨fun h => Or.inr (Or.inr (Or.inl ⟨e4, e2, e3, h⟩)), fun h => by
              rcases h with ⟨⟨u, hu⟩, _⟩ | ⟨_, ⟨u, hu⟩, _⟩ | ⟨_, _, _, h⟩ | ⟨_, _, h0, _⟩
              · exact absurd hu (e4 u)
              · exact absurd hu (e2 u)
              · exact h
              · obtain ⟨u, hu⟩ := e3; exact absurd hu (h0 u)⟩))
            clear hq4 hq2 hq3 h4 h2 h3 e4 e2 e3
            go_wp2
            go_ret
            exact ⟨b3, rfl, HF.out, hb3', HBz.out⟩
        · have n2 : (0 : Int) < (q2 : Int) := by omega
          have e2 := some_of_not (fun h => h2 (hq2.2 h))
          have HF := hide ((HS26.out.mono (n' := 400000) (c' := c + 4) (by omega) (by omega)).congr (Y := two A1 A2 BB s) (fun z => ⟨fun h => Or.inr (Or.inl ⟨e4, e2, h⟩), fun h => by
            rcases h with ⟨⟨u, hu⟩, _⟩ | ⟨_, _, h⟩ | ⟨_, h0, _⟩ | ⟨_, h0, _⟩
            · exact absurd hu (e4 u)
            · exact h
            · obtain ⟨u, hu⟩ := e2; exact absurd hu (h0 u)
            · obtain ⟨u, hu⟩ := e2; exact absurd hu (h0 u)⟩))
          clear hq4 hq2 hq3 h4 h2 e4 e2
          go_wp2
          go_ret
          exact ⟨b2, rfl, HF.out, hb2', HBz.out⟩
      · have n4 : (0 : Int) < (q4 : Int) := by omega
        have e4 := some_of_not (fun h => h4 (hq4.2 h))
        have HF := hide ((HSB.out.mono (n' := 400000) (c' := c + 4) (by omega) (by omega)).congr (Y := two A1 A2 BB s) (fun z => ⟨fun h => Or.inl ⟨e4, h⟩, fun h => by
          rcases h with ⟨_, h⟩ | ⟨h0, _⟩ | ⟨h0, _⟩ | ⟨h0, _⟩
          · exact h
          · obtain ⟨u, hu⟩ := e4; exact absurd hu (h0 u)
          · obtain ⟨u, hu⟩ := e4; exact absurd hu (h0 u)
          · obtain ⟨u, hu⟩ := e4; exact absurd hu (h0 u)⟩))
        clear hq4 hq2 hq3 h4 e4
        go_wp2
        go_ret
        exact ⟨b4, rfl, HF.out, hb4', HBz.out⟩

end Go.Proofs.Ytmboikpcbkiepaa
