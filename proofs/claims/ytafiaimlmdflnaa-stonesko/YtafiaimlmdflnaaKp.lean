/-
  The smallest board on which a board comes again. No conditions beyond those that each theorem bears.
-/
import Derived.Test.YtafiaimlmdflnaaPg
namespace Go.Proofs.Ytafiaimlmdflnaa

theorem nb21 {q r : Nat} (hq : q < 2) : r ∈ nb4 2 1 q ↔ r = 1 - q := by
  have h0 : nb4 2 1 0 = [1] := by decide
  have h1 : nb4 2 1 1 = [0] := by decide
  have : q = 0 ∨ q = 1 := by omega
  rcases this with rfl | rfl
  · rw [h0]; simp
  · rw [h1]; simp

theorem hl21 {Y : List Int} {q : Nat} (hq : q < 2) (hy : Y.getD q 0 ≠ 0) : HL 2 1 Y q ↔ Y.getD (1 - q) 0 = 0 := by
  constructor
  · rintro ⟨r, x, h1, h2, h3, h4⟩
    have hx : x < 2 := h3.lt
    have hr := (nb21 hx).1 h4
    by_cases e : x = q
    · rw [e] at hr
      rw [← hr]
      exact h2
    · have hv : Y.getD x 0 = Y.getD q 0 := h3.right
      have : r = q := by omega
      rw [this] at h2
      exact absurd h2 hy
  · intro h
    exact ⟨1 - q, q, by omega, h, .refl (by omega) rfl, (nb21 hq).2 rfl⟩

theorem gone21 {Y : List Int} {v : Int} {q : Nat} (hv : v ≠ 0) : q ∈ gone 2 1 Y v ↔ q < 2 ∧ Y.getD q 0 = v ∧ Y.getD (1 - q) 0 ≠ 0 := by
  constructor
  · intro h
    obtain ⟨h1, h2, h3⟩ := gone_at h
    refine ⟨h1, h2, fun h0 => ?_⟩
    have := lib_ne.2 ((hl21 h1 (by rw [h2]; exact hv)).2 h0)
    exact this h3
  · rintro ⟨h1, h2, h3⟩
    refine mem_gone.2 ?_
    unfold goneR
    refine mem_pls.2 ⟨by omega, h2, ?_⟩
    rcases Nat.eq_zero_or_pos (lib 2 1 Y (grp 2 1 Y q)).length with h | h
    · exact h
    · exact absurd ((hl21 h1 (by rw [h2]; exact hv)).1 (lib_ne.1 (by omega))) h3

theorem pz21 {a b : Int} {m p : Nat} (hm : m = 1 ∨ m = 2) : pz 2 1 [a, b] m p = [if ([a, b].set p (m : Int)).getD 0 0 = ((3 - m : Nat) : Int) ∧ ([a, b].set p (m : Int)).getD 1 0 ≠ 0 then 0 else ([a, b].set p (m : Int)).getD 0 0, if ([a, b].set p (m : Int)).getD 1 0 = ((3 - m : Nat) : Int) ∧ ([a, b].set p (m : Int)).getD 0 0 ≠ 0 then 0 else ([a, b].set p (m : Int)).getD 1 0] := by
  have hl : ([a, b] : List Int).length = 2 * 1 := rfl
  have hv : ((3 - m : Nat) : Int) ≠ 0 := by omega
  refine list_getD (by rw [pz_len hl]; rfl) fun i hi => ?_
  rw [pz_len hl] at hi
  have : i = 0 ∨ i = 1 := by omega
  rcases this with rfl | rfl
  · rw [pz_at hl]
    simp only [gone21 hv]
    simp
  · rw [pz_at hl]
    simp only [gone21 hv]
    simp

theorem pz_a : pz 2 1 [0, 0] 1 0 = [1, 0] := by rw [pz21 (.inl rfl)]; simp
theorem pz_b : pz 2 1 [1, 0] 2 1 = [0, 2] := by rw [pz21 (.inr rfl)]; simp
theorem pz_c : pz 2 1 [0, 2] 1 0 = [1, 0] := by rw [pz21 (.inl rfl)]; simp

theorem pok21 {Z Y : List Int} {m p : Nat} (hp : p < 2) (h : pz 2 1 Z m p = Y) (h1 : Y.getD p 0 ≠ 0) (h2 : Y.getD (1 - p) 0 = 0) : pok 2 1 Z m p := by
  unfold pok
  rw [h]
  exact fun e => lib_ne.2 ((hl21 hp h1).2 h2) e

theorem pE21 {Z Y : List Int} {m p : Nat} (hp : p < 2) (h0 : Z.getD p 0 = 0) (h : pz 2 1 Z m p = Y) (h1 : Y.getD p 0 ≠ 0) (h2 : Y.getD (1 - p) 0 = 0) : pE 2 1 Z m (p : Int) = 0 := by
  unfold pE
  rw [if_pos (by omega), Int.toNat_natCast, if_pos h0, if_pos (pok21 hp h h1 h2)]

theorem mvd_new {s : PS} {m p : Nat} {Y : List Int} (hq : s.q ≠ 2) (hm : 1 + s.m % 2 = m) (hp : p < 2) (h0 : s.Z.getD p 0 = 0) (h : pz 2 1 s.Z m p = Y) (h1 : Y.getD p 0 ≠ 0) (h2 : Y.getD (1 - p) 0 = 0) (hX : ¬ pad Y ∈ s.X) :
    ∃ t u, mvd 2 1 s (p : Int) = (⟨Y, t, u, s.m + 1, 0, pad Y :: s.X⟩, 0) := by
  refine ⟨(mvd 2 1 s (p : Int)).1.t, (mvd 2 1 s (p : Int)).1.u, ?_⟩
  unfold mvd
  rw [if_neg hq, if_neg (by omega)]
  unfold stn
  rw [hm, if_pos (pE21 hp h0 h h1 h2), Int.toNat_natCast, h, if_neg hX]

theorem mvd_old {s : PS} {m p : Nat} {Y : List Int} (hq : s.q ≠ 2) (hm : 1 + s.m % 2 = m) (hp : p < 2) (h0 : s.Z.getD p 0 = 0) (h : pz 2 1 s.Z m p = Y) (h1 : Y.getD p 0 ≠ 0) (h2 : Y.getD (1 - p) 0 = 0) (hX : pad Y ∈ s.X) :
    mvd 2 1 s (p : Int) = (s, 8) := by
  unfold mvd
  rw [if_neg hq, if_neg (by omega)]
  unfold stn
  rw [hm, if_pos (pE21 hp h0 h h1 h2), Int.toNat_natCast, h, if_pos hX]

theorem pad_ne {a b c d : Int} (h : ¬ ([a, b] : List Int) = [c, d]) : pad [a, b] ≠ pad [c, d] := fun e => h (pad_inj rfl e)

/-- Taken and taken again: the third move is refused. -/
theorem ko_run : ∃ t u X, runP 2 1 (ps0 [0, 0]) [0, 1, 0] = (⟨[0, 2], t, u, 2, 0, X⟩, 8) := by
  obtain ⟨t1, u1, e1⟩ := mvd_new (s := ps0 [0, 0]) (m := 1) (p := 0) (by unfold ps0; decide) rfl (by omega) (by unfold ps0; rfl) (by unfold ps0; exact pz_a) (by decide) (by decide) (by
    unfold ps0
    simp only [List.mem_singleton]
    exact pad_ne (by decide))
  obtain ⟨t2, u2, e2⟩ := mvd_new (s := ⟨[1, 0], t1, u1, (ps0 [0, 0]).m + 1, 0, pad [1, 0] :: (ps0 [0, 0]).X⟩) (m := 2) (p := 1) (show (0 : Nat) ≠ 2 by decide) rfl (by omega) rfl pz_b (by decide) (by decide) (by
    unfold ps0
    simp only [List.mem_cons, List.not_mem_nil, or_false, not_or]
    exact ⟨pad_ne (by decide), pad_ne (by decide)⟩)
  have e3 := mvd_old (s := ⟨[0, 2], t2, u2, (ps0 [0, 0]).m + 1 + 1, 0, pad [0, 2] :: pad [1, 0] :: (ps0 [0, 0]).X⟩) (m := 1) (p := 0) (show (0 : Nat) ≠ 2 by decide) (by show 1 + (0 + 1 + 1) % 2 = 1; decide) (by omega) rfl pz_c (by decide) (by decide) (by simp)
  have f1 : mvd 2 1 (ps0 [0, 0]) 0 = _ := e1
  have f2 : mvd 2 1 _ 1 = _ := e2
  have f3 : mvd 2 1 _ 0 = _ := e3
  refine ⟨t2, u2, pad [0, 2] :: pad [1, 0] :: (ps0 [0, 0]).X, ?_⟩
  rw [runP, f1, if_pos rfl, runP, f2, if_pos rfl, runP, f3, if_neg (show ¬ (8 : Nat) = 0 by decide)]
  rfl

end Go.Proofs.Ytafiaimlmdflnaa
