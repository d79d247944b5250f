/-
  What crib.Show answers; it is the reference's answer. No conditions beyond those that each theorem bears.
-/
import Derived.Test.YtneafmjbekafmaaScore
import Derived.Test.YtneafmjbekafmaaRefShow
import Derived.Test.YtneafmjbekafmaaMay
namespace Go.Proofs.Ytneafmjbekafmaa
open Go.RowKit Go.Shelf

def shE (zs : List Int) (start : Int) : Int := if zs.length = 4 then mayE (zs ++ [start]) else 11
def shV (zs : List Int) (start : Int) (crib : Bool) : Int := if shE zs start = 0 then (scN (natL zs) start.toNat crib : Nat) else 0

theorem may_split {zs : List Int} {start : Int} (h : mayE (zs ++ [start]) = 0) :
    (∀ x ∈ natL zs, x < 52) ∧ toI (natL zs) = zs ∧ 0 ≤ start ∧ start < 52 ∧ (natL zs ++ [start.toNat]).Nodup := by
  obtain ⟨hr, hn⟩ := mayE_zero h
  rw [inRange_snoc, Bool.and_eq_true, decide_eq_true_eq] at hr
  have hz := hr.1
  have hall : ∀ z ∈ zs, 0 ≤ z ∧ z < 52 := by
    intro z hz'
    have := hr.1
    simp only [inRange, List.all_eq_true, decide_eq_true_eq] at this
    exact this z hz'
  refine ⟨?_, toI_natL hz, hr.2.1, hr.2.2, ?_⟩
  · intro x hx
    obtain ⟨z, hz', rfl⟩ := List.mem_map.1 hx
    have := hall z hz'
    omega
  · have e : toI (natL zs ++ [start.toNat]) = zs ++ [start] := by
      rw [toI, List.map_append]
      have := toI_natL hz
      rw [toI] at this
      rw [this]
      simp
      omega
    have hn' : (toI (natL zs ++ [start.toNat])).Nodup := by rw [e]; exact hn
    rw [toI] at hn'
    exact (List.pairwise_map.1 hn').imp (fun h e => h (by rw [e]))

set_option maxRecDepth 100000 in
set_option maxHeartbeats 2000000 in
theorem Show_any (a : Option Addr) (n c : Nat) (zs : List Int) (start : Int) (crib : Bool) (w : World) (h : Rd w a n c zs) :
    Calls Try.prog 8 #[.slice a n c, .int .i64 start, .bool crib] w fun e w' => e = .returned (.tuple #[.int .i64 (shV zs start crib), .int .i64 (shE zs start)]) ∧ Below w.heap.size w w' := by
  have hlen := h.len
  by_cases h4 : n = 4
  · subst h4
    have HE : Hid (shE zs start = mayE (zs ++ [start])) := hide (by rw [shE, if_pos hlen])
    have HH := hide h
    have HLEN := hide hlen
    clear h hlen
    go_enter Try.func8, Try.ntmps8
    go_wp2_with fail
    generalize hw1 : w.alloc (Obj.cells #[.int .i64 start] 3) = w1
    generalize hw2 : w1.alloc (Obj.cells #[.slice a 4 c, .slice (some ⟨w.heap.size, 0, none⟩) 1 1] 22) = w2
    have B1 : Below w.heap.size w w1 := by rw [← hw1]; exact (Below.refl _ w).alloc (Nat.le_refl _) _
    have S1 : w1.heap.size = w.heap.size + 1 := by rw [← hw1]; simp
    have B2 : Below w.heap.size w w2 := by rw [← hw2]; exact B1.alloc (by omega) _
    have B12 : Below w1.heap.size w1 w2 := by rw [← hw2]; exact (Below.refl _ w1).alloc (Nat.le_refl _) _
    have R1 : Rd w2 (some ⟨w.heap.size, 0, none⟩) 1 1 [start] := by have := one_rd w start; rw [hw1] at this; exact this.mono B12
    have C0 : w2.cell? ⟨w1.heap.size, 0, none⟩ = some (.slice a 4 c) := by rw [← hw2]; exact new_cells _ _ _ _ _ rfl
    have C1 : w2.cell? ⟨w1.heap.size, 1, none⟩ = some (.slice (some ⟨w.heap.size, 0, none⟩) 1 1) := by rw [← hw2]; exact new_cells _ _ _ _ _ rfl
    have CC := hide (concat_two w1.heap.size a (some ⟨w.heap.size, 0, none⟩) 4 1 c 1 zs [start] w2 C0 C1 (HH.out.mono B2) R1 (by omega) (by omega) (by omega))
    rw [S1] at CC
    have HB2 := hide B2
    clear C0 C1 R1 B2 B12 B1 S1
    refine CC.out.mono ?_
    rintro e w3 ⟨a3, c3, rfl, hO3, hB3⟩
    have HR3 := hide (Rd.of_own hO3)
    have HB3 := hide (HB2.out.trans (hB3.mono HB2.out.size))
    clear hO3 hB3 HB2 CC hw1 hw2
    go_wp2_with fail
    refine (cards_any a3 5 c3 (zs ++ [start]) w3 HR3.out (by omega)).mono ?_
    rintro e w4 ⟨rfl, hB4⟩
    have HB4 := hide (HB3.out.trans (hB4.mono HB3.out.size))
    have HH4 := hide (HH.out.mono HB4.out)
    clear hB4 HB3 HR3 HH
    by_cases h0 : mayE (zs ++ [start]) = 0
    · obtain ⟨q1, q2, q3, q4, _⟩ := may_split h0
      have HV : Hid (shV zs start crib = (scN (natL zs) start.toNat crib : Nat)) := hide (by rw [shV, if_pos (HE.out.trans h0)])
      have HE0 : Hid (shE zs start = 0) := hide (HE.out.trans h0)
      rw [h0]
      obtain ⟨s, rfl⟩ : ∃ s : Nat, start = s := ⟨start.toNat, by omega⟩
      have SC := hide (score_any a c (natL zs) (by simp [natL]; exact HLEN.out) q1 s (by omega) crib w4 (by rw [q2]; exact HH4.out))
      clear h0 q1 q2 q3 q4 HE
      go_wp2_with fail
      refine SC.out.mono ?_
      rintro e w5 ⟨rfl, hB5⟩
      have HB5 := hide (HB4.out.trans (hB5.mono HB4.out.size))
      clear hB5
      go_wp2
      go_ret2
      exact ⟨by rw [HV.out, HE0.out]; rfl, HB5.out⟩
    · have HV : Hid (shV zs start crib = 0) := hide (by rw [shV, if_neg (by rw [HE.out]; exact h0)])
      obtain ⟨x, hx⟩ : ∃ x, mayE (zs ++ [start]) = x := ⟨_, rfl⟩
      rw [hx] at h0 HE ⊢
      clear hx
      go_wp2
      go_ret2
      exact ⟨by rw [HV.out, HE.out]; rfl, HB4.out⟩
  · have hne : ((n : Int) != 4) = true := by simp; omega
    have HE : Hid (shE zs start = 11) := hide (by rw [shE, if_neg (by rw [hlen]; exact h4)])
    have HV : Hid (shV zs start crib = 0) := hide (by rw [shV, if_neg (by rw [HE.out]; omega)])
    clear h hlen
    go_enter Try.func8, Try.ntmps8
    go_wp2
    go_ret2
    exact ⟨by rw [HV.out, HE.out]; rfl, Below.refl _ _⟩

theorem mod52 {x : Nat} (h : x < 52) : x % 52 = x := Nat.mod_eq_of_lt h

theorem fl_eq (x0 x1 x2 x3 s : Nat) (h0 : x0 < 52) (h1 : x1 < 52) (h2 : x2 < 52) (h3 : x3 < 52) (hs : s < 52) (crib : Bool) : flN [x0, x1, x2, x3] s crib = flR [x0, x1, x2, x3, s] crib := by
  have e0 := mod52 h0
  have e1 := mod52 h1
  have e2 := mod52 h2
  have e3 := mod52 h3
  have es := mod52 hs
  simp only [flN, flR, otherP, List.any_cons, List.any_nil, List.getD, List.getElem?_cons_zero, List.getElem?_cons_succ, Option.getD_some, e0, e1, e2, e3, es]
  by_cases a1 : x1 % 4 = x0 % 4
  · by_cases a2 : x2 % 4 = x0 % 4
    · by_cases a3 : x3 % 4 = x0 % 4
      · by_cases a4 : s % 4 = x0 % 4
        · simp [a1, a2, a3, a4]
        · have : ¬ x0 % 4 = s % 4 := fun h => a4 h.symm
          simp [a1, a2, a3, a4, this]
      · have : ¬ x0 % 4 = x3 % 4 := fun h => a3 h.symm
        simp [a1, a2, a3, this]
    · have : ¬ x0 % 4 = x2 % 4 := fun h => a2 h.symm
      simp [a1, a2, this]
  · have : ¬ x0 % 4 = x1 % 4 := fun h => a1 h.symm
    simp [a1, this]

theorem jack_same {x y s : Nat} (hx : x < 52) (hy : y < 52) (h1 : rkC x = 10 ∧ x % 4 = s % 4) (h2 : rkC y = 10 ∧ y % 4 = s % 4) : x = y := by
  unfold rkC at h1 h2
  omega

def jkB (p : Nat → Bool) : Nat → Nat
  | 0 => 0
  | k + 1 => bif p k then jkB p k + 1 else jkB p k

theorem jkR_jkB (L : List Nat) (k : Nat) : jkR L k = jkB (fun i => decide (rkC (L.getD i 0) = 10 ∧ L.getD i 0 % 4 = L.getD 4 0 % 4)) k := by
  induction k with
  | zero => rfl
  | succ k ih =>
    unfold jkR jkB
    by_cases h : rkC (L.getD k 0) = 10 ∧ L.getD k 0 % 4 = L.getD 4 0 % 4
    · rw [if_pos h, decide_eq_true h, ih]; rfl
    · rw [if_neg h, decide_eq_false h, ih]; rfl

theorem jk_bools : ∀ b0 b1 b2 b3 : Bool, (b0 && b1) = false → (b0 && b2) = false → (b0 && b3) = false → (b1 && b2) = false → (b1 && b3) = false → (b2 && b3) = false →
    (bif (b0 || (b1 || (b2 || (b3 || false)))) then 1 else 0) = (bif b3 then (bif b2 then (bif b1 then (bif b0 then 0 + 1 else 0) + 1 else (bif b0 then 0 + 1 else 0)) + 1 else (bif b1 then (bif b0 then 0 + 1 else 0) + 1 else (bif b0 then 0 + 1 else 0))) + 1 else (bif b2 then (bif b1 then (bif b0 then 0 + 1 else 0) + 1 else (bif b0 then 0 + 1 else 0)) + 1 else (bif b1 then (bif b0 then 0 + 1 else 0) + 1 else (bif b0 then 0 + 1 else 0)))) := by decide

theorem jack_and {x y s : Nat} (hx : x < 52) (hy : y < 52) (hne : ¬ x = y) : (decide (rkC x = 10 ∧ x % 4 = s % 4) && decide (rkC y = 10 ∧ y % 4 = s % 4)) = false := by
  rw [Bool.and_eq_false_iff, decide_eq_false_iff_not, decide_eq_false_iff_not]
  by_cases h : rkC x = 10 ∧ x % 4 = s % 4
  · exact .inr (fun h2 => hne (jack_same hx hy h h2))
  · exact .inl h

theorem jk_eq (x0 x1 x2 x3 s : Nat) (h0 : x0 < 52) (h1 : x1 < 52) (h2 : x2 < 52) (h3 : x3 < 52) (hn : [x0, x1, x2, x3, s].Nodup) : jkN [x0, x1, x2, x3] s = jkR [x0, x1, x2, x3, s] 4 := by
  simp only [List.nodup_cons, List.mem_cons, List.not_mem_nil, or_false, not_or] at hn
  obtain ⟨⟨n01, n02, n03, _⟩, ⟨n12, n13, _⟩, ⟨n23, _⟩, _⟩ := hn
  have k := jk_bools _ _ _ _ (jack_and (s := s) h0 h1 n01) (jack_and (s := s) h0 h2 n02) (jack_and (s := s) h0 h3 n03) (jack_and (s := s) h1 h2 n12) (jack_and (s := s) h1 h3 n13) (jack_and (s := s) h2 h3 n23)
  rw [jkR_jkB]
  have e : jkN [x0, x1, x2, x3] s = bif (decide (rkC x0 = 10 ∧ x0 % 4 = s % 4) || (decide (rkC x1 = 10 ∧ x1 % 4 = s % 4) || (decide (rkC x2 = 10 ∧ x2 % 4 = s % 4) || (decide (rkC x3 = 10 ∧ x3 % 4 = s % 4) || false)))) then 1 else 0 := by
    unfold jkN
    rw [cond_eq_ite]
    simp only [jackP, List.any_cons, List.any_nil, mod52 h0, mod52 h1, mod52 h2, mod52 h3]
  rw [e, k]
  rfl

/-- The program's score is the reference's. -/
theorem score_ref (L : List Nat) (s : Nat) (crib : Bool) (h4 : L.length = 4) (hlt : ∀ x ∈ L, x < 52) (hs : s < 52) (hn : (L ++ [s]).Nodup) : scN L s crib = shR (L ++ [s]) crib := by
  have h5 : (L ++ [s]).length = 5 := by simp [h4]
  rw [scN, rkN, shR, prsL_tms, rows_ref _ h5]
  match L, h4 with
  | [x0, x1, x2, x3], _ =>
    rw [fl_eq x0 x1 x2 x3 s (hlt _ (by simp)) (hlt _ (by simp)) (hlt _ (by simp)) (hlt _ (by simp)) hs, jk_eq x0 x1 x2 x3 s (hlt _ (by simp)) (hlt _ (by simp)) (hlt _ (by simp)) (hlt _ (by simp)) hn]
    rfl

end Go.Proofs.Ytneafmjbekafmaa
