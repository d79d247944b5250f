/-
  The legs of a way that leaps; what the document's change of a board makes of them. No conditions beyond those that each theorem bears.
  What comes of a way, told, is what the document makes of it. No conditions beyond those that each theorem bears.
  What was told is seen again. No conditions beyond those that each theorem bears.
  What comes of a way may be. No conditions beyond those that each theorem bears.
-/
import Derived.Test.YtnbaangnpoblfaaDoorD22
namespace Go.Proofs.YtnbaangnpoblfaaDoor
open Go.RowKit

/-- From p over m to q. -/
def Leg (p q m : Nat) : Prop := ∃ d, d < 4 ∧ m = nb d p ∧ q = nb d m ∧ m ≠ 0 ∧ q ≠ 0
def Legs (W ov : List Nat) : Prop := W.length = ov.length + 1 ∧ ∀ i, i < ov.length → Leg (W.getD i 0) (W.getD (i + 1) 0) (ov.getD i 0)

theorem getD_app_l (A B : List Nat) {i : Nat} (h : i < A.length) : (A ++ B).getD i 0 = A.getD i 0 := by
  simp only [List.getD, List.getElem?_append_left h]
theorem getD_app_e (A : List Nat) (x : Nat) : (A ++ [x]).getD A.length 0 = x := by
  simp [List.getD]

theorem Legs.snoc {W ov : List Nat} {q m : Nat} (h : Legs W ov) (hl : Leg (W.getD ov.length 0) q m) : Legs (W ++ [q]) (ov ++ [m]) := by
  refine ⟨by simp [h.1], fun i hi => ?_⟩
  rw [List.length_append, List.length_singleton] at hi
  by_cases e : i < ov.length
  · rw [getD_app_l W _ (by rw [h.1]; omega), getD_app_l W _ (by rw [h.1]; omega), getD_app_l ov _ e]
    exact h.2 i e
  · obtain rfl : i = ov.length := by omega
    rw [getD_app_l W _ (by rw [h.1]; omega), getD_app_e, show ov.length + 1 = W.length from h.1.symm, getD_app_e]
    exact hl

theorem hopsN_leg {Z : List Int} {t p0 c : Nat} {ov : List Nat} {h : Nat × Nat} (hh : h ∈ hopsN Z t p0 c ov) : Leg c h.1 h.2 := by
  obtain ⟨d, hd, he⟩ := List.mem_filterMap.1 hh
  unfold hopN at he
  split at he
  · rename_i hc
    cases he
    exact ⟨d, by simp at hd; omega, rfl, rfl, hc.2.1, hc.2.2.2.2.1⟩
  · cases he

theorem jmN_legs {Z : List Int} {t p0 : Nat} : ∀ (f c : Nat) (W ov : List Nat), Legs W ov → W.getD ov.length 0 = c → ∀ y ∈ jmN Z t p0 f c W ov, Legs y.1 y.2
  | 0, _, _, _, _, _, _, h => by cases h
  | f + 1, c, W, ov, hL, hc, y, h => by
    rw [jmN] at h
    rcases List.mem_append.1 h with h | h
    · obtain ⟨x, hx, hy⟩ := List.mem_flatMap.1 h
      have hl := hopsN_leg hx
      refine jmN_legs f x.1 (W ++ [x.1]) (ov ++ [x.2]) (hL.snoc (by rw [hc]; exact hl)) ?_ y hy
      rw [List.length_append, List.length_singleton, ← hL.1, getD_app_e]
    · split at h
      · rw [List.mem_singleton.1 h]; exact hL
      · cases h

theorem leg_tab : ∀ d, d < 4 → ∀ p, p < 33 → nb d p ≠ 0 → nb d (nb d p) ≠ 0 → ((dkX p + dkX (nb d (nb d p))) % 2 = 0 ∧ (dkY p + dkY (nb d (nb d p))) % 2 = 0) ∧ dkAt (((dkX p + dkX (nb d (nb d p))) / 2 : Nat) : Int) (((dkY p + dkY (nb d (nb d p))) / 2 : Nat) : Int) = nb d p := by decide +kernel
theorem step_tab : ∀ d, d < 4 → ∀ p, p < 33 → nb d p ≠ 0 → ¬ ((dkX p + dkX (nb d p)) % 2 = 0 ∧ (dkY p + dkY (nb d p)) % 2 = 0) := by decide +kernel

def clr (Y : List Int) (ov : List Nat) : List Int := ov.foldl (fun Y m => Y.set m 0) Y
theorem clr_snoc (Y : List Int) (ov : List Nat) (m : Nat) : clr Y (ov ++ [m]) = (clr Y ov).set m 0 := by simp [clr]

theorem doS_leg {W : List Nat} {Y : List Int} {k m : Nat} (hp : W.getD k 0 < 33) (h : Leg (W.getD k 0) (W.getD (k + 1) 0) m) : doS W Y (k + 1) = Y.set m 0 := by
  obtain ⟨d, hd, h1, h2, h3, h4⟩ := h
  subst h1
  have tb := leg_tab d hd (W.getD k 0) hp h3 (by rw [← h2]; exact h4)
  rw [← h2] at tb
  unfold doS
  rw [Nat.add_sub_cancel, if_pos tb.1, tb.2]

theorem doT_legs {Z : List Int} {W ov : List Nat} (hL : Legs W ov) (hW : ∀ p ∈ W, 1 ≤ p ∧ p ≤ 32) : ∀ k, k ≤ ov.length → doT Z W k = clr (Z.set (W.getD 0 0) 0) (ov.take k)
  | 0, _ => by rw [doT]; simp [clr]
  | k + 1, hk => by
    have hr : W.getD k 0 < 33 := by
      have hkw : k < W.length := by rw [hL.1]; omega
      have := hW (W.getD k 0) (by simp [List.getD, hkw])
      omega
    rw [doT, doT_legs hL hW k (by omega), doS_leg hr (hL.2 k (by omega)), List.take_succ_eq_append_getElem (by omega), clr_snoc]
    have : ov.getD k 0 = ov[k] := by simp [List.getD, show k < ov.length by omega]
    rw [this]

theorem clr_len (Y : List Int) (ov : List Nat) : (clr Y ov).length = Y.length := by
  unfold clr
  induction ov generalizing Y with
  | nil => rfl
  | cons m r ih => rw [List.foldl_cons, ih, List.length_set]

theorem clr_at {p : Nat} : ∀ (ov : List Nat) (Y : List Int), (clr Y ov).getD p 0 = if p ∈ ov then 0 else Y.getD p 0 := by
  refine rev_ind ?_ ?_
  · intro Y; simp [clr]
  · intro s a ih Y
    rw [clr_snoc]
    simp only [List.mem_append, List.mem_singleton]
    by_cases e : p = a
    · subst e
      rw [if_pos (Or.inr rfl)]
      by_cases hl : p < (clr Y s).length
      · simp [List.getD, hl]
      · simp [List.getD, hl]
    · have h1 : ((clr Y s).set a 0).getD p 0 = (clr Y s).getD p 0 := by simp [List.getD, show ¬ a = p from fun h => e h.symm]
      rw [h1, ih]
      by_cases hs : p ∈ s
      · rw [if_pos hs, if_pos (Or.inl hs)]
      · rw [if_neg hs, if_neg (fun h => h.elim hs e)]

/-- A way's legs: leaps, or one step. -/
def DW (W ov : List Nat) : Prop := Legs W ov ∨ ∃ p d, d < 4 ∧ nb d p ≠ 0 ∧ W = [p, nb d p] ∧ ov = []

theorem wyN_legs {Z : List Int} {t : Nat} {y : List Nat × List Nat} (hy : y ∈ wyN Z t) : DW y.1 y.2 := by
  unfold wyN at hy
  obtain ⟨p, _, hp⟩ := List.mem_flatMap.1 hy
  unfold way1N at hp
  split at hp
  · exact Or.inl (jmN_legs 13 p [p] [] ⟨rfl, fun i hi => absurd hi (by simp)⟩ rfl y hp)
  · unfold stN at hp
    obtain ⟨d, hd, he⟩ := List.mem_filterMap.1 hp
    unfold stpN at he
    split at he
    · rename_i hc
      cases he
      exact Or.inr ⟨p, d, by simp at hd; omega, hc.2.1, rfl, rfl⟩
    · cases he

theorem doT_end {Z : List Int} {W ov : List Nat} (h : DW W ov) (hW : ∀ p ∈ W, 1 ≤ p ∧ p ≤ 32) : doT Z W (W.length - 1) = clr (Z.set (W.getD 0 0) 0) ov := by
  rcases h with h | ⟨p, d, hd, h1, rfl, rfl⟩
  · rw [show W.length - 1 = ov.length by rw [h.1]; omega, doT_legs h hW _ (Nat.le_refl _), List.take_length]
  · have hp := hW p (by simp)
    have hs := step_tab d hd p (by omega) h1
    show doT Z [p, nb d p] (0 + 1) = _
    rw [doT, doT]
    unfold doS
    rw [if_neg (by simpa using hs)]
    rfl

theorem doR_len {Z : List Int} {W ov : List Nat} (hZ : Z.length = 33) (h : DW W ov) (hW : ∀ p ∈ W, 1 ≤ p ∧ p ≤ 32) : (doR Z W).length = 33 := by
  unfold doR
  rw [List.length_set, doT_end h hW, clr_len, List.length_set, hZ]

/-- The board's numbers behind a way. -/
theorem doR_at {Z : List Int} {W ov : List Nat} (hZ : Z.length = 33) (h : DW W ov) (hW : ∀ p ∈ W, 1 ≤ p ∧ p ≤ 32) {p : Nat} (hp : p ≤ 32) :
    (doR Z W).getD p 0 = if p = W.getD (W.length - 1) 0 then cwn (Z.getD (W.getD 0 0) 0) (W.getD (W.length - 1) 0) else if p = W.getD 0 0 ∨ p ∈ ov then 0 else Z.getD p 0 := by
  have hlen : (clr (Z.set (W.getD 0 0) 0) ov).length = 33 := by rw [clr_len, List.length_set, hZ]
  unfold doR
  rw [doT_end h hW]
  generalize W.getD (W.length - 1) 0 = l
  generalize cwn (Z.getD (W.getD 0 0) 0) l = v
  by_cases e : p = l
  · subst e
    rw [if_pos rfl]
    simp [List.getD, show p < (clr (Z.set (W[0]?.getD 0) 0) ov).length by rw [clr_len, List.length_set, hZ]; omega]
  · have h1 : ((clr (Z.set (W.getD 0 0) 0) ov).set l v).getD p 0 = (clr (Z.set (W.getD 0 0) 0) ov).getD p 0 := by simp [List.getD, show ¬ l = p from fun h => e h.symm]
    rw [if_neg e, h1, clr_at]
    by_cases ho : p ∈ ov
    · rw [if_pos ho, if_pos (Or.inr ho)]
    · rw [if_neg ho]
      by_cases e0 : p = W.getD 0 0
      · rw [if_pos (Or.inl e0), ← e0]
        simp [List.getD, show p < Z.length by omega]
      · rw [if_neg (fun h => h.elim e0 ho)]
        have : ¬ W.getD 0 0 = p := fun h => e0 h.symm
        generalize W.getD 0 0 = z at *
        simp [List.getD, this]

end Go.Proofs.YtnbaangnpoblfaaDoor

namespace Go.Proofs.YtnbaangnpoblfaaDoor
open Go.RowKit

theorem hopsN_free {Z : List Int} {t p0 c : Nat} {ov : List Nat} {h : Nat × Nat} (hh : h ∈ hopsN Z t p0 c ov) : Z.getD h.1 0 = 0 ∨ h.1 = p0 := by
  obtain ⟨d, _, he⟩ := List.mem_filterMap.1 hh
  unfold hopN at he
  split at he
  · rename_i hc
    cases he
    exact hc.2.2.2.2.2
  · cases he

theorem jmN_free {Z : List Int} {t p0 : Nat} : ∀ (f c : Nat) (W ov : List Nat), (Z.getD c 0 = 0 ∨ c = p0) → W.length = ov.length + 1 → W.getD ov.length 0 = c → W.getD 0 0 = p0 → ∀ y ∈ jmN Z t p0 f c W ov, (Z.getD (y.1.getD (y.1.length - 1) 0) 0 = 0 ∨ y.1.getD (y.1.length - 1) 0 = p0) ∧ y.1.getD 0 0 = p0
  | 0, _, _, _, _, _, _, _, _, h => by cases h
  | f + 1, c, W, ov, hf, hl, hc, h0, y, h => by
    rw [jmN] at h
    rcases List.mem_append.1 h with h | h
    · obtain ⟨x, hx, hy⟩ := List.mem_flatMap.1 h
      refine jmN_free f x.1 (W ++ [x.1]) (ov ++ [x.2]) (hopsN_free hx) (by simp [hl]) ?_ ?_ y hy
      · rw [List.length_append, List.length_singleton, ← hl, getD_app_e]
      · rw [getD_app_l W _ (by omega), h0]
    · split at h
      · rw [List.mem_singleton.1 h]
        show (Z.getD (W.getD (W.length - 1) 0) 0 = 0 ∨ W.getD (W.length - 1) 0 = p0) ∧ W.getD 0 0 = p0
        rw [show W.length - 1 = ov.length by omega, hc]
        exact ⟨hf, h0⟩
      · cases h

theorem wyN_free {Z : List Int} {t : Nat} {y : List Nat × List Nat} (hy : y ∈ wyN Z t) : Z.getD (y.1.getD (y.1.length - 1) 0) 0 = 0 ∨ y.1.getD (y.1.length - 1) 0 = y.1.getD 0 0 := by
  unfold wyN at hy
  obtain ⟨p, _, hp⟩ := List.mem_flatMap.1 hy
  unfold way1N at hp
  split at hp
  · have h := jmN_free 13 p [p] [] (Or.inr rfl) rfl rfl rfl y hp
    rw [h.2]; exact h.1
  · unfold stN at hp
    obtain ⟨d, hd, he⟩ := List.mem_filterMap.1 hp
    unfold stpN at he
    split at he
    · rename_i hc
      cases he
      exact Or.inl hc.2.2
    · cases he

theorem tolA_at {b : Bm} (ho : Sub b.own ALL) (ht : Sub b.oth ALL) {p : Nat} (h1 : 1 ≤ p) (h2 : p ≤ 32) : (tol b).getD p 0 = if b.own.testBit (bitn p) = true ∨ b.oth.testBit (bitn p) = true then tolV b (bitn p) else 0 := by
  unfold tol
  rw [tolS_at b p (by omega) _ (fun i hi => (ho.or ht) i (mem_bln.1 hi).2)]
  have e : (1 ≤ p ∧ bitn p ∈ bln (b.own ||| b.oth) 64) ↔ (b.own.testBit (bitn p) = true ∨ b.oth.testBit (bitn p) = true) := by
    rw [mem_bln, Nat.testBit_or, Bool.or_eq_true]
    have := bitn_lt h2
    constructor
    · rintro ⟨_, _, h⟩; exact h
    · intro h; exact ⟨h1, by omega, h⟩
  by_cases h : b.own.testBit (bitn p) = true ∨ b.oth.testBit (bitn p) = true
  · rw [if_pos h, if_pos (e.2 h)]
  · rw [if_neg h, if_neg (fun k => h (e.1 k))]

theorem e2_andq (p M : Nat) : e2 p &&& M = if M.testBit (bitn p) = true then e2 p else 0 := pow_and _ _
theorem e2_neq (p : Nat) : e2 p ≠ 0 := by unfold e2; exact Nat.ne_of_gt (Nat.two_pow_pos _)
theorem tb_e2p {p q : Nat} (hp : 1 ≤ p) (hq : 1 ≤ q) : (e2 p).testBit (bitn q) = decide (p = q) := by
  rw [tb_e2, decide_eq_decide]
  exact ⟨fun h => bitn_inj hp hq h, fun h => by rw [h]⟩
theorem crw_tab : ∀ p, p ≤ 32 → 1 ≤ p → (Nat.testBit 15 (bitn p) = decide (p ≤ 4)) ∧ (Nat.testBit 32212254720 (bitn p) = decide (29 ≤ p)) := by decide

theorem headD_getDq (l : List Nat) : l.headD 0 = l.getD 0 0 := by cases l <;> rfl
theorem lastD_getDq : ∀ (l : List Nat), l.getLastD 0 = l.getD (l.length - 1) 0
  | [] => rfl
  | a :: r => by
    rw [List.getLastD_eq_getLast?, List.getLast?_eq_getElem?]
    rfl

theorem afN_bits {Z : List Int} {t : Nat} (hM : Mb Z t) {y : List Nat × List Nat} (hy : y ∈ wyN Z t) {p : Nat} (h1 : 1 ≤ p) (h2 : p ≤ 32) :
    (afN Z t y).own.testBit (bitn p) = (isO Z (3 - t) p && !(y.2.contains p)) ∧
    (afN Z t y).oth.testBit (bitn p) = ((isO Z t p && !decide (y.1.getD 0 0 = p)) || decide (y.1.getD (y.1.length - 1) 0 = p)) ∧
    (afN Z t y).kin.testBit (bitn p) = ((isK Z p && !(y.2.contains p || decide (y.1.getD 0 0 = p))) || (decide (isK Z (y.1.getD 0 0) = true ∨ (t = 1 ∧ y.1.getD (y.1.length - 1) 0 ≤ 4) ∨ (t = 2 ∧ 29 ≤ y.1.getD (y.1.length - 1) 0)) && decide (y.1.getD (y.1.length - 1) 0 = p))) := by
  have hW := wyN_ok hM hy
  have h2' := hW.two
  have ht : t = 1 ∨ t = 2 := by have := hM.tt; omega
  have r0 : 1 ≤ y.1.getD 0 0 ∧ y.1.getD 0 0 ≤ 32 := hW.rng _ (by simp [List.getD, show 0 < y.1.length by omega])
  have rl : 1 ≤ y.1.getD (y.1.length - 1) 0 ∧ y.1.getD (y.1.length - 1) 0 ≤ 32 := hW.rng _ (by simp [List.getD, show y.1.length - 1 < y.1.length by omega])
  have hh : (y.1.map e2).headD 0 = e2 (y.1.getD 0 0) := by
    rw [headD_getDq]
    simp [List.getD, show 0 < y.1.length by omega]
  have hl : (y.1.map e2).getLastD 0 = e2 (y.1.getD (y.1.length - 1) 0) := by
    rw [lastD_getDq, List.length_map]
    simp [List.getD, show y.1.length - 1 < y.1.length by omega]
  have o1 : (sn Z t).own.testBit (bitn p) = isO Z t p := tb_mk _ h1 h2
  have o2 : (sn Z t).oth.testBit (bitn p) = isO Z (3 - t) p := tb_mk _ h1 h2
  have o3 : (sn Z t).kin.testBit (bitn p) = isK Z p := tb_mk _ h1 h2
  have ov : (mkO y.2).testBit (bitn p) = y.2.contains p := tb_mkO y.2 (fun m hm => (hW.own m hm).1) h1
  generalize y.1.getD 0 0 = W0 at *
  generalize y.1.getD (y.1.length - 1) 0 = L at *
  refine ⟨?_, ?_, ?_⟩
  · show (anot (sn Z t).oth (mkO y.2)).testBit (bitn p) = _
    rw [tb_anot, o2, ov]
  · show (anot (sn Z t).own ((y.1.map e2).headD 0) ||| (y.1.map e2).getLastD 0).testBit (bitn p) = _
    rw [hh, hl, Nat.testBit_or, tb_anot, o1, tb_e2p r0.1 h1, tb_e2p rl.1 h1]
  · show (if ((y.1.map e2).headD 0 &&& (sn Z t).kin) ||| ((y.1.map e2).getLastD 0 &&& (sn Z t).crw) = 0 then anot (sn Z t).kin (mkO y.2 ||| (y.1.map e2).headD 0) else anot (sn Z t).kin (mkO y.2 ||| (y.1.map e2).headD 0) ||| (y.1.map e2).getLastD 0).testBit (bitn p) = _
    rw [hh, hl]
    have ck : (sn Z t).kin.testBit (bitn W0) = isK Z W0 := tb_mk _ r0.1 r0.2
    have cc : (sn Z t).crw.testBit (bitn L) = decide ((t = 1 ∧ L ≤ 4) ∨ (t = 2 ∧ 29 ≤ L)) := by
      have tb := crw_tab L rl.2 rl.1
      show Nat.testBit (if t = 1 then 15 else 32212254720) (bitn L) = _
      rcases ht with rfl | rfl
      · rw [if_pos rfl, tb.1]; simp
      · rw [if_neg (by decide), tb.2]; simp
    rw [e2_andq, e2_andq, ck, cc]
    by_cases hk : isK Z W0 = true ∨ (t = 1 ∧ L ≤ 4) ∨ (t = 2 ∧ 29 ≤ L)
    · rw [if_neg (fun e => by
        rw [Nat.or_eq_zero_iff] at e
        rcases hk with hk | hk
        · rw [if_pos hk] at e; exact e2_neq _ e.1
        · have e3 := e.2
          rw [if_pos (by simpa using hk)] at e3
          exact e2_neq _ e3)]
      rw [Nat.testBit_or, tb_anot, Nat.testBit_or, o3, ov, tb_e2p r0.1 h1, tb_e2p rl.1 h1, show decide (isK Z W0 = true ∨ (t = 1 ∧ L ≤ 4) ∨ (t = 2 ∧ 29 ≤ L)) = true by simpa using hk, Bool.true_and]
    · rw [if_pos (by
        rw [Nat.or_eq_zero_iff]
        exact ⟨if_neg (fun h => hk (Or.inl h)), if_neg (fun h => hk (Or.inr (by simpa using h)))⟩)]
      rw [tb_anot, Nat.testBit_or, o3, ov, tb_e2p r0.1 h1, show decide (isK Z W0 = true ∨ (t = 1 ∧ L ≤ 4) ∨ (t = 2 ∧ 29 ≤ L)) = false by simpa using hk, Bool.false_and, Bool.or_false]

theorem tol_afN {Z : List Int} {t : Nat} (hM : Mb Z t) {y : List Nat × List Nat} (hy : y ∈ wyN Z t) : tol (afN Z t y) = doR Z y.1 := by
  have hW := wyN_ok hM hy
  have hD := wyN_legs hy
  have hf := wyN_free hy
  have ht : t = 1 ∨ t = 2 := by have := hM.tt; omega
  have hs : Sub (afN Z t y).own ALL ∧ Sub (afN Z t y).oth ALL := ⟨(aft_sub (sn_ok hM) (W := y.1.map e2) (ov := mkO y.2) hW.subs.2.2.2.1).1, (aft_sub (sn_ok hM) (W := y.1.map e2) (ov := mkO y.2) hW.subs.2.2.2.1).2.1⟩
  have h2' := hW.two
  have r0 : 1 ≤ y.1.getD 0 0 ∧ y.1.getD 0 0 ≤ 32 := hW.rng _ (by simp [List.getD, show 0 < y.1.length by omega])
  have rl : 1 ≤ y.1.getD (y.1.length - 1) 0 ∧ y.1.getD (y.1.length - 1) 0 ≤ 32 := hW.rng _ (by simp [List.getD, show y.1.length - 1 < y.1.length by omega])
  have h0 : own3 (Z.getD (y.1.getD 0 0) 0) = t := by
    have := (mem_plc.1 hW.fst).2.2
    rw [headD_getDq] at this
    exact this
  have hlen : (tol (afN Z t y)).length = 33 := tolS_len _ _
  have hlen2 : (doR Z y.1).length = 33 := doR_len hM.len hD hW.rng
  apply List.ext_getElem
  · rw [hlen, hlen2]
  · intro p hp1 hp2
    have e1 : (tol (afN Z t y))[p] = (tol (afN Z t y)).getD p 0 := by simp [List.getD, hp1]
    have e2' : (doR Z y.1)[p] = (doR Z y.1).getD p 0 := by simp [List.getD, hp2]
    rw [e1, e2', doR_at hM.len hD hW.rng (by omega)]
    by_cases p0 : p = 0
    · subst p0
      have z1 : (tol (afN Z t y)).getD 0 0 = 0 := by
        unfold tol
        rw [tolS_at _ 0 (by omega) _ (fun i hi => (hs.1.or hs.2) i (mem_bln.1 hi).2), if_neg (by omega)]
      rw [z1, if_neg (by omega)]
      split
      · rfl
      · exact hM.z0.symm
    · have h1 : 1 ≤ p := by omega
      have h2 : p ≤ 32 := by omega
      obtain ⟨A, B, C⟩ := afN_bits hM hy h1 h2
      have hm : (afN Z t y).mov = 3 - t := rfl
      rw [tolA_at hs.1 hs.2 h1 h2]
      unfold tolV
      rw [A, B, C, hm]
      have hok := hM.ok (p - 1) (by omega)
      rw [show p - 1 + 1 = p by omega] at hok
      have hok0 := hM.ok (y.1.getD 0 0 - 1) (by omega)
      rw [show y.1.getD 0 0 - 1 + 1 = y.1.getD 0 0 by omega] at hok0
      have hov : p ∈ y.2 → own3 (Z.getD p 0) = 3 - t := fun h => (hW.own p h).2.2
      generalize y.1.getD 0 0 = W0 at *
      generalize y.1.getD (y.1.length - 1) 0 = L at *
      clear A B C hlen hlen2 e1 e2' hp1 hp2 hs hD hW hy
      unfold okP at hok hok0
      simp only [decide_eq_true_eq] at hok hok0
      by_cases eL : L = p
      · subst eL
        rw [if_pos rfl]
        have a1 : isO Z (3 - t) L = false := by
          unfold isO
          rcases hf with hf | hf
          · rw [hf]; rcases ht with rfl | rfl <;> rfl
          · rw [hf, h0]; rcases ht with rfl | rfl <;> rfl
        have a2 : (isK Z L && !(y.2.contains L || decide (W0 = L))) = false := by
          rcases hf with hf | hf
          · unfold isK; rw [hf]; rfl
          · rw [hf]; simp
        rw [a1, a2]
        simp only [Bool.false_and, decide_true, Bool.or_true, or_true, if_true, Bool.false_or, Bool.and_true]
        unfold isK cwn
        generalize Z.getD W0 0 = z at *
        unfold own3 at h0
        rcases ht with rfl | rfl
        · have hz : z = 1 ∨ z = 2 := by
            split at h0
            · omega
            · split at h0 <;> omega
          rcases hz with rfl | rfl
          · by_cases l4 : L ≤ 4 <;> simp [l4]
          · simp
        · have hz : z = -1 ∨ z = -2 := by
            split at h0
            · omega
            · split at h0
              · omega
              · omega
          rcases hz with rfl | rfl
          · by_cases l4 : 29 ≤ L <;> simp [l4]
          · simp
      · rw [if_neg (show ¬ p = L from fun h => eL h.symm)]
        have dL : decide (L = p) = false := by simpa using eL
        rw [dL]
        simp only [Bool.or_false, Bool.and_false]
        by_cases hc : p = W0 ∨ p ∈ y.2
        · rw [if_pos hc]
          have a1 : (isO Z (3 - t) p && !(y.2.contains p)) = false := by
            rcases hc with rfl | hc
            · unfold isO; rw [h0]; rcases ht with rfl | rfl <;> rfl
            · simp [hc]
          have a2 : (isO Z t p && !decide (W0 = p)) = false := by
            rcases hc with rfl | hc
            · simp
            · unfold isO; rw [hov hc]; rcases ht with rfl | rfl <;> rfl
          rw [a1, a2]
          simp
        · rw [if_neg hc]
          have d1 : y.2.contains p = false := by simp; exact fun h => hc (Or.inr h)
          have d2 : decide (W0 = p) = false := by simp; exact fun h => hc (Or.inl h.symm)
          rw [d1, d2]
          simp only [Bool.not_false, Bool.and_true, Bool.or_false]
          unfold isO isK
          generalize Z.getD p 0 = z at *
          have hz : z = 0 ∨ z = 2 ∨ z = -2 ∨ z = 1 ∨ z = -1 := by omega
          rcases ht with rfl | rfl <;> rcases hz with rfl | rfl | rfl | rfl | rfl <;> decide

end Go.Proofs.YtnbaangnpoblfaaDoor

namespace Go.Proofs.YtnbaangnpoblfaaDoor
open Go.RowKit

theorem mk_eq {P : Nat → Bool} {x : Nat} (hx : Sub x ALL) (h : ∀ p, 1 ≤ p → p ≤ 32 → P p = x.testBit (bitn p)) : mkT P 32 = x := by
  apply Nat.eq_of_testBit_eq
  intro i
  rw [Bool.eq_iff_iff]
  constructor
  · intro hi
    obtain ⟨p, h1, h2, h3, rfl⟩ := (tb_mkT P 32 i).1 hi
    rw [← h p h1 h2]; exact h3
  · intro hi
    have ha := hx i hi
    have h36 : i < 36 := by
      by_cases h : i < 36
      · exact h
      · rw [Nat.testBit_lt_two_pow (Nat.lt_of_lt_of_le ALL_lt (Nat.pow_le_pow_right (by decide) (Nat.le_of_not_lt h)))] at ha; cases ha
    obtain ⟨p, hp1, hp2, rfl⟩ := all_bitn i h36 ha
    rw [tb_mk P hp2 hp1, h p hp2 hp1]; exact hi

theorem sn_tol {b : Bm} (ho : Sub b.own ALL) (ht : Sub b.oth ALL) (hk : Sub b.kin ALL) (hm : b.mov = 1 ∨ b.mov = 2)
    (hap : ∀ p, 1 ≤ p → p ≤ 32 → b.own.testBit (bitn p) = true → b.oth.testBit (bitn p) = false)
    (hki : ∀ p, 1 ≤ p → p ≤ 32 → b.kin.testBit (bitn p) = true → b.own.testBit (bitn p) = true ∨ b.oth.testBit (bitn p) = true) : sn (tol b) b.mov = b := by
  have key := fun p (h1 : 1 ≤ p) (h2 : p ≤ 32) => tolA_at ho ht h1 h2
  have e : ∀ c : Bm, c = ⟨c.own, c.oth, c.kin, c.mov⟩ := fun c => rfl
  rw [e b]
  show Bm.mk (mkT (isO (tol b) b.mov) 32) (mkT (isO (tol b) (3 - b.mov)) 32) (mkT (isK (tol b)) 32) b.mov = _
  have f1 : mkT (isO (tol b) b.mov) 32 = b.own := mk_eq ho (fun p h1 h2 => by
    unfold isO
    rw [key p h1 h2]
    unfold tolV
    have a1 := hap p h1 h2
    cases x1 : b.own.testBit (bitn p) <;> cases x2 : b.oth.testBit (bitn p) <;> cases x3 : b.kin.testBit (bitn p) <;> rcases hm with hm | hm <;> rw [hm] <;> first | rfl | (rw [x1, x2] at a1; exact absurd (a1 rfl) (by decide)))
  have f2 : mkT (isO (tol b) (3 - b.mov)) 32 = b.oth := mk_eq ht (fun p h1 h2 => by
    unfold isO
    rw [key p h1 h2]
    unfold tolV
    have a1 := hap p h1 h2
    cases x1 : b.own.testBit (bitn p) <;> cases x2 : b.oth.testBit (bitn p) <;> cases x3 : b.kin.testBit (bitn p) <;> rcases hm with hm | hm <;> rw [hm] <;> first | rfl | (rw [x1, x2] at a1; exact absurd (a1 rfl) (by decide)))
  have f3 : mkT (isK (tol b)) 32 = b.kin := mk_eq hk (fun p h1 h2 => by
    unfold isK
    rw [key p h1 h2]
    unfold tolV
    have a1 := hki p h1 h2
    cases x1 : b.own.testBit (bitn p) <;> cases x2 : b.oth.testBit (bitn p) <;> cases x3 : b.kin.testBit (bitn p) <;> rcases hm with hm | hm <;> rw [hm] <;> first | rfl | (rw [x1, x2, x3] at a1; exact absurd (a1 rfl) (by decide)))
  rw [f1, f2, f3]

theorem sn_doR {Z : List Int} {t : Nat} (hM : Mb Z t) {y : List Nat × List Nat} (hy : y ∈ wyN Z t) : sn (doR Z y.1) (3 - t) = afN Z t y := by
  have hW := wyN_ok hM hy
  have hf := wyN_free hy
  have ht : t = 1 ∨ t = 2 := by have := hM.tt; omega
  have hs := aft_sub (sn_ok hM) (W := y.1.map e2) (ov := mkO y.2) hW.subs.2.2.2.1
  have h0 : own3 (Z.getD (y.1.getD 0 0) 0) = t := by
    have := (mem_plc.1 hW.fst).2.2
    rw [headD_getDq] at this
    exact this
  rw [← tol_afN hM hy]
  refine sn_tol (b := afN Z t y) hs.1 hs.2.1 hs.2.2.1 hs.2.2.2 (fun p h1 h2 ha => ?_) (fun p h1 h2 hk => ?_)
  · obtain ⟨A, B, -⟩ := afN_bits hM hy h1 h2
    rw [A, Bool.and_eq_true] at ha
    rw [B]
    have ho : own3 (Z.getD p 0) = 3 - t := by simpa [isO] using ha.1
    have x1 : isO Z t p = false := by unfold isO; rw [ho]; rcases ht with rfl | rfl <;> rfl
    have x2 : decide (y.1.getD (y.1.length - 1) 0 = p) = false := by
      rw [decide_eq_false_iff_not]
      intro e
      rw [e] at hf
      rcases hf with hf | hf
      · rw [hf] at ho; rcases ht with rfl | rfl <;> simp [own3] at ho
      · rw [← hf, ho] at h0; omega
    rw [x1, x2]; rfl
  · obtain ⟨A, B, C⟩ := afN_bits hM hy h1 h2
    rw [C, Bool.or_eq_true] at hk
    rw [A, B]
    rcases hk with hk | hk
    · rw [Bool.and_eq_true] at hk
      have hz : Z.getD p 0 = 2 ∨ Z.getD p 0 = -2 := by simpa [isK] using hk.1
      have hc : (y.2.contains p || decide (y.1.getD 0 0 = p)) = false := by simpa using hk.2
      rw [Bool.or_eq_false_iff] at hc
      rw [hc.1, hc.2]
      unfold isO
      rcases hz with hz | hz <;> rw [hz] <;> rcases ht with rfl | rfl <;> simp [own3]
    · rw [Bool.and_eq_true] at hk
      right
      rw [hk.2, Bool.or_true]

end Go.Proofs.YtnbaangnpoblfaaDoor

namespace Go.Proofs.YtnbaangnpoblfaaDoor
open Go.RowKit

theorem count_swap (f f' : Nat → Bool) (a b : Nat) (hf : f a = true) (h : ∀ i, i ≠ b → f' i = true → f i = true ∧ i ≠ a) :
    ∀ k, (List.range k).countP f' + (if a < k then 1 else 0) ≤ (List.range k).countP f + (if b < k then 1 else 0)
  | 0 => by simp
  | k + 1 => by
    have ih := count_swap f f' a b hf h k
    rw [List.range_succ, List.countP_append, List.countP_append, List.countP_singleton, List.countP_singleton]
    have hk := h k
    by_cases ea : k = a
    · subst ea
      rw [hf]
      by_cases eb : k = b
      · subst eb
        rw [if_pos (show k < k + 1 by omega)]
        rw [if_neg (Nat.lt_irrefl k)] at ih
        rw [if_pos rfl]
        split <;> omega
      · have hn : f' k = false := by
          cases e : f' k with
          | false => rfl
          | true => exact absurd rfl (hk eb e).2
        rw [hn]
        rw [if_neg (Nat.lt_irrefl k)] at ih
        rw [if_pos (show k < k + 1 by omega)]
        by_cases eb2 : b < k
        · rw [if_pos eb2] at ih
          rw [if_pos (show b < k + 1 by omega)]
          simp; omega
        · rw [if_neg eb2] at ih
          rw [if_neg (show ¬ b < k + 1 by omega)]
          simp; omega
    · have ha : (a < k + 1) ↔ a < k := by omega
      by_cases eb : k = b
      · subst eb
        rw [if_neg (Nat.lt_irrefl k)] at ih
        rw [if_pos (show k < k + 1 by omega)]
        by_cases a2 : a < k
        · rw [if_pos a2] at ih
          rw [if_pos (ha.2 a2)]
          split <;> split <;> omega
        · rw [if_neg a2] at ih
          rw [if_neg (fun h => a2 (ha.1 h))]
          split <;> split <;> omega
      · have hb : (b < k + 1) ↔ b < k := by omega
        have hm : (if f' k = true then 1 else 0) ≤ (if f k = true then 1 else 0) := by
          cases e : f' k with
          | false => simp
          | true => rw [(hk eb e).1]; exact Nat.le_refl _
        have i1 : (if a < k + 1 then 1 else 0) = (if a < k then 1 else 0) := by simp only [ha]
        have i2 : (if b < k + 1 then 1 else 0) = (if b < k then 1 else 0) := by simp only [hb]
        rw [i1, i2]
        omega

theorem own3_cwn {t : Nat} {x : Int} (h : own3 x = t) (l : Nat) : own3 (cwn x l) = t := by
  unfold cwn
  split
  · rename_i hc
    rw [hc.1] at h
    rw [← h]; rfl
  · split
    · rename_i hc
      rw [hc.1] at h
      rw [← h]; rfl
    · exact h

theorem Mb_doR {Z : List Int} {t : Nat} (hM : Mb Z t) {y : List Nat × List Nat} (hy : y ∈ wyN Z t) : Mb (doR Z y.1) ((3 - t : Nat) : Int) := by
  have hW := wyN_ok hM hy
  have hD := wyN_legs hy
  have ht : t = 1 ∨ t = 2 := by have := hM.tt; omega
  have h2' := hW.two
  have r0 : 1 ≤ y.1.getD 0 0 ∧ y.1.getD 0 0 ≤ 32 := hW.rng _ (by simp [List.getD, show 0 < y.1.length by omega])
  have rl : 1 ≤ y.1.getD (y.1.length - 1) 0 ∧ y.1.getD (y.1.length - 1) 0 ≤ 32 := hW.rng _ (by simp [List.getD, show y.1.length - 1 < y.1.length by omega])
  have h0 : own3 (Z.getD (y.1.getD 0 0) 0) = t := by
    have := (mem_plc.1 hW.fst).2.2
    rw [headD_getDq] at this
    exact this
  have hat := fun p (hp : p ≤ 32) => doR_at (Z := Z) hM.len hD hW.rng hp
  have hlen := doR_len (Z := Z) hM.len hD hW.rng
  have hok0 := hM.ok (y.1.getD 0 0 - 1) (by omega)
  rw [show y.1.getD 0 0 - 1 + 1 = y.1.getD 0 0 by omega] at hok0
  generalize y.1.getD 0 0 = W0 at *
  generalize y.1.getD (y.1.length - 1) 0 = L at *
  generalize doR Z y.1 = R at *
  have cO : cn R (3 - t) 32 ≤ cn Z (3 - t) 32 := by
    unfold cn
    refine List.countP_mono_left (fun i hi hh => ?_)
    have hi' := List.mem_range.1 hi
    simp only [beq_iff_eq] at hh ⊢
    rw [hat (i + 1) (by omega)] at hh
    split at hh
    · rw [own3_cwn h0] at hh; omega
    · split at hh
      · have : own3 0 = 0 := rfl
        omega
      · exact hh
  have cM : cn R t 32 ≤ cn Z t 32 := by
    have h := count_swap (fun i => own3 (Z.getD (i + 1) 0) == t) (fun i => own3 (R.getD (i + 1) 0) == t) (W0 - 1) (L - 1) (by simp only [beq_iff_eq]; rw [show W0 - 1 + 1 = W0 by omega]; exact h0) (fun i hib hh => by
      simp only [beq_iff_eq] at hh ⊢
      by_cases h32 : i + 1 ≤ 32
      · rw [hat (i + 1) h32, if_neg (by omega)] at hh
        split at hh
        · have : own3 0 = 0 := rfl
          omega
        · rename_i hc
          exact ⟨hh, fun e => hc (Or.inl (by omega))⟩
      · have hz : R.getD (i + 1) 0 = 0 := by simp [List.getD, show ¬ i + 1 < R.length by omega]
        rw [hz] at hh
        have : own3 0 = 0 := rfl
        omega) 32
    rw [if_pos (by omega), if_pos (by omega)] at h
    exact Nat.le_of_add_le_add_right h
  refine ⟨hlen, ?_, by omega, fun i hi => ?_, ?_, ?_⟩
  · rw [hat 0 (by omega), if_neg (by omega)]
    split
    · rfl
    · exact hM.z0
  · rw [hat (i + 1) (by omega)]
    split
    · rename_i e
      rw [← e] at rl ⊢
      unfold okP at hok0 ⊢
      simp only [decide_eq_true_eq] at hok0 ⊢
      unfold cwn
      split
      · omega
      · split
        · omega
        · omega
    · split
      · rfl
      · exact hM.ok i hi
  · rcases ht with rfl | rfl
    · exact Nat.le_trans cM hM.c1
    · exact Nat.le_trans cO hM.c1
  · rcases ht with rfl | rfl
    · exact Nat.le_trans cO hM.c2
    · exact Nat.le_trans cM hM.c2

end Go.Proofs.YtnbaangnpoblfaaDoor
