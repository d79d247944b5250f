/-
  Ways that jump: what stays true of them while they go on. No conditions beyond those that each theorem bears.
-/
import Derived.Test.YtnbaangnpoblfaaDoorDm
namespace Go.Proofs.YtnbaangnpoblfaaDoor

/-- One place at most. -/
def One (x : Nat) : Prop := ∀ i j, x.testBit i = true → x.testBit j = true → i = j

theorem One.pow {x : Nat} (h : One x) (hx : x ≠ 0) : ∃ k, x = 2 ^ k := by
  obtain ⟨k, hk⟩ := Nat.exists_testBit_of_ne_zero hx
  refine ⟨k, Nat.eq_of_testBit_eq fun i => ?_⟩
  rw [Nat.testBit_two_pow]
  by_cases e : k = i
  · subst e; simp [hk]
  · simp only [e, decide_false]
    cases hi : x.testBit i with
    | false => rfl
    | true => exact absurd (h k i hk hi) e
theorem one_pow (k : Nat) : One (2 ^ k) := fun i j hi hj => by
  rw [Nat.testBit_two_pow, decide_eq_true_eq] at hi hj; omega
theorem One.sub {x y : Nat} (h : One y) (hs : Sub x y) : One x := fun i j hi hj => h i j (hs i hi) (hs j hj)
theorem One.stp {x : Nat} (h : One x) (d : Nat) : One (stp d x) := fun i j hi hj => by
  rw [tb_stp, Bool.and_eq_true] at hi hj
  have hi := hi.2
  have hj := hj.2
  by_cases h0 : d = 0
  · rw [if_pos h0] at hi hj; have := h _ _ hi hj; omega
  · rw [if_neg h0] at hi hj
    by_cases h1 : d = 1
    · rw [if_pos h1] at hi hj; have := h _ _ hi hj; omega
    · rw [if_neg h1] at hi hj
      by_cases h2 : d = 2
      · rw [if_pos h2, Bool.and_eq_true, decide_eq_true_eq] at hi hj; have := h _ _ hi.2 hj.2; omega
      · rw [if_neg h2, Bool.and_eq_true, decide_eq_true_eq] at hi hj; have := h _ _ hi.2 hj.2; omega

theorem bln_or_one (x j : Nat) (hx : x.testBit j = false) : ∀ n, (bln (x ||| 2 ^ j) n).length = (bln x n).length + if j < n then 1 else 0
  | 0 => by simp [bln]
  | n + 1 => by
    have ih := bln_or_one x j hx n
    have hb : (x ||| 2 ^ j).testBit n = (x.testBit n || decide (j = n)) := by rw [Nat.testBit_or, Nat.testBit_two_pow]
    by_cases e : j = n
    · subst e
      rw [bln_yes (by rw [hb]; simp), bln_no hx, List.length_append, List.length_singleton, ih, if_neg (by omega), if_pos (by omega)]
    · cases hn : x.testBit n with
      | false =>
        rw [bln_no (by rw [hb, hn]; simp [e]), bln_no hn, ih]
        congr 1
        by_cases h : j < n
        · rw [if_pos h, if_pos (by omega)]
        · rw [if_neg h, if_neg (by omega)]
      | true =>
        rw [bln_yes (by rw [hb, hn]; simp), bln_yes hn, List.length_append, List.length_append, ih, List.length_singleton]
        have : (if j < n + 1 then 1 else 0) = (if j < n then 1 else 0) := by
          by_cases h : j < n
          · rw [if_pos h, if_pos (by omega)]
          · rw [if_neg h, if_neg (by omega)]
        omega

theorem bln_sub {x y : Nat} (h : Sub x y) : ∀ n, (bln x n).length ≤ (bln y n).length
  | 0 => by simp [bln]
  | n + 1 => by
    have ih := bln_sub h n
    cases hx : x.testBit n with
    | false =>
      rw [bln_no hx]
      exact Nat.le_trans ih (bln_pre (Nat.le_succ n)).length_le
    | true =>
      rw [bln_yes hx, bln_yes (h n hx), List.length_append, List.length_append]
      exact Nat.add_le_add_right ih _

/-- What stays true of a way that jumps. -/
structure JI (b : Bm) (W : List Nat) (ov f : Nat) : Prop where
  len : W.length + f = 14
  pos : 1 ≤ W.length
  cnt : (bln ov 64).length + 1 = W.length
  sub : Sub ov b.oth
  fi : Sub (W.headD 0) ALL
  la : Sub (W.getLastD 0) ALL
  one : One (W.getLastD 0)

theorem JI.le {b : Bm} {W : List Nat} {ov f : Nat} (h : JI b W ov f) (hb : BOk b) : W.length ≤ 13 ∧ 1 ≤ f := by
  have h1 := bln_sub h.sub 64
  have := hb.few
  have := h.cnt
  have := h.len
  omega

theorem JI.ovA {b : Bm} {W : List Nat} {ov f : Nat} (h : JI b W ov f) (hb : BOk b) : Sub ov ALL := h.sub.trans hb.oth

theorem emp_sub (b : Bm) : Sub b.emp ALL := Sub.anot (Sub.refl _)

/-- The piece that is jumped over, and where the way comes to. -/
def mid (b : Bm) (la ov d : Nat) : Nat := anot (stp d la &&& b.oth) ov
def tgt (b : Bm) (fi m d : Nat) : Nat := stp d m &&& (b.emp ||| fi)

theorem hop_eq (b : Bm) (fi la ov d : Nat) : hop b fi la ov d = if fi &&& b.goe d = 0 then none else if tgt b fi (mid b la ov d) d = 0 then none else some (tgt b fi (mid b la ov d) d, mid b la ov d) := rfl

theorem JI.next {b : Bm} {W : List Nat} {ov f : Nat} (h : JI b W ov (f + 1)) (hb : BOk b) (d : Nat) (ht : tgt b (W.headD 0) (mid b (W.getLastD 0) ov d) d ≠ 0) :
    JI b (W ++ [tgt b (W.headD 0) (mid b (W.getLastD 0) ov d) d]) (ov ||| mid b (W.getLastD 0) ov d) f := by
  have hm1 : One (mid b (W.getLastD 0) ov d) := (h.one.stp d).sub (Sub.anot (Sub.and_left (Sub.refl _)))
  have hmS : Sub (mid b (W.getLastD 0) ov d) b.oth := Sub.anot (Sub.and_right (Sub.refl _))
  have hm0 : mid b (W.getLastD 0) ov d ≠ 0 := by
    intro e
    apply ht
    unfold tgt
    rw [e]
    have : stp d 0 = 0 := by unfold stp; simp
    rw [this]; simp
  obtain ⟨k, hk⟩ := hm1.pow hm0
  have hkb : (mid b (W.getLastD 0) ov d).testBit k = true := by rw [hk, Nat.testBit_two_pow]; simp
  have hov : ov.testBit k = false := by
    have : (anot (stp d (W.getLastD 0) &&& b.oth) ov).testBit k = true := hkb
    rw [tb_anot, Bool.and_eq_true] at this
    simpa using this.2
  have hk64 : k < 64 := by
    have h36 := (hmS.trans hb.oth).lt
    rw [hk] at h36
    have := (Nat.pow_lt_pow_iff_right (a := 2) (by omega)).1 h36
    omega
  have htS : Sub (tgt b (W.headD 0) (mid b (W.getLastD 0) ov d) d) ALL := Sub.and_left (Sub.stp d _)
  have hW : W ≠ [] := by intro e; have := h.pos; rw [e] at this; simp at this
  have hhd : (W ++ [tgt b (W.headD 0) (mid b (W.getLastD 0) ov d) d]).headD 0 = W.headD 0 := by
    cases W with
    | nil => exact absurd rfl hW
    | cons x W => rfl
  have hl := h.len
  refine ⟨by rw [List.length_append, List.length_singleton]; omega, by rw [List.length_append, List.length_singleton]; omega, ?_, h.sub.or hmS, by rw [hhd]; exact h.fi, by simpa using htS, ?_⟩
  · rw [List.length_append, List.length_singleton, hk, bln_or_one ov k hov, if_pos hk64, h.cnt]
  · rw [List.getLastD_concat]
    exact (hm1.stp d).sub (Sub.and_left (Sub.refl _))

/-- The leaps in the first so many directions. -/
def hopsT (b : Bm) (fi la ov k : Nat) : List (Nat × Nat) := (List.range k).filterMap (hop b fi la ov)
theorem hops_four (b : Bm) (fi la ov : Nat) : hops b fi la ov = hopsT b fi la ov 4 := rfl
theorem hopsT_zero (b : Bm) (fi la ov : Nat) : hopsT b fi la ov 0 = [] := rfl
theorem hopsT_no {b : Bm} {fi la ov k : Nat} (h : hop b fi la ov k = none) : hopsT b fi la ov (k + 1) = hopsT b fi la ov k := by
  unfold hopsT; rw [List.range_succ, List.filterMap_append]; simp [h]
theorem hopsT_yes {b : Bm} {fi la ov k : Nat} {x : Nat × Nat} (h : hop b fi la ov k = some x) : hopsT b fi la ov (k + 1) = hopsT b fi la ov k ++ [x] := by
  unfold hopsT; rw [List.range_succ, List.filterMap_append]; simp [h]
theorem hopsT_pre {b : Bm} {fi la ov : Nat} {i j : Nat} (h : i ≤ j) : hopsT b fi la ov i <+: hopsT b fi la ov j := by
  induction j with
  | zero => obtain rfl : i = 0 := by omega
            exact List.prefix_refl _
  | succ j ih =>
    by_cases e : i = j + 1
    · subst e; exact List.prefix_refl _
    · refine (ih (by omega)).trans ?_
      cases hh : hop b fi la ov j with
      | none => rw [hopsT_no hh]; exact List.prefix_refl _
      | some x => rw [hopsT_yes hh]; exact List.prefix_append _ _

theorem flatMap_pre {α β : Type} {l m : List α} (g : α → List β) (h : l <+: m) : l.flatMap g <+: m.flatMap g := by
  obtain ⟨t, rfl⟩ := h
  rw [List.flatMap_append]
  exact List.prefix_append _ _

/-- What comes of the first so many directions. -/
def jmT (b : Bm) (f : Nat) (W : List Nat) (ov k : Nat) : List Wy := (hopsT b (W.headD 0) (W.getLastD 0) ov k).flatMap fun h => jmp b f (W ++ [h.1]) (ov ||| h.2)
theorem jmT_zero (b : Bm) (f : Nat) (W : List Nat) (ov : Nat) : jmT b f W ov 0 = [] := rfl
theorem jmT_no {b : Bm} {f : Nat} {W : List Nat} {ov k : Nat} (h : hop b (W.headD 0) (W.getLastD 0) ov k = none) : jmT b f W ov (k + 1) = jmT b f W ov k := by
  unfold jmT; rw [hopsT_no h]
theorem jmT_yes {b : Bm} {f : Nat} {W : List Nat} {ov k : Nat} {x : Nat × Nat} (h : hop b (W.headD 0) (W.getLastD 0) ov k = some x) : jmT b f W ov (k + 1) = jmT b f W ov k ++ jmp b f (W ++ [x.1]) (ov ||| x.2) := by
  unfold jmT; rw [hopsT_yes h, List.flatMap_append]; simp
theorem jmp_succ (b : Bm) (f : Nat) (W : List Nat) (ov : Nat) : jmp b (f + 1) W ov = jmT b f W ov 4 ++ (if hopsT b (W.headD 0) (W.getLastD 0) ov 4 = [] ∧ ov ≠ 0 then [(W, ov)] else []) := by
  rw [jmp, hops_four]; rfl
theorem jmT_pre {b : Bm} {f : Nat} {W : List Nat} {ov k : Nat} (h : k ≤ 4) : jmT b f W ov k <+: jmp b (f + 1) W ov := by
  rw [jmp_succ]
  exact (flatMap_pre _ (hopsT_pre h)).trans (List.prefix_append _ _)

/-- No leap so far. -/
def noH (b : Bm) (fi la ov k : Nat) : Bool := decide (hopsT b fi la ov k = [])
theorem noH_zero (b : Bm) (fi la ov : Nat) : noH b fi la ov 0 = true := rfl
theorem noH_no {b : Bm} {fi la ov k : Nat} (h : hop b fi la ov k = none) : noH b fi la ov (k + 1) = noH b fi la ov k := by unfold noH; rw [hopsT_no h]
theorem noH_yes {b : Bm} {fi la ov k : Nat} {x : Nat × Nat} (h : hop b fi la ov k = some x) : noH b fi la ov (k + 1) = false := by unfold noH; rw [hopsT_yes h]; simp

end Go.Proofs.YtnbaangnpoblfaaDoor
