/-
  All hands by class are counted as the reference counts them, by falling rows of ranks. No conditions beyond those that each theorem bears.
-/
import Derived.Test.YtdhacmcdbpojlaaCmb
import Derived.Test.YtdhacmcdbpojlaaCountSum
import Derived.Test.YtdhacmcdbpojlaaMath2
namespace Go.Proofs.Ytdhacmcdbpojlaa
open Go.RowKit Go.Shelf

/-- The class of a hand of these ranks, a flush or not. -/
def clsK (fl : Bool) (t : List Nat) : Nat := refF fl (mnyR t) / 371293

theorem comb_sub : ∀ (l : List Nat) (k : Nat) (s : List Nat), s ∈ comb k l → s.Sublist l := by
  intro l
  induction l with
  | nil =>
    intro k s hs
    cases k with
    | zero => simp [comb] at hs; subst hs; exact List.nil_sublist _
    | succ k => simp [comb] at hs
  | cons y l ih =>
    intro k s hs
    cases k with
    | zero => simp [comb] at hs; subst hs; exact List.nil_sublist _
    | succ k =>
      rw [comb, List.mem_append] at hs
      rcases hs with hs | hs
      · obtain ⟨t, ht, rfl⟩ := List.mem_map.1 hs
        exact (ih k t ht).cons_cons y
      · exact (ih (k + 1) s hs).cons y

theorem count_sum {α : Type} (f : α → Nat) (c : Nat) : ∀ (l : List α), (l.map f).count c = (l.map (fun x => one (f x == c))).sum := by
  intro l
  induction l with
  | nil => rfl
  | cons a l ih =>
    rw [List.map_cons, List.map_cons, List.sum_cons, List.count_cons, ih, one]
    omega

theorem flB_flN (a b c d e : Nat) : flB [a, b, c, d, e] = flN a b c d e := by
  simp only [flB, suitB, flN, List.all_cons, List.all_nil, Bool.and_true]
  show (a % 4 == a % 4 && (b % 4 == a % 4 && (c % 4 == a % 4 && (d % 4 == a % 4 && e % 4 == a % 4)))) = _
  rw [Bool.eq_iff_iff]
  simp

theorem cnt_rows (c : Nat) : cntC ((comb 5 (List.range 52)).map (pick (List.range 52))) c = fs 13 5 (addC clsK c) := by
  rw [← hands_rows clsK (fun f s t h => by unfold clsK; rw [mnyR_perm h]) c]
  unfold cntC sm
  rw [List.map_map, count_sum]
  apply sum_congr
  intro t ht
  obtain ⟨hl, hm⟩ := comb_mem _ _ _ ht
  have hlt : ∀ x ∈ t, x < 52 := fun x hx => List.mem_range.1 (hm x hx)
  have hnd : t.Nodup := (comb_sub _ _ _ ht).nodup List.nodup_range
  rw [Function.comp_apply, pick_range 52 t hlt]
  match t, hl with
  | [a, b, c', d, e], _ =>
    obtain ⟨h1, _⟩ := valN_ref a b c' d e hlt hnd
    have e1 : valL [a, b, c', d, e] = valN a b c' d e := rfl
    have e2 : mny [a, b, c', d, e] = mnyR ([a, b, c', d, e].map (· / 4)) := rfl
    rw [e1, h1, flB_flN, e2]
    rfl

/-- So many ranks below n are there. -/
def unl : Nat → List Nat → Nat
  | 0, _ => 0
  | n + 1, t => unl n t + (if 0 < t.count n then 1 else 0)
def cs : Nat → List Nat → Nat
  | 0, _ => 0
  | n + 1, t => cs n t + t.count n

theorem cs_nil (n : Nat) : cs n [] = 0 := by
  induction n with
  | zero => rfl
  | succ n ih => rw [cs, ih]; rfl

theorem cs_cons (x : Nat) (t : List Nat) : ∀ n, cs n (x :: t) = cs n t + if x < n then 1 else 0 := by
  intro n
  induction n with
  | zero => rfl
  | succ n ih =>
    rw [cs, cs, ih, List.count_cons]
    by_cases e : x = n
    · subst e; simp; omega
    · have h1 : (x == n) = false := by simpa using e
      rw [h1]
      simp only [Bool.false_eq_true, if_false]
      split <;> split <;> omega

theorem cs_all (t : List Nat) (h : ∀ x ∈ t, x < 13) : cs 13 t = t.length := by
  induction t with
  | nil => rw [cs_nil]; rfl
  | cons x t ih =>
    rw [cs_cons, ih (fun y hy => h y (by simp [hy])), if_pos (h x (by simp)), List.length_cons]

theorem unl_le (t : List Nat) : ∀ n, unl n t ≤ cs n t := by
  intro n
  induction n with
  | zero => exact Nat.le_refl _
  | succ n ih => rw [unl, cs]; split <;> omega

theorem unl_bd (t : List Nat) : ∀ n, unl n t ≤ n := by
  intro n
  induction n with
  | zero => exact Nat.le_refl _
  | succ n ih => rw [unl]; split <;> omega

theorem unl_one (t : List Nat) : ∀ n, unl n t = cs n t ↔ ∀ r, r < n → t.count r ≤ 1 := by
  intro n
  induction n with
  | zero => exact ⟨fun _ r hr => by omega, fun _ => rfl⟩
  | succ n ih =>
    have hle := unl_le t n
    rw [unl, cs]
    constructor
    · intro h r hr
      have h1 : unl n t = cs n t := by split at h <;> omega
      by_cases e : r = n
      · subst e; split at h <;> omega
      · exact ih.1 h1 r (by omega)
    · intro h
      have h1 := ih.2 (fun r hr => h r (by omega))
      have h2 := h n (by omega)
      split <;> omega

theorem unl_nodup (t : List Nat) (h5 : t.length = 5) (hb : ∀ x ∈ t, x < 13) : unl 13 t = 5 ↔ t.Nodup := by
  rw [← h5, ← cs_all t hb, unl_one, List.nodup_iff_count]
  constructor
  · intro h a
    by_cases ha : a < 13
    · exact h a ha
    · rw [List.count_eq_zero.2 (fun hm => ha (hb a hm))]; omega
  · intro h r _; exact h r

theorem wp_zero (t : List Nat) (r : Nat) (hr : 4 < t.count r) : ∀ n, r < n → wpN n t = 0 := by
  intro n
  induction n with
  | zero => intro h; omega
  | succ n ih =>
    intro h
    rw [wpN]
    by_cases e : r = n
    · subst e
      have : c4 (t.count r) = 0 := by
        generalize t.count r = x at hr
        match x, hr with
        | y + 5, _ => simp [c4]
      rw [this, Nat.mul_zero]
    · rw [ih (by omega), Nat.zero_mul]

theorem wp_counts (t : List Nat) (n : Nat) (h : ¬ wpN n t = 0) : ∀ r, r < n → t.count r ≤ 4 := by
  intro r hr
  by_cases e : 4 < t.count r
  · exact absurd (wp_zero t r e n hr) h
  · omega

theorem valF_lt (fl : Bool) (ws : List Nat) (m : Nat) : valF fl (stepS ws 5).2 (stepS ws 5).1 m < 3341637 := by
  have hl := stepS_len ws 5
  have hb := stepS_lt ws 5
  generalize (stepS ws 5).2 = sg at hl hb
  generalize (stepS ws 5).1 = n
  have h0 : sg.getD 0 0 < 13 := hb _ (by simp [List.getD, hl])
  have ht := topS_lt (sg.getD 0 0) (sg.getD 1 0) (sg.getD 4 0) h0
  have key : ∀ cl l, cl ≤ 8 → l.length = 5 → (∀ x ∈ l, x < 13) → digits cl l < 3341637 := by
    intro cl l h1 h2 h3
    have h4 := digs_lt cl l h3
    rw [h2] at h4
    have h5 : (cl + 1) * 13 ^ 5 ≤ 9 * 13 ^ 5 := Nat.mul_le_mul_right _ (by omega)
    omega
  unfold valF
  simp only
  split
  · split
    · exact key _ _ (byLine_le _ _) rfl (by intro x hx; simp only [List.mem_cons, List.not_mem_nil, or_false] at hx; rcases hx with h | h | h | h | h <;> omega)
    · exact key _ _ (byLine_le _ _) hl hb
  · exact key _ _ (Nat.le_trans (byTimes_le _ _) (by omega)) hl hb

/-- What a row of ranks, none five times, is good for. -/
theorem row_facts (t : List Nat) (h5 : t.length = 5) (hb : ∀ x ∈ t, x < 13) (hc : ∀ r, r < 13 → t.count r ≤ 4) :
    GoodT (mnyR t) ∧ refF false (mnyR t) < 3341637 ∧ (t.Nodup → refF true (mnyR t) < 3341637) := by
  have hp : (isort t).Perm t := isort_perm t
  have hl : (isort t).length = 5 := by rw [isort_length, h5]
  have hck := checkSorted (isort t) hl (isort_sorted t) (fun x hx => hb x (hp.mem_iff.1 hx))
  have hn5 : ¬ (isort t).count ((isort t).getD 0 0) = 5 := by
    rw [hp.count_eq]
    have hm : (isort t).getD 0 0 ∈ isort t := by
      generalize isort t = s at hl
      cases s with
      | nil => simp at hl
      | cons x s => simp
    have := hc _ (hb _ (hp.mem_iff.1 hm))
    omega
  unfold checkR at hck
  simp only [hn5, decide_false, Bool.false_or, Bool.and_eq_true, decide_eq_true_eq, Bool.or_eq_true, Bool.not_eq_true'] at hck
  obtain ⟨⟨hg, hf⟩, ht⟩ := hck
  rw [mnyR_perm hp] at hg hf ht
  refine ⟨good_of hg, ?_, fun hnd => ?_⟩
  · rw [← hf]; exact valF_lt _ _ _
  · rcases ht with ht | ht
    · have := (distB_nodup (isort t)).2 (hp.nodup_iff.2 hnd)
      rw [ht] at this
      simp at this
    · rw [← ht]; exact valF_lt _ _ _

/-- One number more. -/
def upC (c v : Nat) (O : List Nat) : List Nat := O.set c (O.getD c 0 + v)
/-- What a row of ranks does to the counts. -/
def leafUp (t : List Nat) (O : List Nat) : List Nat :=
  if wpN 13 t = 0 then O else if unl 13 t = 5 then upC (clsK true t) 4 (upC (clsK false t) (wpN 13 t - 4) O) else upC (clsK false t) (wpN 13 t) O

theorem upC_len (c v : Nat) (O : List Nat) : (upC c v O).length = O.length := by simp [upC]
theorem leaf_len (t O : List Nat) : (leafUp t O).length = O.length := by
  unfold leafUp
  split
  · rfl
  · split
    · rw [upC_len, upC_len]
    · rw [upC_len]

theorem upC_get (c v : Nat) (O : List Nat) (hc : c < O.length) (x : Nat) : (upC c v O).getD x 0 = O.getD x 0 + v * one (c == x) := by
  rw [upC, getD_setN _ _ _ _ hc]
  by_cases e : x = c
  · subst e; simp [one]
  · rw [if_neg e]
    have : (c == x) = false := by simp; omega
    simp [one, this]

theorem leaf_get (t O : List Nat) (h5 : t.length = 5) (hb : ∀ x ∈ t, x < 13) (hO : O.length = 9) (x : Nat) : (leafUp t O).getD x 0 = O.getD x 0 + addC clsK x t := by
  unfold leafUp addC
  by_cases hz : wpN 13 t = 0
  · rw [if_pos hz]
    by_cases hn : t.Nodup
    · exfalso
      have := wp_pos t 13 (fun r _ => Nat.le_trans (count_le_one t hn r) (by omega))
      omega
    · rw [if_neg hn, hz]; simp
  · rw [if_neg hz]
    obtain ⟨_, h1, h2⟩ := row_facts t h5 hb (wp_counts t 13 hz)
    have k1 : clsK false t < 9 := by unfold clsK; omega
    by_cases hn : t.Nodup
    · have k2 : clsK true t < 9 := by have := h2 hn; unfold clsK; omega
      rw [if_pos ((unl_nodup t h5 hb).2 hn), if_pos hn, upC_get _ _ _ (by rw [upC_len]; omega), upC_get _ _ _ (by omega)]
      omega
    · rw [if_neg (fun h => hn ((unl_nodup t h5 hb).1 h)), if_neg hn, upC_get _ _ _ (by omega)]

theorem addC_le (x : Nat) (t : List Nat) : addC clsK x t ≤ 13060694016 := by
  have h := wp_le t 13
  have h6 : (6 : Nat) ^ 13 = 13060694016 := by decide
  rw [h6] at h
  unfold addC
  have o : ∀ b, one b ≤ 1 := by intro b; cases b <;> simp [one]
  have o1 := Nat.mul_le_mul_left (wpN 13 t - 4) (o (clsK false t == x))
  have o2 := Nat.mul_le_mul_left (wpN 13 t) (o (clsK false t == x))
  have o3 := o (clsK true t == x)
  split <;> omega

/-- What rows that go on from the ranks do to the counts. -/
def foldUp (rs : List Nat) (rows : List (List Nat)) (O : List Nat) : List Nat := rows.foldl (fun O t => leafUp (rs ++ t) O) O

theorem fold_cat (rs : List Nat) (a b : List (List Nat)) (O : List Nat) : foldUp rs (a ++ b) O = foldUp rs b (foldUp rs a O) := by simp [foldUp]
theorem fold_map (rs : List Nat) (r : Nat) : ∀ (a : List (List Nat)) (O : List Nat), foldUp rs (a.map (r :: ·)) O = foldUp (rs ++ [r]) a O := by
  intro a
  induction a with
  | nil => intro O; rfl
  | cons t a ih =>
    intro O
    have e : rs ++ r :: t = (rs ++ [r]) ++ t := by simp
    have := ih (leafUp (rs ++ r :: t) O)
    rw [e] at this
    simp only [foldUp, List.map_cons, List.foldl_cons] at this ⊢
    rw [e]
    exact this

theorem fold_len (rs : List Nat) : ∀ (a : List (List Nat)) (O : List Nat), (foldUp rs a O).length = O.length := by
  intro a
  induction a with
  | nil => intro O; rfl
  | cons t a ih => intro O; show (foldUp rs a (leafUp (rs ++ t) O)).length = _; rw [ih, leaf_len]

theorem fold_get (rs : List Nat) : ∀ (a : List (List Nat)) (O : List Nat), O.length = 9 → (∀ t ∈ a, (rs ++ t).length = 5 ∧ ∀ x ∈ rs ++ t, x < 13) → ∀ x, (foldUp rs a O).getD x 0 = O.getD x 0 + (a.map (fun t => addC clsK x (rs ++ t))).sum := by
  intro a
  induction a with
  | nil => intro O _ _ x; rfl
  | cons t a ih =>
    intro O hO ha x
    show (foldUp rs a (leafUp (rs ++ t) O)).getD x 0 = _
    rw [ih _ (by rw [leaf_len, hO]) (fun s hs => ha s (by simp [hs])) x, leaf_get _ _ (ha t (by simp)).1 (ha t (by simp)).2 hO, List.map_cons, List.sum_cons]
    omega

theorem fold_le (rs : List Nat) (a : List (List Nat)) (O : List Nat) (hO : O.length = 9) (ha : ∀ t ∈ a, (rs ++ t).length = 5 ∧ ∀ x ∈ rs ++ t, x < 13) (x : Nat) : (foldUp rs a O).getD x 0 ≤ O.getD x 0 + a.length * 13060694016 := by
  rw [fold_get rs a O hO ha x]
  have : (a.map (fun t => addC clsK x (rs ++ t))).sum ≤ a.length * 13060694016 := by
    clear ha
    induction a with
    | nil => simp
    | cons t a ih =>
      rw [List.map_cons, List.sum_cons, List.length_cons]
      have := addC_le x (rs ++ t)
      omega
  omega

/-- The reference's counts are those of all hands. -/
theorem fold_all (c : Nat) : (foldUp [] (fr 13 5) (List.replicate 9 0)).getD c 0 = cntC ((comb 5 (List.range 52)).map (pick (List.range 52))) c := by
  rw [cnt_rows, fold_get [] _ _ rfl (fun t ht => ⟨(fr_mem _ _ t ht).1, (fr_mem _ _ t ht).2⟩), rep0, Nat.zero_add]
  rfl

theorem fr_many : (fr 13 5).length = 6188 := by decide +kernel

end Go.Proofs.Ytdhacmcdbpojlaa
