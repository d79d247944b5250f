/-
  The document's ways are the program's. No conditions beyond those that each theorem bears.
-/
import Derived.Test.YtnbaangnpoblfaaDoorNs
namespace Go.Proofs.YtnbaangnpoblfaaDoor

/-- Is it crowned there? -/
def crw (x : Int) (q : Nat) : Bool := decide ((x = 1 ∧ q ≤ 4) ∨ (x = -1 ∧ 29 ≤ q))

theorem crw_up : ∀ d, d < 2 → ∀ q, q < 5 → nb d q = 0 := by decide +kernel
theorem crw_down : ∀ d, d < 4 → ∀ q, q < 33 → (¬ d < 2 ∧ 29 ≤ q → nb d q = 0) := by decide +kernel

section
variable (Z : List Int) (t : Nat)

/-- What one direction brings. -/
def rjB (rec : Nat → List Nat → List Nat → List (List Nat)) (p0 c : Nat) (W ov : List Nat) (d : Nat) : List (List Nat) :=
  match hopN Z t p0 c ov d with
  | none => []
  | some (q, m) => if (if crw (Z.getD p0 0) q = true then [] else rec q (W ++ [q]) (ov ++ [m])) = [] then [W ++ [q]] else (if crw (Z.getD p0 0) q = true then [] else rec q (W ++ [q]) (ov ++ [m]))

def rjN (p0 : Nat) : Nat → Nat → List Nat → List Nat → List (List Nat)
  | 0, _, _, _ => []
  | f + 1, c, W, ov => [0, 2, 1, 3].flatMap (rjB Z t (rjN p0 f) p0 c W ov)

def stR (p : Nat) : List (List Nat) := ([0, 2, 1, 3].filterMap (stpN Z p)).map (·.1)
def rJ : List (List Nat) := (plc Z t).foldl (fun L p => putsN L (rjN Z t p 13 p [p] [])) []
def rS : List (List Nat) := (plc Z t).foldl (fun L p => putsN L (stR Z p)) []
def rMv : List (List Nat) := if rJ Z t = [] then rS Z t else rJ Z t
/-- The ways. -/
def mvN : List (List Nat) := (wyN Z t).map (·.1)
end

/-- The fuel is enough. -/
structure Fu (Z : List Int) (t : Nat) (ov : List Nat) (f : Nat) : Prop where
  len : ov.length + f = 13
  nd : ov.Nodup
  own : ∀ m ∈ ov, 1 ≤ m ∧ m ≤ 32 ∧ own3 (Z.getD m 0) = 3 - t

theorem mkO_count : ∀ (ov : List Nat), ov.Nodup → (∀ m ∈ ov, 1 ≤ m ∧ m ≤ 32) → (bln (mkO ov) 64).length = ov.length := by
  intro ov
  refine rev_ind (P := fun ov => ov.Nodup → (∀ m ∈ ov, 1 ≤ m ∧ m ≤ 32) → (bln (mkO ov) 64).length = ov.length) ?_ ?_ ov
  · intro _ _; simp [mkO, bln]
  · intro s m ih hnd hm
    have hnd' := List.nodup_append.1 hnd
    have ih := ih hnd'.1 (fun x hx => hm x (by simp [hx]))
    have h1 := hm m (by simp)
    rw [mkO_snoc, show e2 m = 2 ^ bitn m from rfl, bln_or_one, if_pos (by have := bitn_lt h1.2; omega), ih, List.length_append, List.length_singleton]
    rw [tb_mkO s (fun x hx => (hm x (by simp [hx])).1) h1.1]
    have : m ∉ s := fun k => hnd'.2.2 m k m (by simp) rfl
    simpa using this

section
variable {Z : List Int} {t : Nat}

theorem Fu.pos {ov : List Nat} {f : Nat} (h : Fu Z t ov f) (hM : Mb Z t) : 1 ≤ f ∧ ov.length ≤ 12 := by
  have h1 := mkO_count ov h.nd (fun m hm => ⟨(h.own m hm).1, (h.own m hm).2.1⟩)
  have h2 : Sub (mkO ov) (sn Z t).oth := fun i hi => by
    have hA : ∃ m ∈ ov, bitn m = i := by
      revert hi
      refine rev_ind (P := fun ov => (mkO ov).testBit i = true → ∃ m ∈ ov, bitn m = i) ?_ ?_ ov
      · intro k; simp [mkO] at k
      · intro s m ih k
        rw [mkO_snoc, Nat.testBit_or, Bool.or_eq_true, tb_e2, decide_eq_true_eq] at k
        rcases k with k | k
        · obtain ⟨x, hx, e⟩ := ih k; exact ⟨x, by simp [hx], e⟩
        · exact ⟨m, by simp, k⟩
    obtain ⟨m, hm, rfl⟩ := hA
    obtain ⟨m1, m2, m3⟩ := h.own m hm
    rw [oth_bit m1 m2]
    unfold isO; simpa using m3
  have h3 := bln_sub h2 64
  have h4 := (sn_ok hM).few
  have h5 := h.len
  omega

theorem Fu.next {ov : List Nat} {f p0 c d q m : Nat} (h : Fu Z t ov (f + 1)) (hc : c ≤ 32) (hd : d < 4) (hh : hopN Z t p0 c ov d = some (q, m)) : Fu Z t (ov ++ [m]) f := by
  obtain ⟨_, k2, k3, k4, k5, k6, k7, _⟩ := hopN_some hh
  have hm : m ≤ 32 := by rw [k2]; exact nb_le hd hc
  have hl := h.len
  refine ⟨by rw [List.length_append, List.length_singleton]; omega, ?_, fun x hx => ?_⟩
  · rw [List.nodup_append]
    refine ⟨h.nd, by simp, fun a ha b hb e => ?_⟩
    rw [List.mem_singleton.1 hb] at e
    subst e
    have : a ∉ ov := by simpa using k6
    exact this ha
  · rcases List.mem_append.1 hx with k | k
    · exact h.own x k
    · rw [List.mem_singleton.1 k]; exact ⟨by omega, hm, k5⟩

theorem hop_crowned {p0 q d : Nat} {ov : List Nat} (hq : q ≤ 32) (hd : d < 4) (hc : crw (Z.getD p0 0) q = true) : hopN Z t p0 q ov d = none := by
  cases e : hopN Z t p0 q ov d with
  | none => rfl
  | some x =>
    exfalso
    obtain ⟨k1, k2, _, k4, _⟩ := hopN_some (q := x.1) (m := x.2) e
    unfold crw at hc
    unfold fwd at k1
    simp only [decide_eq_true_eq] at hc k1
    rcases hc with ⟨a, b⟩ | ⟨a, b⟩
    · have := crw_up d (by omega) q (by omega)
      omega
    · have := crw_down d hd q (by omega) ⟨by omega, b⟩
      omega

theorem rjN_none {p0 c : Nat} {W ov : List Nat} (f : Nat) (h : ∀ d, d < 4 → hopN Z t p0 c ov d = none) : rjN Z t p0 f c W ov = [] := by
  cases f with
  | zero => rfl
  | succ f =>
    rw [rjN]
    simp only [List.flatMap_cons, List.flatMap_nil, rjB, h 0 (by omega), h 1 (by omega), h 2 (by omega), h 3 (by omega), List.append_nil]

/-- The crown changes nothing. -/
theorem rjB_eq {p0 c f : Nat} {W ov : List Nat} {d q m : Nat} (hd : d < 4) (hc : c ≤ 32) (hh : hopN Z t p0 c ov d = some (q, m)) :
    rjB Z t (rjN Z t p0 f) p0 c W ov d = if rjN Z t p0 f q (W ++ [q]) (ov ++ [m]) = [] then [W ++ [q]] else rjN Z t p0 f q (W ++ [q]) (ov ++ [m]) := by
  unfold rjB
  rw [hh]
  dsimp only
  by_cases hcr : crw (Z.getD p0 0) q = true
  · obtain ⟨_, k2, k3, _⟩ := hopN_some hh
    have hq : q ≤ 32 := by rw [k3]; exact nb_le hd (nb_le hd hc)
    rw [if_pos hcr, rjN_none f (fun e he => hop_crowned hq he hcr)]
  · rw [if_neg hcr]

theorem mem_dirs {d : Nat} : d ∈ [0, 2, 1, 3] ↔ d < 4 := by simp; omega

theorem rj_jm (hM : Mb Z t) {p0 : Nat} : ∀ (f c : Nat) (W ov : List Nat), c ≤ 32 → Fu Z t ov f → (ov ≠ [] ∨ hopsN Z t p0 c ov ≠ []) →
    ∀ x, x ∈ (jmN Z t p0 f c W ov).map (·.1) ↔ (rjN Z t p0 f c W ov = [] ∧ x = W) ∨ x ∈ rjN Z t p0 f c W ov
  | 0, c, W, ov, hc, hF, _ => by have := (hF.pos hM).1; omega
  | f + 1, c, W, ov, hc, hF, hne => by
    intro x
    by_cases hn : hopsN Z t p0 c ov = []
    · have hno : ∀ d, d < 4 → hopN Z t p0 c ov d = none := fun d hd => by
        cases e : hopN Z t p0 c ov d with
        | none => rfl
        | some y => have := mem_hopsN.2 ⟨d, hd, e⟩; rw [hn] at this; cases this
      have hov : ov ≠ [] := by rcases hne with h | h; exact h; exact absurd hn h
      rw [rjN_none (f + 1) hno, jmN, hn, if_pos ⟨rfl, hov⟩]
      simp
    · have hrn : rjN Z t p0 (f + 1) c W ov ≠ [] := by
        obtain ⟨y, hy⟩ := List.exists_mem_of_ne_nil _ hn
        obtain ⟨d, hd, e⟩ := mem_hopsN.1 hy
        intro h0
        rw [rjN, List.flatMap_eq_nil_iff] at h0
        have := h0 d (mem_dirs.2 hd)
        rw [rjB_eq hd hc (q := y.1) (m := y.2) e] at this
        split at this
        · cases this
        · exact absurd this (by assumption)
      rw [jmN, if_neg (fun k => hn k.1), List.append_nil, List.map_flatMap, List.mem_flatMap]
      constructor
      · rintro ⟨y, hy, hx⟩
        right
        obtain ⟨d, hd, e⟩ := mem_hopsN.1 hy
        have hq := (hopsN_le hc hy).1
        have ih := (rj_jm hM (p0 := p0) f y.1 (W ++ [y.1]) (ov ++ [y.2]) hq (hF.next hc hd e) (Or.inl (by simp)) x).1 hx
        rw [rjN, List.mem_flatMap]
        refine ⟨d, mem_dirs.2 hd, ?_⟩
        rw [rjB_eq hd hc (q := y.1) (m := y.2) e]
        rcases ih with ⟨h0, rfl⟩ | h1
        · rw [if_pos h0]; simp
        · rw [if_neg (fun k => by rw [k] at h1; cases h1)]; exact h1
      · rintro (⟨h0, _⟩ | hx)
        · exact absurd h0 hrn
        · rw [rjN, List.mem_flatMap] at hx
          obtain ⟨d, hd', hx⟩ := hx
          have hd := mem_dirs.1 hd'
          cases e : hopN Z t p0 c ov d with
          | none => unfold rjB at hx; rw [e] at hx; cases hx
          | some y =>
            have hy := mem_hopsN.2 ⟨d, hd, e⟩
            have hq := (hopsN_le hc hy).1
            refine ⟨y, hy, (rj_jm hM (p0 := p0) f y.1 (W ++ [y.1]) (ov ++ [y.2]) hq (hF.next hc hd e) (Or.inl (by simp)) x).2 ?_⟩
            rw [rjB_eq hd hc (q := y.1) (m := y.2) e] at hx
            split at hx
            · rename_i h0
              rw [List.mem_singleton] at hx
              exact Or.inl ⟨h0, hx⟩
            · exact Or.inr hx

theorem fu_start : Fu Z t [] 13 := ⟨rfl, List.nodup_nil, fun m hm => by cases hm⟩

theorem root_jm (hM : Mb Z t) {p : Nat} (hp : p ≤ 32) (x : List Nat) : x ∈ (jmN Z t p 13 p [p] []).map (·.1) ↔ x ∈ rjN Z t p 13 p [p] [] := by
  by_cases hn : hopsN Z t p p [] = []
  · have hno : ∀ d, d < 4 → hopN Z t p p [] d = none := fun d hd => by
      cases e : hopN Z t p p [] d with
      | none => rfl
      | some y => have := mem_hopsN.2 ⟨d, hd, e⟩; rw [hn] at this; cases this
    rw [rjN_none 13 hno, jmN, hn, if_neg (fun k => k.2 rfl)]
    simp
  · rw [rj_jm hM 13 p [p] [] hp fu_start (Or.inr hn)]
    have hrn : rjN Z t p 13 p [p] [] ≠ [] := by
      obtain ⟨y, hy⟩ := List.exists_mem_of_ne_nil _ hn
      obtain ⟨d, hd, e⟩ := mem_hopsN.1 hy
      intro h0
      rw [rjN, List.flatMap_eq_nil_iff] at h0
      have := h0 d (mem_dirs.2 hd)
      rw [rjB_eq hd hp (q := y.1) (m := y.2) e] at this
      split at this
      · cases this
      · exact absurd this (by assumption)
    constructor
    · rintro (⟨h0, _⟩ | h)
      · exact absurd h0 hrn
      · exact h
    · exact Or.inr

theorem foldl_puts (g : Nat → List (List Nat)) : ∀ (ps : List Nat) (L : List (List Nat)), Srt L → Srt (ps.foldl (fun L p => putsN L (g p)) L) ∧ ∀ x, x ∈ ps.foldl (fun L p => putsN L (g p)) L ↔ x ∈ L ∨ ∃ p ∈ ps, x ∈ g p
  | [], L, h => ⟨h, fun x => by simp⟩
  | p :: ps, L, h => by
    obtain ⟨h1, h2⟩ := putsN_spec (g p) L h
    obtain ⟨h3, h4⟩ := foldl_puts g ps _ h1
    refine ⟨h3, fun x => ?_⟩
    rw [List.foldl_cons, h4, h2]
    constructor
    · rintro ((k | k) | ⟨q, hq, k⟩)
      · exact Or.inl k
      · exact Or.inr ⟨p, by simp, k⟩
      · exact Or.inr ⟨q, by simp [hq], k⟩
    · rintro (k | ⟨q, hq, k⟩)
      · exact Or.inl (Or.inl k)
      · rcases List.mem_cons.1 hq with e | e
        · subst e; exact Or.inl (Or.inr k)
        · exact Or.inr ⟨q, e, k⟩

theorem mem_stR {p : Nat} {x : List Nat} : x ∈ stR Z p ↔ x ∈ (stN Z p).map (·.1) := by
  unfold stR stN
  simp only [List.mem_map, List.mem_filterMap]
  constructor
  · rintro ⟨y, ⟨d, hd, e⟩, rfl⟩; exact ⟨y, ⟨d, by simp at hd ⊢; omega, e⟩, rfl⟩
  · rintro ⟨y, ⟨d, hd, e⟩, rfl⟩; exact ⟨y, ⟨d, by simp at hd ⊢; omega, e⟩, rfl⟩

theorem jmsN_iff : jmsN Z t = true ↔ rJ Z t ≠ [] := by
  obtain ⟨_, h2⟩ := foldl_puts (fun p => rjN Z t p 13 p [p] []) (plc Z t) [] List.Pairwise.nil
  unfold jmsN
  rw [List.any_eq_true]
  constructor
  · rintro ⟨p, hp, e⟩
    simp only [decide_eq_true_eq] at e
    have hp32 := (mem_plc.1 hp).1
    obtain ⟨y, hy⟩ := List.exists_mem_of_ne_nil _ e
    obtain ⟨d, hd, e2⟩ := mem_hopsN.1 hy
    have hne : rjN Z t p 13 p [p] [] ≠ [] := by
      intro h0
      rw [rjN, List.flatMap_eq_nil_iff] at h0
      have := h0 d (mem_dirs.2 hd)
      rw [rjB_eq hd hp32 (q := y.1) (m := y.2) e2] at this
      split at this
      · cases this
      · exact absurd this (by assumption)
    obtain ⟨x, hx⟩ := List.exists_mem_of_ne_nil _ hne
    intro h0
    have := (h2 x).2 (Or.inr ⟨p, hp, hx⟩)
    rw [show (plc Z t).foldl (fun L p => putsN L (rjN Z t p 13 p [p] [])) [] = rJ Z t from rfl, h0] at this
    cases this
  · intro hne
    obtain ⟨x, hx⟩ := List.exists_mem_of_ne_nil _ hne
    rcases (h2 x).1 hx with k | ⟨p, hp, k⟩
    · cases k
    · refine ⟨p, hp, ?_⟩
      simp only [decide_eq_true_eq]
      intro hn
      have hno : ∀ d, d < 4 → hopN Z t p p [] d = none := fun d hd => by
        cases e : hopN Z t p p [] d with
        | none => rfl
        | some y => have := mem_hopsN.2 ⟨d, hd, e⟩; rw [hn] at this; cases this
      rw [rjN_none 13 hno] at k
      cases k

/-- The document's ways are the program's. -/
theorem rMv_eq (hM : Mb Z t) : rMv Z t = mvN Z t := by
  have hs := wyN_sorted (Z := Z) (t := t)
  obtain ⟨j1, j2⟩ := foldl_puts (fun p => rjN Z t p 13 p [p] []) (plc Z t) [] List.Pairwise.nil
  obtain ⟨s1, s2⟩ := foldl_puts (fun p => stR Z p) (plc Z t) [] List.Pairwise.nil
  have hmem : ∀ x, x ∈ mvN Z t ↔ ∃ p ∈ plc Z t, x ∈ (way1N Z t p).map (·.1) := fun x => by
    unfold mvN wyN
    rw [List.map_flatMap, List.mem_flatMap]
  unfold rMv
  by_cases hj : jmsN Z t = true
  · rw [if_neg (jmsN_iff.1 hj)]
    refine Srt.unique j1 hs (fun x => ?_)
    rw [show x ∈ rJ Z t ↔ _ from j2 x, hmem]
    constructor
    · rintro (k | ⟨p, hp, k⟩)
      · cases k
      · exact ⟨p, hp, by unfold way1N; rw [if_pos hj]; exact (root_jm hM (mem_plc.1 hp).1 x).2 k⟩
    · rintro ⟨p, hp, k⟩
      unfold way1N at k
      rw [if_pos hj] at k
      exact Or.inr ⟨p, hp, (root_jm hM (mem_plc.1 hp).1 x).1 k⟩
  · have hr : rJ Z t = [] := by
      by_cases k : rJ Z t = []
      · exact k
      · exact absurd (jmsN_iff.2 k) hj
    rw [if_pos hr]
    refine Srt.unique s1 hs (fun x => ?_)
    rw [show x ∈ rS Z t ↔ _ from s2 x, hmem]
    constructor
    · rintro (k | ⟨p, hp, k⟩)
      · cases k
      · exact ⟨p, hp, by unfold way1N; rw [if_neg hj]; exact mem_stR.1 k⟩
    · rintro ⟨p, hp, k⟩
      unfold way1N at k
      rw [if_neg hj] at k
      exact Or.inr ⟨p, hp, mem_stR.2 k⟩

/-- What is true of each way. -/
structure WOk (Z : List Int) (t : Nat) (y : List Nat × List Nat) : Prop where
  rng : ∀ p ∈ y.1, 1 ≤ p ∧ p ≤ 32
  two : 2 ≤ y.1.length
  le : y.1.length ≤ 13
  own : ∀ m ∈ y.2, 1 ≤ m ∧ m ≤ 32 ∧ own3 (Z.getD m 0) = 3 - t
  nd : y.2.Nodup
  fst : y.1.headD 0 ∈ plc Z t

theorem jmN_ok (hM : Mb Z t) {p0 : Nat} (hp : p0 ∈ plc Z t) : ∀ (f c : Nat) (W ov : List Nat), c ≤ 32 → Fu Z t ov f → W.length = ov.length + 1 → (∀ p ∈ W, 1 ≤ p ∧ p ≤ 32) → W.headD 0 = p0 → ∀ y ∈ jmN Z t p0 f c W ov, WOk Z t y ∧ y.1.length = y.2.length + 1
  | 0, _, _, _, _, _, _, _, _, _, h => by cases h
  | f + 1, c, W, ov, hc, hF, hl, hW, hh, y, h => by
    rw [jmN, List.mem_append] at h
    rcases h with h | h
    · obtain ⟨x, hx, hy⟩ := List.mem_flatMap.1 h
      obtain ⟨d, hd, e⟩ := mem_hopsN.1 hx
      have hq := hopsN_le hc hx
      refine jmN_ok hM hp f x.1 (W ++ [x.1]) (ov ++ [x.2]) hq.1 (hF.next hc hd e) (by simp; omega) (fun p hp => ?_) ?_ y hy
      · rcases List.mem_append.1 hp with k | k
        · exact hW p k
        · rw [List.mem_singleton.1 k]; omega
      · cases W with
        | nil => simp at hl
        | cons z W => exact hh
    · split at h
      · rename_i k
        rw [List.mem_singleton] at h
        subst h
        have h12 := (hF.pos hM).2
        have h0 : 0 < ov.length := List.length_pos_iff.2 k.2
        exact ⟨⟨hW, by show 2 ≤ W.length; omega, by show W.length ≤ 13; omega, hF.own, hF.nd, by show W.headD 0 ∈ _; rw [hh]; exact hp⟩, hl⟩
      · cases h

theorem wyN_ok (hM : Mb Z t) {y : List Nat × List Nat} (hy : y ∈ wyN Z t) : WOk Z t y := by
  unfold wyN at hy
  obtain ⟨p, hp, h⟩ := List.mem_flatMap.1 hy
  obtain ⟨p2, p1, _⟩ := mem_plc.1 hp
  unfold way1N at h
  split at h
  · exact (jmN_ok hM hp 13 p [p] [] p2 fu_start rfl (fun q hq => by rw [List.mem_singleton.1 hq]; omega) rfl y h).1
  · unfold stN at h
    obtain ⟨d, hd, e⟩ := List.mem_filterMap.1 h
    unfold stpN at e
    split at e
    · rename_i k
      simp only [Option.some.injEq] at e
      subst e
      have := nb_le (d := d) (p := p) (by simp at hd; omega) p2
      refine ⟨fun q hq => ?_, by simp, by simp, (fun m hm => by cases hm), List.nodup_nil, hp⟩
      simp only [List.mem_cons, List.not_mem_nil, or_false] at hq
      rcases hq with rfl | rfl
      · omega
      · have := k.2.1; omega
    · cases e
end

end Go.Proofs.YtnbaangnpoblfaaDoor
