/-
  Draughts: a board turned round has the same ways. No conditions beyond those that each theorem bears.
-/
import Derived.Test.YtnbaangnpoblfaaDoorNr
namespace Go.Proofs.YtnbaangnpoblfaaDoor

def upL (Z : List Int) : List Int := 0 :: ((List.range 32).map fun i => -(Z.getD (32 - i) 0))
theorem upL_len (Z : List Int) : (upL Z).length = 33 := by simp [upL]
theorem upL_zero (Z : List Int) : (upL Z).getD 0 0 = 0 := rfl
theorem upL_at (Z : List Int) {p : Nat} (h1 : 1 ≤ p) (h2 : p ≤ 32) : (upL Z).getD p 0 = -(Z.getD (33 - p) 0) := by
  obtain ⟨q, rfl⟩ : ∃ q, p = q + 1 := ⟨p - 1, by omega⟩
  have hq : q < 32 := by omega
  unfold upL
  rw [List.getD_cons_succ]
  simp only [List.getD, List.getElem?_map, List.getElem?_range hq, Option.map_some, Option.getD_some]
  rw [show 33 - (q + 1) = 32 - q by omega]
theorem upL_up (Z : List Int) (hl : Z.length = 33) (h0 : Z.getD 0 0 = 0) : upL (upL Z) = Z := by
  apply List.ext_getElem?
  intro i
  by_cases hi : i < 33
  · have e1 : (upL (upL Z))[i]? = some ((upL (upL Z)).getD i 0) := by simp [List.getD, upL_len, hi]
    have e2 : Z[i]? = some (Z.getD i 0) := by simp [List.getD, hl, hi]
    rw [e1, e2]
    by_cases hz : i = 0
    · subst hz; rw [h0]; rfl
    · rw [upL_at _ (by omega) (by omega), upL_at _ (by omega) (by omega), show 33 - (33 - i) = i by omega]; simp
  · rw [List.getElem?_eq_none (by rw [upL_len]; omega), List.getElem?_eq_none (by omega)]

theorem own3_neg (x : Int) : own3 (-x) = if own3 x = 0 then 0 else 3 - own3 x := by
  rcases own3_cases x with ⟨e, h⟩ | ⟨e, h⟩ | ⟨e, h⟩ <;> rw [e] <;> unfold own3
  · rw [if_neg (by omega), if_pos (by omega)]; rfl
  · rw [if_pos (by omega)]; rfl
  · rw [if_neg (by omega), if_neg (by omega)]; rfl
theorem own3_turn {x : Int} {t : Nat} (ht : t = 1 ∨ t = 2) : (own3 (-x) = 3 - t) ↔ own3 x = t := by
  rw [own3_neg]
  rcases own3_cases x with ⟨e, h⟩ | ⟨e, h⟩ | ⟨e, h⟩ <;> rw [e] <;> rcases ht with rfl | rfl <;> simp
theorem fwd_neg (x : Int) {d : Nat} (hd : d < 4) : fwd (-x) (3 - d) = fwd x d := by
  unfold fwd
  rw [decide_eq_decide]
  omega

theorem Mb_up {Z : List Int} {t : Nat} (h : Mb Z t) : Mb (upL Z) ((3 - t : Nat) : Int) := by
  have ht : t = 1 ∨ t = 2 := by have := h.tt; omega
  have hat : ∀ i, i < 32 → (upL Z).getD (i + 1) 0 = -(Z.getD (31 - i + 1) 0) := fun i hi => by
    rw [upL_at Z (by omega) (by omega), show 33 - (i + 1) = 31 - i + 1 by omega]
  have hrev : (List.range 32).map (fun i => 31 - i) = (List.range 32).reverse := by decide
  have hcn : ∀ o, (o = 1 ∨ o = 2) → cn (upL Z) (3 - o) 32 = cn Z o 32 := fun o ho => by
    unfold cn
    have h1 : (List.range 32).countP (fun i => own3 ((upL Z).getD (i + 1) 0) == 3 - o) = (List.range 32).countP ((fun i => own3 (Z.getD (i + 1) 0) == o) ∘ fun i => 31 - i) := by
      apply List.countP_congr
      intro i hi
      have hi := List.mem_range.1 hi
      simp only [Function.comp, beq_iff_eq]
      rw [hat i hi]
      exact own3_turn ho
    rw [h1, ← List.countP_map, hrev, List.countP_reverse]
  refine ⟨upL_len Z, rfl, by omega, ?_, ?_, ?_⟩
  · intro i hi
    have h1 := h.ok (31 - i) (by omega)
    rw [hat i hi]
    unfold okP at h1 ⊢
    simp only [decide_eq_true_eq] at h1 ⊢
    omega
  · have h3 : cn (upL Z) 1 32 = cn Z 2 32 := hcn 2 (Or.inr rfl)
    rw [h3]; exact h.c2
  · have h3 : cn (upL Z) 2 32 = cn Z 1 32 := hcn 1 (Or.inl rfl)
    rw [h3]; exact h.c1

theorem nb_tu : ∀ d, d < 4 → ∀ p, p < 33 → p ≠ 0 → nb (3 - d) (33 - p) = if nb d p = 0 then 0 else 33 - nb d p := by decide +kernel

abbrev tu (L : List Nat) : List Nat := L.map fun p => 33 - p

theorem tu_contains {ov : List Nat} (h : ∀ m ∈ ov, 1 ≤ m ∧ m ≤ 32) {p : Nat} (h1 : 1 ≤ p) (h2 : p ≤ 32) : (tu ov).contains (33 - p) = ov.contains p := by
  rw [Bool.eq_iff_iff]
  simp only [List.contains_iff_mem, List.mem_map]
  constructor
  · rintro ⟨m, hm, e⟩
    have := h m hm
    obtain rfl : m = p := by omega
    exact hm
  · exact fun hp => ⟨p, hp, rfl⟩

section
variable {Z : List Int} {t : Nat}

theorem hopN_tu (ht : t = 1 ∨ t = 2) {p0 c d : Nat} {ov : List Nat} (hp1 : 1 ≤ p0) (hp2 : p0 ≤ 32) (hc1 : 1 ≤ c) (hc2 : c ≤ 32) (hov : ∀ m ∈ ov, 1 ≤ m ∧ m ≤ 32) (hd : d < 4) :
    hopN (upL Z) (3 - t) (33 - p0) (33 - c) (tu ov) (3 - d) = (hopN Z t p0 c ov d).map fun x => (33 - x.1, 33 - x.2) := by
  have n1 := nb_tu d hd c (by omega) (by omega)
  have l1 := nb_le hd hc2
  unfold hopN
  rw [n1, upL_at Z (show 1 ≤ 33 - p0 by omega) (by omega), show 33 - (33 - p0) = p0 by omega, fwd_neg _ hd]
  generalize nb d c = m at *
  by_cases hm : m = 0
  · rw [if_pos hm, if_neg (by simp), if_neg (by simp [hm])]; rfl
  · have n2 := nb_tu d hd m (by omega) hm
    have l2 := nb_le hd l1
    rw [if_neg hm, n2, upL_at Z (show 1 ≤ 33 - m by omega) (by omega), show 33 - (33 - m) = m by omega, tu_contains hov (by omega) l1]
    generalize nb d m = q at *
    by_cases hq : q = 0
    · rw [if_pos hq, if_neg (by simp), if_neg (by simp [hq])]; rfl
    · rw [if_neg hq, upL_at Z (show 1 ≤ 33 - q by omega) (by omega), show 33 - (33 - q) = q by omega]
      have k1 : own3 (-(Z.getD m 0)) = 3 - (3 - t) ↔ own3 (Z.getD m 0) = 3 - t := own3_turn (t := 3 - t) (by omega)
      have k2 : (33 - q = 33 - p0) ↔ q = p0 := by omega
      have k3 : (-(Z.getD q 0) = 0) ↔ Z.getD q 0 = 0 := by omega
      have k4 : (33 - m ≠ 0) ↔ m ≠ 0 := by omega
      have k5 : (33 - q ≠ 0) ↔ q ≠ 0 := by omega
      simp only [k1, k2, k3, k4, k5]
      split <;> rfl

theorem hopsN_tu (ht : t = 1 ∨ t = 2) {p0 c : Nat} {ov : List Nat} (hp1 : 1 ≤ p0) (hp2 : p0 ≤ 32) (hc1 : 1 ≤ c) (hc2 : c ≤ 32) (hov : ∀ m ∈ ov, 1 ≤ m ∧ m ≤ 32) {x : Nat × Nat} (hx : x ∈ hopsN Z t p0 c ov) :
    (33 - x.1, 33 - x.2) ∈ hopsN (upL Z) (3 - t) (33 - p0) (33 - c) (tu ov) := by
  obtain ⟨d, hd, e⟩ := mem_hopsN.1 hx
  refine mem_hopsN.2 ⟨3 - d, by omega, ?_⟩
  rw [hopN_tu ht hp1 hp2 hc1 hc2 hov hd, e]
  rfl
theorem hopsN_tu_nil (ht : t = 1 ∨ t = 2) {p0 c : Nat} {ov : List Nat} (hp1 : 1 ≤ p0) (hp2 : p0 ≤ 32) (hc1 : 1 ≤ c) (hc2 : c ≤ 32) (hov : ∀ m ∈ ov, 1 ≤ m ∧ m ≤ 32) (hx : hopsN Z t p0 c ov = []) :
    hopsN (upL Z) (3 - t) (33 - p0) (33 - c) (tu ov) = [] := by
  rw [List.eq_nil_iff_forall_not_mem]
  intro x hm
  obtain ⟨d, hd, e⟩ := mem_hopsN.1 hm
  have h1 := hopN_tu (Z := Z) ht hp1 hp2 hc1 hc2 hov (show 3 - d < 4 by omega)
  rw [show 3 - (3 - d) = d by omega, e] at h1
  cases h2 : hopN Z t p0 c ov (3 - d) with
  | none => rw [h2] at h1; cases h1
  | some y =>
    have : y ∈ hopsN Z t p0 c ov := mem_hopsN.2 ⟨3 - d, by omega, h2⟩
    rw [hx] at this
    cases this

theorem jmN_tu (ht : t = 1 ∨ t = 2) {p0 : Nat} (hp1 : 1 ≤ p0) (hp2 : p0 ≤ 32) : ∀ (f c : Nat) (W ov : List Nat), 1 ≤ c → c ≤ 32 → (∀ m ∈ ov, 1 ≤ m ∧ m ≤ 32) → ∀ y ∈ jmN Z t p0 f c W ov,
    (tu y.1, tu y.2) ∈ jmN (upL Z) (3 - t) (33 - p0) f (33 - c) (tu W) (tu ov)
  | 0, _, _, _, _, _, _, y, h => by cases h
  | f + 1, c, W, ov, hc1, hc2, hov, y, h => by
    rw [jmN, List.mem_append] at h ⊢
    rcases h with h | h
    · left
      rw [List.mem_flatMap] at h ⊢
      obtain ⟨x, hx, hy⟩ := h
      have hle := hopsN_le hc2 hx
      refine ⟨_, hopsN_tu ht hp1 hp2 hc1 hc2 hov hx, ?_⟩
      have := jmN_tu ht hp1 hp2 f x.1 (W ++ [x.1]) (ov ++ [x.2]) hle.2.1 hle.1 (fun m hm => by
        rcases List.mem_append.1 hm with hm | hm
        · exact hov m hm
        · rw [List.mem_singleton.1 hm]; exact ⟨hle.2.2.2, hle.2.2.1⟩) y hy
      simpa [tu] using this
    · right
      split at h
      · rename_i k
        rw [List.mem_singleton.1 h, if_pos ⟨hopsN_tu_nil ht hp1 hp2 hc1 hc2 hov k.1, by simpa [tu] using k.2⟩]
        exact List.mem_singleton.2 rfl
      · cases h

theorem plc_tu (ht : t = 1 ∨ t = 2) {p : Nat} (h : p ∈ plc Z t) : 33 - p ∈ plc (upL Z) (3 - t) := by
  obtain ⟨h2, h1, ho⟩ := mem_plc.1 h
  refine mem_plc.2 ⟨by omega, by omega, ?_⟩
  rw [upL_at Z (by omega) (by omega), show 33 - (33 - p) = p by omega]
  exact (own3_turn ht).2 ho

theorem jmsN_tu (ht : t = 1 ∨ t = 2) (h : jmsN Z t = true) : jmsN (upL Z) (3 - t) = true := by
  unfold jmsN at h ⊢
  rw [List.any_eq_true] at h ⊢
  obtain ⟨p, hp, hh⟩ := h
  obtain ⟨h2, h1, ho⟩ := mem_plc.1 hp
  refine ⟨33 - p, plc_tu ht hp, ?_⟩
  simp only [decide_eq_true_eq] at hh ⊢
  obtain ⟨x, hx⟩ := List.exists_mem_of_ne_nil _ hh
  have := hopsN_tu ht h1 h2 h1 h2 (ov := []) (fun _ hm => by cases hm) hx
  intro e
  rw [show tu [] = [] from rfl] at this
  rw [e] at this
  cases this

theorem jmsN_tu_eq (hM : Mb Z t) : jmsN (upL Z) (3 - t) = jmsN Z t := by
  have ht : t = 1 ∨ t = 2 := by have := hM.tt; omega
  cases h : jmsN Z t with
  | true => exact jmsN_tu ht h
  | false =>
    cases h2 : jmsN (upL Z) (3 - t) with
    | false => rfl
    | true =>
      have h3 := jmsN_tu (t := 3 - t) (by omega) h2
      rw [upL_up Z hM.len hM.z0, show 3 - (3 - t) = t by omega, h] at h3
      cases h3

theorem stN_tu {p : Nat} (hp1 : 1 ≤ p) (hp2 : p ≤ 32) {y : List Nat × List Nat} (h : y ∈ stN Z p) : (tu y.1, tu y.2) ∈ stN (upL Z) (33 - p) := by
  unfold stN at h ⊢
  rw [List.mem_filterMap] at h ⊢
  obtain ⟨d, hd, e⟩ := h
  have hd4 : d < 4 := by simp at hd; omega
  refine ⟨3 - d, by simp; omega, ?_⟩
  have n1 := nb_tu d hd4 p (by omega) (by omega)
  have l1 := nb_le hd4 hp2
  unfold stpN at e ⊢
  rw [n1, upL_at Z (show 1 ≤ 33 - p by omega) (by omega), show 33 - (33 - p) = p by omega, fwd_neg _ hd4]
  split at e
  · rename_i k
    obtain ⟨k1, k2, k3⟩ := k
    rw [if_neg k2, upL_at Z (show 1 ≤ 33 - nb d p by omega) (by omega), show 33 - (33 - nb d p) = nb d p by omega, if_pos ⟨k1, by omega, by omega⟩]
    cases e
    rfl
  · cases e

theorem wyN_tu (hM : Mb Z t) {y : List Nat × List Nat} (h : y ∈ wyN Z t) : (tu y.1, tu y.2) ∈ wyN (upL Z) (3 - t) := by
  have ht : t = 1 ∨ t = 2 := by have := hM.tt; omega
  unfold wyN at h ⊢
  rw [List.mem_flatMap] at h ⊢
  obtain ⟨p, hp, h⟩ := h
  obtain ⟨h2, h1, ho⟩ := mem_plc.1 hp
  refine ⟨33 - p, plc_tu ht hp, ?_⟩
  unfold way1N at h ⊢
  rw [jmsN_tu_eq hM]
  split at h
  · rename_i k
    rw [if_pos k]
    exact jmN_tu ht h1 h2 13 p [p] [] h1 h2 (fun _ hm => by cases hm) y h
  · rename_i k
    rw [if_neg k]
    exact stN_tu h1 h2 h

theorem mvN_tu (hM : Mb Z t) {W : List Nat} (h : W ∈ mvN Z t) : tu W ∈ mvN (upL Z) (3 - t) := by
  unfold mvN at h ⊢
  obtain ⟨y, hy, rfl⟩ := List.mem_map.1 h
  exact List.mem_map.2 ⟨_, wyN_tu hM hy, rfl⟩

theorem nd_le {α : Type} [DecidableEq α] : ∀ (L M : List α), L.Nodup → (∀ x ∈ L, x ∈ M) → L.length ≤ M.length
  | [], _, _, _ => Nat.zero_le _
  | x :: L, M, h, hs => by
    have h' := List.nodup_cons.1 h
    have hm : x ∈ M := hs x (by simp)
    have ih := nd_le L (M.erase x) h'.2 (fun y hy => (List.mem_erase_of_ne (show y ≠ x from fun e => h'.1 (by rw [← e]; exact hy))).2 (hs y (by simp [hy])))
    rw [List.length_erase_of_mem hm] at ih
    have := List.length_pos_of_mem hm
    simp only [List.length_cons]
    omega

theorem mvN_nodup : (mvN Z t).Nodup := by
  have h := wyN_sorted (Z := Z) (t := t)
  unfold Srt at h
  unfold List.Nodup mvN
  exact h.imp (fun {a b} (h : lexN a b) (e : a = b) => lexN_irr a (by rw [← e] at h; exact h))

theorem tu_inj : ∀ {V W : List Nat}, (∀ p ∈ V, p ≤ 32) → (∀ p ∈ W, p ≤ 32) → tu V = tu W → V = W
  | [], [], _, _, _ => rfl
  | [], _ :: _, _, _, h => by cases h
  | _ :: _, [], _, _, h => by cases h
  | v :: V, w :: W, hv, hw, h => by
    simp only [tu, List.map_cons, List.cons.injEq] at h
    have a1 := hv v (by simp)
    have a2 := hw w (by simp)
    obtain rfl : v = w := by omega
    rw [tu_inj (fun p hp => hv p (by simp [hp])) (fun p hp => hw p (by simp [hp])) h.2]

theorem mvN_le (hR : ∀ W ∈ mvN Z t, ∀ p ∈ W, p ≤ 32) (hM : Mb Z t) : (mvN Z t).length ≤ (mvN (upL Z) (3 - t)).length := by
  have h : ((mvN Z t).map tu).Nodup := by
    have hh := mvN_nodup (Z := Z) (t := t)
    unfold List.Nodup at hh ⊢
    rw [List.pairwise_map]
    exact List.Pairwise.imp_of_mem (fun {a b} ha hb hab e => hab (tu_inj (hR a ha) (hR b hb) e)) hh
  have := nd_le _ (mvN (upL Z) (3 - t)) h (fun x hx => by
    obtain ⟨W, hW, rfl⟩ := List.mem_map.1 hx
    exact mvN_tu hM hW)
  simpa using this

theorem mvN_rng (hM : Mb Z t) {W : List Nat} (h : W ∈ mvN Z t) : ∀ p ∈ W, 1 ≤ p ∧ p ≤ 32 := by
  unfold mvN at h
  obtain ⟨y, hy, rfl⟩ := List.mem_map.1 h
  exact (wyN_ok hM hy).rng

theorem mvN_len_tu (hM : Mb Z t) : (mvN (upL Z) (3 - t)).length = (mvN Z t).length := by
  have ht : t = 1 ∨ t = 2 := by have := hM.tt; omega
  have h1 := mvN_le (fun W hW p hp => (mvN_rng hM hW p hp).2) hM
  have hU := Mb_up hM
  have h2 := mvN_le (fun W hW p hp => (mvN_rng hU hW p hp).2) hU
  rw [upL_up Z hM.len hM.z0, show 3 - (3 - t) = t by omega] at h2
  omega
end

end Go.Proofs.YtnbaangnpoblfaaDoor
