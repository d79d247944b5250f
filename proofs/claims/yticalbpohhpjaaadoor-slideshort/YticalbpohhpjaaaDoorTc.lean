/-
  What the tables say of the rings. No conditions beyond those that each theorem bears.
-/
import Derived.Test.YticalbpohhpjaaaDoorTb
namespace Go.Proofs.YticalbpohhpjaaaDoor
open Go.RowKit

/-- A table that has been checked. -/
structure TabOK (W H N M : Nat) (t : List (List Nat)) : Prop where
  root : rgs W H N 0 = (mapT N t 0, ringT N t 0)
  step : ∀ k, k < M → stepOK W H N t k = true
  way : (List.range (M - 1)).all (wayOK W H N t) = true
  pw : (mapT N t (M - 1)).Pairwise (fun p q => p.1 ≠ q.1)
  len : t.length = M
  some : ∀ k, k < M → 0 < (t.getD k []).length ∧ (t.getD k []).length ≤ 100
  home : (t.getD 0 []).all (fun c => decide (dcD c = -1)) = true
  pos : 0 < M

theorem dcZ_length (N c : Nat) : (dcZ N c).length = N := by simp [dcZ]

theorem TabOK.ring {W H N M : Nat} {t : List (List Nat)} (h : TabOK W H N M t) : ∀ k, k ≤ M → rgs W H N k = (mapT N t k, ringT N t k)
  | 0, _ => h.root
  | k + 1, hk => by
    have ih := h.ring k (by omega)
    show nxt W H (rgs W H N k).1 (rgs W H N k).2 = _
    rw [ih]
    exact of_decide_eq_true (h.step k (by omega))

theorem lk_mem {s : List Int} {v : Int} : ∀ {A : List (List Int × Int)}, A.Pairwise (fun p q => p.1 ≠ q.1) → (s, v) ∈ A → lk A s = some v
  | [], _, hm => by cases hm
  | p :: A, hp, hm => by
    rw [List.pairwise_cons] at hp
    rcases List.mem_cons.1 hm with e | e
    · subst e; rw [lk, if_pos rfl]
    · rw [lk, if_neg (hp.1 _ e), lk_mem hp.2 e]

theorem getD_none {t : List (List Nat)} {k : Nat} (h : t.length ≤ k) : t.getD k [] = [] := by simp [List.getD, h]

theorem mem_take {t : List (List Nat)} {r K c : Nat} (hc : c ∈ t.getD r []) (hr : r ≤ K) : c ∈ (t.take (K + 1)).flatten := by
  have hlt : r < t.length := by
    rcases Nat.lt_or_ge r t.length with h | h
    · exact h
    · rw [getD_none h] at hc; cases hc
  refine List.mem_flatten.2 ⟨t[r], ?_, ?_⟩
  · exact List.mem_take_iff_getElem.2 ⟨r, by omega, rfl⟩
  · rw [List.getD_eq_getElem?_getD, List.getElem?_eq_getElem hlt] at hc
    exact hc

theorem take_mem {t : List (List Nat)} {K c : Nat} (h : c ∈ (t.take K).flatten) : ∃ r, r < K ∧ r < t.length ∧ c ∈ t.getD r [] := by
  obtain ⟨l, hl, hc⟩ := List.mem_flatten.1 h
  obtain ⟨r, hr, rfl⟩ := List.mem_take_iff_getElem.1 hl
  refine ⟨r, by omega, by omega, ?_⟩
  rw [List.getD_eq_getElem?_getD, List.getElem?_eq_getElem (by omega)]
  exact hc

theorem TabOK.pwK {W H N M : Nat} {t : List (List Nat)} (h : TabOK W H N M t) {K : Nat} (hK : K < M) : (mapT N t K).Pairwise (fun p q => p.1 ≠ q.1) := by
  have h1 := h.pw
  have e : t.take (M - 1 + 1) = t.take (K + 1) ++ (t.drop (K + 1)).take (M - 1 - K) := by
    rw [show M - 1 + 1 = K + 1 + (M - 1 - K) by omega, List.take_add]
  unfold mapT at h1
  rw [e, List.flatten_append, List.map_append] at h1
  exact (List.pairwise_append.1 h1).1

theorem TabOK.look {W H N M : Nat} {t : List (List Nat)} (h : TabOK W H N M t) {K r c : Nat} (hK : K < M) (hr : r ≤ K) (hc : c ∈ t.getD r []) : lk (mapT N t K) (pad6 (dcZ N c)) = .some (dcD c) :=
  lk_mem (h.pwK hK) (List.mem_map.2 ⟨c, mem_take hc hr, rfl⟩)

theorem TabOK.pth {W H N M : Nat} {t : List (List Nat)} (h : TabOK W H N M t) {K : Nat} (hK : K < M) : ∀ r c, r ≤ K → c ∈ t.getD r [] → ∃ l, Pth W H N (mapT N t K) r (dcZ N c) (dcG c) l
  | 0, c, hr, hc => ⟨[], .home (by rw [h.look hK hr hc, of_decide_eq_true (List.all_eq_true.1 h.home c hc)])⟩
  | r + 1, c, hr, hc => by
    have hw := List.all_eq_true.1 (List.all_eq_true.1 h.way r (by simp; omega)) c hc
    simp only [Bool.and_eq_true] at hw
    obtain ⟨⟨h1, h2⟩, h3⟩ := hw
    obtain ⟨e, he, h4⟩ := List.any_eq_true.1 h3
    simp only [Bool.and_eq_true] at h4
    have h1 := of_decide_eq_true h1
    have hz := of_decide_eq_true h4.1
    have hg := of_decide_eq_true h4.2
    obtain ⟨l, hl⟩ := h.pth hK r e (by omega) he
    obtain ⟨q, hq, -⟩ := frm_nat h2
    rw [hq, Int.toNat_natCast] at hz hg
    rw [hz, hg] at hl
    refine ⟨_, .step ?_ h1 h2 hq hl⟩
    rw [h.look hK hr hc]
    unfold dcD
    rw [if_neg (by omega)]
    rfl

theorem inB_ring (N : Nat) (t : List (List Nat)) (k : Nat) (T : List Int) : inB (ringT N t k) T = (t.getD k []).any (fun c => decide (dcZ N c = T)) := by
  unfold inB ringT
  rw [List.any_map]
  rfl

theorem TabOK.ends {W H N M : Nat} {t : List (List Nat)} (h : TabOK W H N M t) (hn : ringT N t M = []) : Ends W H N M := by
  refine ⟨by rw [h.ring M (Nat.le_refl _)]; exact hn, fun k hk => ?_, fun k hk => ?_⟩
  · rw [h.ring k (by omega)]
    intro e
    have := congrArg List.length e
    simp only [ringT, List.length_map, List.length_nil] at this
    have := (h.some k hk).1
    omega
  · rw [h.ring k (by omega)]
    simp only [ringT, List.length_map]
    have := (h.some k hk).2
    omega

theorem TabOK.found {W H N M : Nat} {t : List (List Nat)} (h : TabOK W H N M t) (hn : ringT N t M = []) (hW : 2 ≤ W) (hN : W * H = N) (h0 : 0 < N) {T : List Int} {g r : Nat} (hG : Gt N (T, g)) (hr : inRing N t T = .some r) :
    r < M ∧ Found W H N r T ∧ ∃ l, Pth W H N (rgs W H N r).1 r T g l := by
  have hE := h.ends hn
  unfold inRing at hr
  rw [List.find?_range_eq_some] at hr
  obtain ⟨h1, h2, h3⟩ := hr
  have hrM : r < M := by have := h.len; simp at h2; omega
  obtain ⟨c, hc, hcT⟩ := List.any_eq_true.1 h1
  have hcT := of_decide_eq_true hcT
  refine ⟨hrM, ⟨fun k hk => ⟨hE.some k (by omega), ?_⟩, .inr ?_, hE.all⟩, ?_⟩
  · rw [h.ring k (by omega), inB_ring]
    simpa using h3 k hk
  · rw [h.ring r (by omega), inB_ring]
    exact h1
  · obtain ⟨l, hl⟩ := h.pth hrM r c (Nat.le_refl _) hc
    have hg := rgs_good hW hN h0 r (dcZ N c, dcG c) (by rw [h.ring r (by omega)]; exact List.mem_map.2 ⟨c, hc, rfl⟩)
    have hgg : dcG c = g := by
      have e1 := hg.gap
      have e2 := hG.gap
      dsimp only at e1 e2
      rw [hcT] at e1
      omega
    rw [hcT, hgg] at hl
    rw [h.ring r (by omega)]
    exact ⟨l, hl⟩

theorem TabOK.lost {W H N M : Nat} {t : List (List Nat)} (h : TabOK W H N M t) (hn : ringT N t M = []) {T : List Int} (hl : T.length = N) (hr : inRing N t T = none) :
    Found W H N M T ∧ lk (rgs W H N M).1 (pad6 T) = none := by
  have hE := h.ends hn
  unfold inRing at hr
  rw [List.find?_range_eq_none] at hr
  refine ⟨⟨fun k hk => ⟨hE.some k (by omega), ?_⟩, .inl hE.none, hE.all⟩, ?_⟩
  · rw [h.ring k (by omega), inB_ring]
    have := hr k (by have := h.len; omega)
    simpa using this
  · rw [h.ring M (Nat.le_refl _)]
    refine lk_none fun p hp => ?_
    obtain ⟨c, hc, rfl⟩ := List.mem_map.1 hp
    obtain ⟨r, -, hrl, hcr⟩ := take_mem hc
    intro e
    have e := pad6_inj (by rw [dcZ_length, hl]) e
    have := hr r hrl
    simp only [Bool.not_eq_true', List.any_eq_false] at this
    exact this c hcr (decide_eq_true e)

/-- What is known of an order of six, as the table of its width has it. -/
theorem order_known {W H N M : Nat} {t : List (List Nat)} (h : TabOK W H N M t) (hn : ringT N t M = []) (hW : 2 ≤ W) (hN : W * H = N) (h0 : 0 < N) {k : Nat} (ho : orderOK W H N t k = true) (hG : Gt N ((nthSt N k N).1, (ix (nthSt N k N).1 0).toNat)) :
    (canZ (nthSt N k N).1 W N (ix (nthSt N k N).1 0).toNat = true ∧ ∃ r l, r < M ∧ Found W H N r (nthSt N k N).1 ∧ Pth W H N (rgs W H N r).1 r (nthSt N k N).1 (ix (nthSt N k N).1 0).toNat l ∧ lst W (nthSt N k N).1 N (ix (nthSt N k N).1 0).toNat N ≤ r ∧ r % 2 = gway W H (ix (nthSt N k N).1 0).toNat % 2) ∨
    (canZ (nthSt N k N).1 W N (ix (nthSt N k N).1 0).toNat = false ∧ Found W H N M (nthSt N k N).1 ∧ lk (rgs W H N M).1 (pad6 (nthSt N k N).1) = none) := by
  unfold orderOK at ho
  dsimp only at ho
  cases hr : inRing N t (nthSt N k N).1 with
  | none =>
    rw [hr] at ho
    obtain ⟨h1, h2⟩ := h.lost hn hG.len hr
    exact .inr ⟨by simpa using ho, h1, h2⟩
  | some r =>
    rw [hr] at ho
    simp only [Bool.and_eq_true] at ho
    obtain ⟨h1, h2, l, h3⟩ := h.found hn hW hN h0 hG hr
    exact .inl ⟨ho.1.1, r, l, h1, h2, h3, of_decide_eq_true ho.1.2, of_decide_eq_true ho.2⟩

end Go.Proofs.YticalbpohhpjaaaDoor
