/-
  Ways in order; the document's search for jumps finds the same ways. No conditions beyond those that each theorem bears.
-/
import Derived.Test.YtnbaangnpoblfaaDoorNn
import Derived.Test.YtnbaangnpoblfaaDoorSm
namespace Go.Proofs.YtnbaangnpoblfaaDoor

/-! The order of lists. -/

def lexN : List Nat → List Nat → Prop
  | [], [] => False
  | [], _ :: _ => True
  | _ :: _, [] => False
  | x :: xs, y :: ys => x < y ∨ (x = y ∧ lexN xs ys)

theorem lexN_toI : ∀ (xs ys : List Nat), lexI (toI xs) (toI ys) = true ↔ lexN xs ys
  | [], [] => by simp [lexI, lexN, toI]
  | [], y :: ys => by simp [lexI, lexN, toI]
  | x :: xs, [] => by simp [lexI, lexN, toI]
  | x :: xs, y :: ys => by
    have ih := lexN_toI xs ys
    show lexI ((x : Int) :: toI xs) ((y : Int) :: toI ys) = true ↔ _
    rw [lexI, lexN]
    by_cases e : x = y
    · subst e
      rw [if_pos rfl, ih]
      constructor
      · intro h; exact Or.inr ⟨rfl, h⟩
      · rintro (h | ⟨_, h⟩)
        · omega
        · exact h
    · rw [if_neg (by omega), decide_eq_true_eq]
      constructor
      · intro h; exact Or.inl (by omega)
      · rintro (h | ⟨h, _⟩)
        · omega
        · exact absurd h e

theorem lexN_irr : ∀ xs, ¬ lexN xs xs
  | [] => fun h => h
  | x :: xs => fun h => by
    rcases h with h | ⟨_, h⟩
    · omega
    · exact lexN_irr xs h
theorem lexN_trans : ∀ {xs ys zs : List Nat}, lexN xs ys → lexN ys zs → lexN xs zs
  | [], [], _, h, _ => h.elim
  | [], _ :: _, [], _, h => h.elim
  | [], _ :: _, _ :: _, _, _ => trivial
  | _ :: _, [], _, h, _ => h.elim
  | _ :: _, _ :: _, [], _, h => h.elim
  | x :: xs, y :: ys, z :: zs, h, k => by
    rcases h with h | ⟨e, h⟩ <;> rcases k with k | ⟨f, k⟩
    · exact Or.inl (by omega)
    · exact Or.inl (by omega)
    · exact Or.inl (by omega)
    · exact Or.inr ⟨by omega, lexN_trans h k⟩
theorem lexN_total : ∀ (xs ys : List Nat), lexN xs ys ∨ xs = ys ∨ lexN ys xs
  | [], [] => Or.inr (Or.inl rfl)
  | [], _ :: _ => Or.inl trivial
  | _ :: _, [] => Or.inr (Or.inr trivial)
  | x :: xs, y :: ys => by
    rcases Nat.lt_trichotomy x y with h | h | h
    · exact Or.inl (Or.inl h)
    · rcases lexN_total xs ys with k | k | k
      · exact Or.inl (Or.inr ⟨h, k⟩)
      · exact Or.inr (Or.inl (by rw [h, k]))
      · exact Or.inr (Or.inr (Or.inr ⟨h.symm, k⟩))
    · exact Or.inr (Or.inr (Or.inl h))
theorem lexN_pre (P : List Nat) {xs ys : List Nat} (h : lexN xs ys) : lexN (P ++ xs) (P ++ ys) := by
  induction P with
  | nil => exact h
  | cons x P ih => exact Or.inr ⟨rfl, ih⟩

/-- In order, no two alike. -/
def Srt (L : List (List Nat)) : Prop := L.Pairwise lexN
theorem Srt.unique : ∀ {L M : List (List Nat)}, Srt L → Srt M → (∀ x, x ∈ L ↔ x ∈ M) → L = M
  | [], [], _, _, _ => rfl
  | [], y :: M, _, _, h => absurd ((h y).2 (by simp)) (by simp)
  | x :: L, [], _, _, h => absurd ((h x).1 (by simp)) (by simp)
  | x :: L, y :: M, hL, hM, h => by
    have hL' := List.pairwise_cons.1 hL
    have hM' := List.pairwise_cons.1 hM
    have exy : x = y := by
      rcases lexN_total x y with k | k | k
      · have hx := (h x).1 (by simp)
        rcases List.mem_cons.1 hx with e | e
        · exact e
        · exact absurd (lexN_trans k (hM'.1 x e)) (lexN_irr x)
      · exact k
      · have hy := (h y).2 (by simp)
        rcases List.mem_cons.1 hy with e | e
        · exact e.symm
        · exact absurd (lexN_trans k (hL'.1 y e)) (lexN_irr y)
    subst exy
    rw [Srt.unique hL'.2 hM'.2 (fun z => ?_)]
    constructor
    · intro hz
      rcases List.mem_cons.1 ((h z).1 (by simp [hz])) with e | e
      · subst e; exact absurd (hL'.1 z hz) (lexN_irr z)
      · exact e
    · intro hz
      rcases List.mem_cons.1 ((h z).2 (by simp [hz])) with e | e
      · subst e; exact absurd (hM'.1 z hz) (lexN_irr z)
      · exact e

def lexB (xs ys : List Nat) : Bool := lexI (toI xs) (toI ys)
theorem lexB_iff {xs ys : List Nat} : lexB xs ys = true ↔ lexN xs ys := lexN_toI xs ys
/-- Where the smaller ones end. -/
def plK (L : List (List Nat)) (w : List Nat) : Nat := (L.takeWhile fun x => lexB x w).length
theorem plK_le (L : List (List Nat)) (w : List Nat) : plK L w ≤ L.length := (List.takeWhile_sublist _).length_le
theorem plK_spec (w : List Nat) : ∀ (L : List (List Nat)) (k : Nat), k ≤ L.length → (∀ i, i < k → lexB (L.getD i []) w = true) → (k < L.length → lexB (L.getD k []) w = false) → plK L w = k
  | [], k, hk, _, _ => by
    obtain rfl : k = 0 := by simpa using hk
    rfl
  | x :: L, 0, _, _, h => by
    have := h (by simp)
    simp only [List.getD_cons_zero] at this
    unfold plK
    rw [List.takeWhile_cons, this]
    rfl
  | x :: L, k + 1, hk, h1, h2 => by
    have h0 := h1 0 (by omega)
    simp only [List.getD_cons_zero] at h0
    have ih := plK_spec w L k (by simpa using hk) (fun i hi => by have := h1 (i + 1) (by omega); simpa using this) (fun h => by have := h2 (by simpa using h); simpa using this)
    unfold plK at ih ⊢
    rw [List.takeWhile_cons, h0]
    simp only [if_true, List.length_cons, ih]

/-- putWay. -/
def putN (L : List (List Nat)) (w : List Nat) : List (List Nat) := if plK L w < L.length ∧ L.getD (plK L w) [] = w then L else L.take (plK L w) ++ [w] ++ L.drop (plK L w)

theorem take_takeWhile {α : Type} (p : α → Bool) : ∀ (L : List α), L.take (L.takeWhile p).length = L.takeWhile p
  | [] => rfl
  | x :: L => by
    rw [List.takeWhile_cons]
    by_cases h : p x = true
    · rw [if_pos h, List.length_cons, List.take_succ_cons, take_takeWhile p L]
    · rw [if_neg h]; rfl
theorem drop_takeWhile {α : Type} (p : α → Bool) : ∀ (L : List α), L.drop (L.takeWhile p).length = L.dropWhile p
  | [] => rfl
  | x :: L => by
    rw [List.takeWhile_cons, List.dropWhile_cons]
    by_cases h : p x = true
    · rw [if_pos h, if_pos h, List.length_cons, List.drop_succ_cons, drop_takeWhile p L]
    · rw [if_neg h, if_neg h]; rfl

theorem putN_spec {L : List (List Nat)} (hL : Srt L) (w : List Nat) : Srt (putN L w) ∧ ∀ x, x ∈ putN L w ↔ x ∈ L ∨ x = w := by
  unfold putN
  by_cases h : plK L w < L.length ∧ L.getD (plK L w) [] = w
  · rw [if_pos h]
    refine ⟨hL, fun x => ⟨Or.inl, ?_⟩⟩
    rintro (hx | rfl)
    · exact hx
    · rw [← h.2]
      simp [List.getD, h.1]
  · rw [if_neg h]
    have ht : L.take (plK L w) = L.takeWhile fun x => lexB x w := take_takeWhile _ L
    have hd : L.drop (plK L w) = L.dropWhile fun x => lexB x w := drop_takeWhile _ L
    have hsplit : L.take (plK L w) ++ L.drop (plK L w) = L := List.take_append_drop _ _
    have hlow : ∀ x ∈ L.take (plK L w), lexN x w := fun x hx => by
      rw [ht] at hx
      exact lexB_iff.1 (List.all_eq_true.1 List.all_takeWhile x hx)
    have hhi : ∀ x ∈ L.drop (plK L w), lexN w x := by
      cases e : L.drop (plK L w) with
      | nil => intro x hx; cases hx
      | cons y M =>
        have hk : plK L w < L.length := by
          rcases Nat.lt_or_ge (plK L w) L.length with k | k
          · exact k
          · rw [List.drop_of_length_le k] at e; cases e
        have hy : L.getD (plK L w) [] = y := by
          have := congrArg (fun l : List (List Nat) => l[0]?) e
          simp only [List.getElem?_drop, Nat.add_zero, List.getElem?_cons_zero] at this
          simp [List.getD, this]
        have hyw : y ≠ w := fun k => h ⟨hk, by rw [hy, k]⟩
        have hny : lexB y w = false := by
          have h3 := hd
          rw [e] at h3
          have := List.head?_dropWhile_not (fun x => lexB x w) L
          rw [← h3] at this
          simpa using this
        have hwy : lexN w y := by
          rcases lexN_total w y with k | k | k
          · exact k
          · exact absurd k.symm hyw
          · rw [lexB_iff.2 k] at hny; cases hny
        have hpw : (y :: M).Pairwise lexN := by
          rw [← e]; exact hL.sublist (List.drop_sublist _ _)
        intro x hx
        rcases List.mem_cons.1 hx with k | k
        · rw [k]; exact hwy
        · exact lexN_trans hwy ((List.pairwise_cons.1 hpw).1 x k)
    have hLs : (L.take (plK L w) ++ L.drop (plK L w)).Pairwise lexN := by rw [hsplit]; exact hL
    rw [List.pairwise_append] at hLs
    refine ⟨?_, fun x => ?_⟩
    · unfold Srt
      rw [List.append_assoc, List.pairwise_append]
      refine ⟨hLs.1, List.pairwise_cons.2 ⟨hhi, hLs.2.1⟩, fun a ha b hb => ?_⟩
      rcases List.mem_cons.1 hb with k | k
      · rw [k]; exact hlow a ha
      · exact hLs.2.2 a ha b k
    · have hm : x ∈ L ↔ x ∈ L.take (plK L w) ∨ x ∈ L.drop (plK L w) := by rw [← List.mem_append, hsplit]
      rw [List.mem_append, List.mem_append, List.mem_singleton, hm]
      constructor
      · rintro ((k | k) | k)
        · exact Or.inl (Or.inl k)
        · exact Or.inr k
        · exact Or.inl (Or.inr k)
      · rintro ((k | k) | k)
        · exact Or.inl (Or.inl k)
        · exact Or.inr k
        · exact Or.inl (Or.inr k)

def putsN (L M : List (List Nat)) : List (List Nat) := M.foldl putN L
theorem putsN_spec : ∀ (M L : List (List Nat)), Srt L → Srt (putsN L M) ∧ ∀ x, x ∈ putsN L M ↔ x ∈ L ∨ x ∈ M
  | [], L, h => ⟨h, fun x => by simp [putsN]⟩
  | w :: M, L, h => by
    obtain ⟨h1, h2⟩ := putN_spec h w
    obtain ⟨h3, h4⟩ := putsN_spec M (putN L w) h1
    refine ⟨h3, fun x => ?_⟩
    rw [show putsN L (w :: M) = putsN (putN L w) M from rfl, h4, h2, List.mem_cons, or_assoc]

/-! Ways in order. -/
theorem nb2_mono : ∀ c, c < 33 → ∀ d, d < 4 → ∀ e, e < 4 → (d < e ∧ nb d (nb d c) ≠ 0 ∧ nb e (nb e c) ≠ 0 → nb d (nb d c) < nb e (nb e c)) := by decide +kernel
theorem nb1_mono : ∀ c, c < 33 → ∀ d, d < 4 → ∀ e, e < 4 → (d < e ∧ nb d c ≠ 0 ∧ nb e c ≠ 0 → nb d c < nb e c) := by decide +kernel

section
variable {Z : List Int} {t : Nat}

/-- All have the same beginning. -/
theorem jmN_pre {p0 : Nat} : ∀ (f c : Nat) (W ov : List Nat) (x : List Nat × List Nat), x ∈ jmN Z t p0 f c W ov → ∃ S, x.1 = W ++ S
  | 0, _, _, _, _, h => by cases h
  | f + 1, c, W, ov, x, h => by
    rw [jmN, List.mem_append] at h
    rcases h with h | h
    · obtain ⟨y, _, hy⟩ := List.mem_flatMap.1 h
      obtain ⟨S, e⟩ := jmN_pre f _ _ _ x hy
      exact ⟨y.1 :: S, by rw [e, List.append_assoc]; rfl⟩
    · split at h
      · rw [List.mem_singleton] at h; subst h; exact ⟨[], by simp⟩
      · cases h

theorem pairwise_flatMap {α β : Type} {R : β → β → Prop} {f : α → List β} : ∀ {l : List α}, (∀ a ∈ l, (f a).Pairwise R) → l.Pairwise (fun a b => ∀ x ∈ f a, ∀ y ∈ f b, R x y) → (l.flatMap f).Pairwise R
  | [], _, _ => List.Pairwise.nil
  | a :: l, h1, h2 => by
    rw [List.flatMap_cons, List.pairwise_append]
    have h2' := List.pairwise_cons.1 h2
    refine ⟨h1 a (by simp), pairwise_flatMap (fun b hb => h1 b (by simp [hb])) h2'.2, fun x hx y hy => ?_⟩
    obtain ⟨b, hb, hyb⟩ := List.mem_flatMap.1 hy
    exact h2'.1 b hb x hx y hyb

theorem range4_sorted : List.Pairwise (fun a b : Nat => a < b) [0, 1, 2, 3] := by decide

theorem filterMap_pairwise {α β : Type} {R : α → α → Prop} {Q : β → β → Prop} {f : α → Option β} : ∀ {l : List α}, l.Pairwise R → (∀ a ∈ l, ∀ b ∈ l, R a b → ∀ x y, f a = some x → f b = some y → Q x y) → (l.filterMap f).Pairwise Q
  | [], _, _ => List.Pairwise.nil
  | a :: l, h, k => by
    have h' := List.pairwise_cons.1 h
    have ih := filterMap_pairwise (f := f) (Q := Q) h'.2 (fun b hb c hc => k b (by simp [hb]) c (by simp [hc]))
    rw [List.filterMap_cons]
    cases e : f a with
    | none => exact ih
    | some x =>
      refine List.pairwise_cons.2 ⟨fun y hy => ?_, ih⟩
      obtain ⟨b, hb, eb⟩ := List.mem_filterMap.1 hy
      exact k a (by simp) b (by simp [hb]) (h'.1 b hb) x y e eb

theorem hopsN_sorted {p0 c : Nat} {ov : List Nat} (hc : c ≤ 32) : (hopsN Z t p0 c ov).Pairwise fun a b => a.1 < b.1 := by
  refine filterMap_pairwise range4_sorted (fun a ha b hb hab x y hx hy => ?_)
  obtain ⟨_, _, x3, _, _, _, x7, _⟩ := hopN_some (q := x.1) (m := x.2) hx
  obtain ⟨_, _, y3, _, _, _, y7, _⟩ := hopN_some (q := y.1) (m := y.2) hy
  rw [x3, y3]
  exact nb2_mono c (by omega) a (by simp at ha; omega) b (by simp at hb; omega) ⟨hab, x3 ▸ x7, y3 ▸ y7⟩

theorem hopsN_le {p0 c : Nat} {ov : List Nat} (hc : c ≤ 32) {x : Nat × Nat} (hx : x ∈ hopsN Z t p0 c ov) : x.1 ≤ 32 ∧ 1 ≤ x.1 ∧ x.2 ≤ 32 ∧ 1 ≤ x.2 := by
  obtain ⟨d, hd, e⟩ := mem_hopsN.1 hx
  obtain ⟨_, k2, k3, k4, _, _, k7, _⟩ := hopN_some (q := x.1) (m := x.2) e
  have h1 : x.2 ≤ 32 := by rw [k2]; exact nb_le hd hc
  have h2 : x.1 ≤ 32 := by rw [k3]; exact nb_le hd (nb_le hd hc)
  omega

theorem jmN_sorted {p0 : Nat} : ∀ (f c : Nat) (W ov : List Nat), c ≤ 32 → Srt ((jmN Z t p0 f c W ov).map (·.1))
  | 0, _, _, _, _ => List.Pairwise.nil
  | f + 1, c, W, ov, hc => by
    rw [jmN]
    by_cases hn : hopsN Z t p0 c ov = []
    · rw [hn]
      by_cases ho : ov ≠ []
      · rw [if_pos ⟨rfl, ho⟩]; exact List.pairwise_singleton _ _
      · rw [if_neg (fun k => ho k.2)]; exact List.Pairwise.nil
    · rw [if_neg (fun k => hn k.1), List.append_nil, List.map_flatMap]
      refine pairwise_flatMap (fun a ha => jmN_sorted f a.1 _ _ (hopsN_le hc ha).1) ?_
      refine (hopsN_sorted hc).imp (fun {a b} hab x hx y hy => ?_)
      obtain ⟨x', hx', rfl⟩ := List.mem_map.1 hx
      obtain ⟨y', hy', rfl⟩ := List.mem_map.1 hy
      obtain ⟨S, e1⟩ := jmN_pre f _ _ _ x' hx'
      obtain ⟨S', e2⟩ := jmN_pre f _ _ _ y' hy'
      rw [e1, e2, List.append_assoc, List.append_assoc]
      exact lexN_pre W (Or.inl hab)

theorem stN_sorted {p : Nat} (hp : p ≤ 32) : Srt ((stN Z p).map (·.1)) := by
  unfold Srt stN
  rw [List.pairwise_map]
  refine filterMap_pairwise range4_sorted (fun a ha b hb hab x y hx hy => ?_)
  unfold stpN at hx hy
  split at hx
  · rename_i k1
    split at hy
    · rename_i k2
      simp only [Option.some.injEq] at hx hy
      subst hx hy
      exact Or.inr ⟨rfl, Or.inl (nb1_mono p (by omega) a (by simp at ha; omega) b (by simp at hb; omega) ⟨hab, k1.2.1, k2.2.1⟩)⟩
    · cases hy
  · cases hx

theorem plc_sorted : (plc Z t).Pairwise (· < ·) := by
  unfold plc
  exact List.Pairwise.filter _ List.pairwise_lt_range

theorem way1N_head {p : Nat} {x : List Nat × List Nat} (hx : x ∈ way1N Z t p) : ∃ S, x.1 = p :: S := by
  unfold way1N at hx
  split at hx
  · obtain ⟨S, e⟩ := jmN_pre _ _ _ _ x hx
    exact ⟨S, e⟩
  · unfold stN at hx
    obtain ⟨d, _, e⟩ := List.mem_filterMap.1 hx
    unfold stpN at e
    split at e
    · simp only [Option.some.injEq] at e; subst e; exact ⟨_, rfl⟩
    · cases e

/-- The program's ways are in order. -/
theorem wyN_sorted : Srt ((wyN Z t).map (·.1)) := by
  unfold wyN
  rw [List.map_flatMap]
  refine pairwise_flatMap (fun p hp => ?_) ?_
  · have := (mem_plc.1 hp).1
    unfold way1N
    split
    · exact jmN_sorted 13 p [p] [] this
    · exact stN_sorted this
  · refine plc_sorted.imp (fun {a b} hab x hx y hy => ?_)
    obtain ⟨x', hx', rfl⟩ := List.mem_map.1 hx
    obtain ⟨y', hy', rfl⟩ := List.mem_map.1 hy
    obtain ⟨S, e1⟩ := way1N_head hx'
    obtain ⟨S', e2⟩ := way1N_head hy'
    rw [e1, e2]
    exact Or.inl hab
end

end Go.Proofs.YtnbaangnpoblfaaDoor
