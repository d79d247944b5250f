/-
  MovesOf's boards are those that the program's ends tell, in order. No conditions beyond those that each theorem bears.
-/
import Derived.Test.YtmboikpcbkiepaaPr
namespace Go.Proofs.Ytmboikpcbkiepaa

theorem Tell.congr {t : Nat} {L : List Bo} {X Y : List Int → Prop} (h : Tell t L X) (he : ∀ s, X s ↔ Y s) : Tell t L Y :=
  ⟨fun s hs => h.pr s ((he s).2 hs), fun y => (h.mem y).trans ⟨fun ⟨s, a, b⟩ => ⟨s, (he s).1 a, b⟩, fun ⟨s, a, b⟩ => ⟨s, (he s).2 a, b⟩⟩⟩

theorem Tell.start {P : List Int} {W B : Int} {t : Nat} (h : mayP P W B t) : Tell t [⟨P, W, B⟩] (fun u => u = seenL P W B t) := by
  refine ⟨fun s e => e ▸ seen_pr h, fun y => ?_⟩
  rw [List.mem_singleton]
  constructor
  · rintro rfl; exact ⟨_, rfl, bo_seen h⟩
  · rintro ⟨s, rfl, rfl⟩; exact bo_seen h

theorem repB_front {t p : Nat} {L : List Bo} : ∀ k, repB t p L (k + 1) = if stA t p L = [] then L else repB t p (stA t p L) k
  | 0 => by rw [repB, repB, repB]
  | k + 1 => by
    rw [repB, repB_front k]
    by_cases e : stA t p L = []
    · rw [if_pos e, if_pos e, if_pos e]
    · rw [if_neg e, if_neg e, repB]

theorem Tell.rep {t p : Nat} (ht : t ≤ 1) (hp : 1 ≤ p ∧ p ≤ 6) : ∀ (k : Nat) {L : List Bo} {X : List Int → Prop}, Tell t L X → MayL t L → Tell t (repB t p L k) (rep p k X)
  | 0, L, X, h, _ => by rw [repB]; exact h
  | k + 1, L, X, h, hL => by
    rw [repB_front]
    have hs := h.step ht hp hL
    by_cases e : stA t p L = []
    · rw [if_pos e]
      have hn := hs.none.1 e
      refine h.congr (fun s => ?_)
      exact (rep_stop (k := k + 1) hn s).symm
    · rw [if_neg e]
      refine (Tell.rep ht hp k hs (stA_may ht hp hL)).congr (fun s => ?_)
      have hex : ∃ x, aft X p x := Classical.byContradiction fun hn => e (hs.none.2 fun s hs => hn ⟨s, hs⟩)
      constructor
      · exact fun hh => Or.inl ⟨hex, hh⟩
      · rintro (⟨_, hh⟩ | ⟨hn, _⟩)
        · exact hh
        · exact absurd hex hn

theorem putA_spec {A M : List Bo} (hA : Len A) (hM : Len M) (hs : Srt A) : ∀ i, i ≤ M.length → Len (putA A M i) ∧ Srt (putA A M i) ∧ ∀ y, y ∈ putA A M i ↔ y ∈ A ∨ y ∈ M.take i
  | 0, _ => by rw [putA]; exact ⟨hA, hs, fun y => by simp⟩
  | i + 1, hi => by
    obtain ⟨h0, h1, h2⟩ := putA_spec hA hM hs i (by omega)
    have hm : M.getD i b0 ∈ M := by simp [List.getD, show i < M.length by omega]
    obtain ⟨p1, p2⟩ := putL_spec h0 (hM _ hm) h1
    have ht' : M.take (i + 1) = M.take i ++ [M.getD i b0] := by
      rw [List.take_succ_eq_append_getElem (by omega)]
      simp [List.getD, show i < M.length by omega]
    rw [putA]
    refine ⟨putL_Len h0 (hM _ hm), p1, fun y => ?_⟩
    rw [p2 y, h2 y, ht', List.mem_append, List.mem_singleton, or_assoc]

theorem both_spec {t g l : Nat} (ht : t ≤ 1) (hg : 1 ≤ g ∧ g ≤ 6) (hl : 1 ≤ l ∧ l ≤ 6) {S : List Bo} {s : List Int} (h : Tell t S (fun u => u = s)) (hS : MayL t S) :
    Srt (bothB t g l S) ∧ MayL t (bothB t g l S) ∧ Tell t (bothB t g l S) (bothX s g l) := by
  have m1 := stA_may (p := g) ht hg hS
  have m2 := stA_may (p := l) ht hl hS
  have m3 := stA_may (p := l) ht hl m1
  have m4 := stA_may (p := g) ht hg m2
  have t1 := (h.step ht hg hS).step ht hl m1
  have t2 := (h.step ht hl hS).step ht hg m2
  obtain ⟨_, s1, s2⟩ := putA_spec m3.len m4.len (stA_spec ht hl m1).1 _ (Nat.le_refl _)
  have s2' : ∀ y, y ∈ bothB t g l S ↔ y ∈ stA t l (stA t g S) ∨ y ∈ stA t g (stA t l S) := fun y => by
    have := s2 y
    rw [List.take_length] at this
    exact this
  refine ⟨s1, fun y hy => ?_, ⟨fun u hu => ?_, fun y => ?_⟩⟩
  · rcases (s2' y).1 hy with h | h
    · exact m3 y h
    · exact m4 y h
  · rcases hu with hu | hu
    · exact t1.pr u hu
    · exact t2.pr u hu
  · rw [s2' y, t1.mem y, t2.mem y]
    constructor
    · rintro (⟨u, a, b⟩ | ⟨u, a, b⟩)
      · exact ⟨u, Or.inl a, b⟩
      · exact ⟨u, Or.inr a, b⟩
    · rintro ⟨u, a | a, b⟩
      · exact Or.inl ⟨u, a, b⟩
      · exact Or.inr ⟨u, a, b⟩

theorem repB_srt {t p : Nat} (ht : t ≤ 1) (hp : 1 ≤ p ∧ p ≤ 6) {L : List Bo} (hL : MayL t L) (hs : Srt L) : ∀ k, Srt (repB t p L k)
  | 0 => hs
  | k + 1 => by
    rw [repB]
    split
    · exact repB_srt ht hp hL hs k
    · exact (stA_spec ht hp (repB_may ht hp hL k)).1

/-- The boards of MovesOf. -/
theorem mvB_spec {P : List Int} {W B : Int} {t x y : Nat} (ht : t ≤ 1) (hx : 1 ≤ x ∧ x ≤ 6) (hy : 1 ≤ y ∧ y ≤ 6) (h : mayP P W B t) :
    Srt (mvB t x y [⟨P, W, B⟩]) ∧ MayL t (mvB t x y [⟨P, W, B⟩]) ∧ Tell t (mvB t x y [⟨P, W, B⟩]) (endsX (seenL P W B t) x y) := by
  have hS : MayL t [(⟨P, W, B⟩ : Bo)] := fun z hz => by rw [List.mem_singleton.1 hz]; exact h
  have hs : Srt [(⟨P, W, B⟩ : Bo)] := List.pairwise_singleton _ _
  have h0 := Tell.start h
  generalize [(⟨P, W, B⟩ : Bo)] = S at *
  unfold mvB endsX
  by_cases e : x = y
  · rw [if_pos e, if_pos e]
    exact ⟨repB_srt ht hx hS hs 4, repB_may ht hx hS 4, h0.rep ht hx 4 hS⟩
  · rw [if_neg e, if_neg e]
    have hg : 1 ≤ max x y ∧ max x y ≤ 6 := by omega
    have hl : 1 ≤ min x y ∧ min x y ≤ 6 := by omega
    generalize max x y = g at *
    generalize min x y = l at *
    obtain ⟨b1, b2, b3⟩ := both_spec ht hg hl h0 hS
    have tg := h0.step ht hg hS
    have tl := h0.step ht hl hS
    unfold twoB
    by_cases e1 : bothB t g l S = []
    · rw [if_neg (by simpa using e1)]
      have n1 := b3.none.1 e1
      by_cases e2 : stA t g S = []
      · rw [if_neg (by simpa using e2)]
        have n2 := tg.none.1 e2
        by_cases e3 : stA t l S = []
        · rw [if_neg (by simpa using e3)]
          have n3 := tl.none.1 e3
          refine ⟨hs, hS, h0.congr (fun s => ⟨fun hh => Or.inr (Or.inr (Or.inr ⟨n1, n2, n3, hh⟩)), ?_⟩)⟩
          rintro (⟨⟨u, hu⟩, _⟩ | ⟨_, ⟨u, hu⟩, _⟩ | ⟨_, _, ⟨u, hu⟩, _⟩ | ⟨_, _, _, hh⟩)
          · exact absurd hu (n1 u)
          · exact absurd hu (n2 u)
          · exact absurd hu (n3 u)
          · exact hh
        · rw [if_pos (by simpa using e3)]
          refine ⟨(stA_spec ht hl hS).1, stA_may ht hl hS, tl.congr (fun s => ⟨fun hh => Or.inr (Or.inr (Or.inl ⟨n1, n2, ⟨s, hh⟩, hh⟩)), ?_⟩)⟩
          rintro (⟨⟨u, hu⟩, _⟩ | ⟨_, ⟨u, hu⟩, _⟩ | ⟨_, _, _, hh⟩ | ⟨_, _, n3, _⟩)
          · exact absurd hu (n1 u)
          · exact absurd hu (n2 u)
          · exact hh
          · exact absurd (tl.none.2 n3) e3
      · rw [if_pos (by simpa using e2)]
        refine ⟨(stA_spec ht hg hS).1, stA_may ht hg hS, tg.congr (fun s => ⟨fun hh => Or.inr (Or.inl ⟨n1, ⟨s, hh⟩, hh⟩), ?_⟩)⟩
        rintro (⟨⟨u, hu⟩, _⟩ | ⟨_, _, hh⟩ | ⟨_, n2, _⟩ | ⟨_, n2, _⟩)
        · exact absurd hu (n1 u)
        · exact hh
        · exact absurd (tg.none.2 n2) e2
        · exact absurd (tg.none.2 n2) e2
    · rw [if_pos (by simpa using e1)]
      refine ⟨b1, b2, b3.congr (fun s => ⟨fun hh => Or.inl ⟨⟨s, hh⟩, hh⟩, ?_⟩)⟩
      rintro (⟨_, hh⟩ | ⟨n1, _⟩ | ⟨n1, _⟩ | ⟨n1, _⟩)
      · exact hh
      · exact absurd (b3.none.2 n1) e1
      · exact absurd (b3.none.2 n1) e1
      · exact absurd (b3.none.2 n1) e1

end Go.Proofs.Ytmboikpcbkiepaa
