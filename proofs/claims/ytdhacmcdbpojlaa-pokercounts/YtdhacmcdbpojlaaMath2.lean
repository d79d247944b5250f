/-
  The value of five unlike cards is the reference's. No conditions beyond those that each theorem bears.
-/
import Derived.Test.YtdhacmcdbpojlaaTab1
import Derived.Test.YtdhacmcdbpojlaaTab2
import Derived.Test.YtdhacmcdbpojlaaTab3
import Derived.Test.YtdhacmcdbpojlaaTab4
namespace Go.Proofs.Ytdhacmcdbpojlaa
open Go.RowKit Go.Shelf

theorem chk_all (a b : Nat) (hab : a ≤ b) (hb : b < 13) : ((sortedFrom 3 b).all fun l => checkR (a :: b :: l)) = true := by
  obtain h | h | h | h | h | h | h | h | h | h | h | h | h : a = 0 ∨ a = 1 ∨ a = 2 ∨ a = 3 ∨ a = 4 ∨ a = 5 ∨ a = 6 ∨ a = 7 ∨ a = 8 ∨ a = 9 ∨ a = 10 ∨ a = 11 ∨ a = 12 := by omega
  · subst h
    obtain h | h | h | h | h | h | h | h | h | h | h | h | h : b = 0 ∨ b = 1 ∨ b = 2 ∨ b = 3 ∨ b = 4 ∨ b = 5 ∨ b = 6 ∨ b = 7 ∨ b = 8 ∨ b = 9 ∨ b = 10 ∨ b = 11 ∨ b = 12 := by omega
    · subst h; exact chk0x0
    · subst h; exact chk0x1
    · subst h; exact chk0x2
    · subst h; exact chk0x3
    · subst h; exact chk0x4
    · subst h; exact chk0x5
    · subst h; exact chk0x6
    · subst h; exact chk0x7
    · subst h; exact chk0x8
    · subst h; exact chk0x9
    · subst h; exact chk0x10
    · subst h; exact chk0x11
    · subst h; exact chk0x12
  · subst h
    obtain h | h | h | h | h | h | h | h | h | h | h | h : b = 1 ∨ b = 2 ∨ b = 3 ∨ b = 4 ∨ b = 5 ∨ b = 6 ∨ b = 7 ∨ b = 8 ∨ b = 9 ∨ b = 10 ∨ b = 11 ∨ b = 12 := by omega
    · subst h; exact chk1x1
    · subst h; exact chk1x2
    · subst h; exact chk1x3
    · subst h; exact chk1x4
    · subst h; exact chk1x5
    · subst h; exact chk1x6
    · subst h; exact chk1x7
    · subst h; exact chk1x8
    · subst h; exact chk1x9
    · subst h; exact chk1x10
    · subst h; exact chk1x11
    · subst h; exact chk1x12
  · subst h
    obtain h | h | h | h | h | h | h | h | h | h | h : b = 2 ∨ b = 3 ∨ b = 4 ∨ b = 5 ∨ b = 6 ∨ b = 7 ∨ b = 8 ∨ b = 9 ∨ b = 10 ∨ b = 11 ∨ b = 12 := by omega
    · subst h; exact chk2x2
    · subst h; exact chk2x3
    · subst h; exact chk2x4
    · subst h; exact chk2x5
    · subst h; exact chk2x6
    · subst h; exact chk2x7
    · subst h; exact chk2x8
    · subst h; exact chk2x9
    · subst h; exact chk2x10
    · subst h; exact chk2x11
    · subst h; exact chk2x12
  · subst h
    obtain h | h | h | h | h | h | h | h | h | h : b = 3 ∨ b = 4 ∨ b = 5 ∨ b = 6 ∨ b = 7 ∨ b = 8 ∨ b = 9 ∨ b = 10 ∨ b = 11 ∨ b = 12 := by omega
    · subst h; exact chk3x3
    · subst h; exact chk3x4
    · subst h; exact chk3x5
    · subst h; exact chk3x6
    · subst h; exact chk3x7
    · subst h; exact chk3x8
    · subst h; exact chk3x9
    · subst h; exact chk3x10
    · subst h; exact chk3x11
    · subst h; exact chk3x12
  · subst h
    obtain h | h | h | h | h | h | h | h | h : b = 4 ∨ b = 5 ∨ b = 6 ∨ b = 7 ∨ b = 8 ∨ b = 9 ∨ b = 10 ∨ b = 11 ∨ b = 12 := by omega
    · subst h; exact chk4x4
    · subst h; exact chk4x5
    · subst h; exact chk4x6
    · subst h; exact chk4x7
    · subst h; exact chk4x8
    · subst h; exact chk4x9
    · subst h; exact chk4x10
    · subst h; exact chk4x11
    · subst h; exact chk4x12
  · subst h
    obtain h | h | h | h | h | h | h | h : b = 5 ∨ b = 6 ∨ b = 7 ∨ b = 8 ∨ b = 9 ∨ b = 10 ∨ b = 11 ∨ b = 12 := by omega
    · subst h; exact chk5x5
    · subst h; exact chk5x6
    · subst h; exact chk5x7
    · subst h; exact chk5x8
    · subst h; exact chk5x9
    · subst h; exact chk5x10
    · subst h; exact chk5x11
    · subst h; exact chk5x12
  · subst h
    obtain h | h | h | h | h | h | h : b = 6 ∨ b = 7 ∨ b = 8 ∨ b = 9 ∨ b = 10 ∨ b = 11 ∨ b = 12 := by omega
    · subst h; exact chk6x6
    · subst h; exact chk6x7
    · subst h; exact chk6x8
    · subst h; exact chk6x9
    · subst h; exact chk6x10
    · subst h; exact chk6x11
    · subst h; exact chk6x12
  · subst h
    obtain h | h | h | h | h | h : b = 7 ∨ b = 8 ∨ b = 9 ∨ b = 10 ∨ b = 11 ∨ b = 12 := by omega
    · subst h; exact chk7x7
    · subst h; exact chk7x8
    · subst h; exact chk7x9
    · subst h; exact chk7x10
    · subst h; exact chk7x11
    · subst h; exact chk7x12
  · subst h
    obtain h | h | h | h | h : b = 8 ∨ b = 9 ∨ b = 10 ∨ b = 11 ∨ b = 12 := by omega
    · subst h; exact chk8x8
    · subst h; exact chk8x9
    · subst h; exact chk8x10
    · subst h; exact chk8x11
    · subst h; exact chk8x12
  · subst h
    obtain h | h | h | h : b = 9 ∨ b = 10 ∨ b = 11 ∨ b = 12 := by omega
    · subst h; exact chk9x9
    · subst h; exact chk9x10
    · subst h; exact chk9x11
    · subst h; exact chk9x12
  · subst h
    obtain h | h | h : b = 10 ∨ b = 11 ∨ b = 12 := by omega
    · subst h; exact chk10x10
    · subst h; exact chk10x11
    · subst h; exact chk10x12
  · subst h
    obtain h | h : b = 11 ∨ b = 12 := by omega
    · subst h; exact chk11x11
    · subst h; exact chk11x12
  · subst h
    obtain rfl : b = 12 := by omega
    exact chk12x12

theorem checkSorted (l : List Nat) (h5 : l.length = 5) (hs : l.Pairwise (· ≤ ·)) (hb : ∀ x ∈ l, x < 13) : checkR l = true := by
  match l, h5 with
  | [a, b, c, d, e], _ =>
    rw [List.pairwise_cons, List.pairwise_cons] at hs
    have h1 := chk_all a b (hs.1 b (by simp)) (hb b (by simp))
    rw [List.all_eq_true] at h1
    exact h1 [c, d, e] (mem_sortedFrom [c, d, e] b hs.2.2 (fun x hx => ⟨hs.2.1 x hx, hb x (by simp only [List.mem_cons] at hx ⊢; exact .inr (.inr hx))⟩))

theorem distB_nodup (l : List Nat) : distB l = true ↔ l.Nodup := by
  induction l with
  | nil => simp [distB]
  | cons x l ih => simp [distB, ih, List.nodup_cons]

theorem count_five (l : List Nat) (x : Nat) (h5 : l.length = 5) (h : l.count x = 5) : ∀ y ∈ l, y = x := by
  intro y hy
  have h1 : l.count x = l.length := by omega
  exact (List.count_eq_length.1 h1 y hy).symm

theorem rank_ne {x y : Nat} (h : x % 4 = y % 4) (hn : ¬ x = y) : ¬ x / 4 = y / 4 := by omega

set_option maxHeartbeats 1000000 in
/-- The program's value of five unlike cards is the reference's. -/
theorem valN_ref (a b c d e : Nat) (hlt : ∀ x ∈ [a, b, c, d, e], x < 52) (hnd : [a, b, c, d, e].Nodup) :
    valN a b c d e = refF (flN a b c d e) (mny [a, b, c, d, e]) ∧ GoodT (mny [a, b, c, d, e]) := by
  obtain ⟨rs, hrs⟩ : ∃ rs, [a, b, c, d, e].map (· / 4) = rs := ⟨_, rfl⟩
  have hp : (isort rs).Perm rs := isort_perm rs
  have hl : rs.length = 5 := by rw [← hrs]; rfl
  have hb : ∀ x ∈ rs, x < 13 := by
    intro x hx
    rw [← hrs] at hx
    obtain ⟨y, hy, rfl⟩ := List.mem_map.1 hx
    have := hlt y hy
    omega
  have hck := checkSorted (isort rs) (by rw [isort_length, hl]) (isort_sorted rs) (fun x hx => hb x (hp.mem_iff.1 hx))
  have em : mny [a, b, c, d, e] = mnyR (isort rs) := by
    rw [mnyR_perm hp, ← hrs]; rfl
  have ev : ∀ fl, valF fl (stepS (wsOf [a, b, c, d, e]) 5).2 (stepS (wsOf [a, b, c, d, e]) 5).1 ((wsOf [a, b, c, d, e]).getD 4 0 / 13) = valR fl (isort rs) := by
    intro fl
    rw [wsOf_eq, hrs, valR, wsR_perm hp]
  simp only [List.nodup_cons, List.mem_cons, List.not_mem_nil, or_false, not_or] at hnd
  have hn5 : ¬ (isort rs).count ((isort rs).getD 0 0) = 5 := by
    intro hc
    have h1 := count_five (isort rs) _ (by rw [isort_length, hl]) hc
    have h2 : ∀ y ∈ rs, y = (isort rs).getD 0 0 := fun y hy => h1 y (hp.mem_iff.2 hy)
    rw [← hrs] at h2
    have ha := h2 (a / 4) (by simp)
    have hb' := h2 (b / 4) (by simp)
    have hc' := h2 (c / 4) (by simp)
    have hd := h2 (d / 4) (by simp)
    have he := h2 (e / 4) (by simp)
    omega
  unfold checkR at hck
  simp only [hn5, decide_false, Bool.false_or, Bool.and_eq_true, decide_eq_true_eq, Bool.or_eq_true, Bool.not_eq_true'] at hck
  obtain ⟨⟨hg, hf⟩, ht⟩ := hck
  refine ⟨?_, by rw [em]; exact good_of hg⟩
  rw [valN, ev, em]
  cases hfl : flN a b c d e with
  | false => exact hf
  | true =>
    rcases ht with ht | ht
    · exfalso
      have hdist : rs.Nodup := by
        rw [← hrs]
        simp only [flN, decide_eq_true_eq] at hfl
        obtain ⟨⟨nab, nac, nad, nae⟩, ⟨nbc, nbd, nbe⟩, ⟨ncd, nce⟩, nde, _⟩ := hnd
        obtain ⟨fb, fc, fd, fe⟩ := hfl
        have qab := rank_ne fb.symm nab
        have qac := rank_ne fc.symm nac
        have qad := rank_ne fd.symm nad
        have qae := rank_ne fe.symm nae
        have qbc := rank_ne (fb.trans fc.symm) nbc
        have qbd := rank_ne (fb.trans fd.symm) nbd
        have qbe := rank_ne (fb.trans fe.symm) nbe
        have qcd := rank_ne (fc.trans fd.symm) ncd
        have qce := rank_ne (fc.trans fe.symm) nce
        have qde := rank_ne (fd.trans fe.symm) nde
        simp [List.nodup_cons, qab, qac, qad, qae, qbc, qbd, qbe, qcd, qce, qde]
      have := (distB_nodup (isort rs)).2 (hp.nodup_iff.2 hdist)
      rw [this] at ht
      cases ht
    · exact ht

end Go.Proofs.Ytdhacmcdbpojlaa
