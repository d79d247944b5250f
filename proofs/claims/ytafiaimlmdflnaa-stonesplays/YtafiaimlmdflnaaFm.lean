/-
  Behind a stone put each group has liberties, where each had; stones counted. No conditions beyond those that each theorem bears.
-/
import Derived.Test.YtafiaimlmdflnaaAv
import Derived.Test.YtafiaimlmdflnaaPm
import Derived.Test.YtafiaimlmdflnaaRr
namespace Go.Proofs.Ytafiaimlmdflnaa

/-- Each group has liberties. -/
def frB (W H : Nat) (Z : List Int) : Prop := ∀ q, q < W * H → Z.getD q 0 ≠ 0 → (lib W H Z (grp W H Z q)).length ≠ 0

/-- A liberty of a stone's group. -/
def HL (W H : Nat) (Z : List Int) (q : Nat) : Prop := ∃ r x, r < W * H ∧ Z.getD r 0 = 0 ∧ Wk (W * H) (nb4 W H) (fun y => Z.getD y 0 = Z.getD q 0) q x ∧ r ∈ nb4 W H x

theorem lib_ne {W H : Nat} {Z : List Int} {q : Nat} : (lib W H Z (grp W H Z q)).length ≠ 0 ↔ HL W H Z q := by
  constructor
  · intro h
    obtain ⟨r, hr⟩ := List.exists_mem_of_length_pos (Nat.pos_of_ne_zero h)
    unfold lib at hr
    obtain ⟨h1, h2, x, h3, h4⟩ := mem_pls.1 hr
    unfold grp at h3
    exact ⟨r, x, h1, h2, mem_spr.1 h3, h4⟩
  · rintro ⟨r, x, h1, h2, h3, h4⟩ h
    have : r ∈ lib W H Z (grp W H Z q) := by
      unfold lib
      refine mem_pls.2 ⟨h1, h2, x, ?_, h4⟩
      unfold grp
      exact mem_spr.2 h3
    rw [List.eq_nil_of_length_eq_zero h] at this
    cases this

theorem grp_same {W H : Nat} {Z : List Int} {q y : Nat} (h : Wk (W * H) (nb4 W H) (fun r => Z.getD r 0 = Z.getD q 0) q y) : grp W H Z y = grp W H Z q := by
  have hv : Z.getD y 0 = Z.getD q 0 := h.right
  unfold grp
  rw [hv]
  unfold spr
  exact pls_congr fun r _ => ⟨fun h' => h.trans h', fun h' => (h.symm (fun _ _ hp hq => nb4_symm hp hq)).trans h'⟩

section
variable {W H : Nat} {Z : List Int} {m p : Nat}

theorem pz_len (hZ : Z.length = W * H) : (pz W H Z m p).length = W * H := by unfold pz; rw [clr_len, List.length_set, hZ]

theorem pz_at (hZ : Z.length = W * H) (q : Nat) : (pz W H Z m p).getD q 0 = if q ∈ gone W H (Z.set p (m : Int)) ((3 - m : Nat) : Int) then 0 else (Z.set p (m : Int)).getD q 0 := by
  unfold pz
  refine clr_getD _ _ _ fun r hr => ?_
  rw [List.length_set, hZ]
  have := mem_gone.1 hr
  unfold goneR at this
  exact (mem_pls.1 this).1

theorem gone_at {Y : List Int} {v : Int} {q : Nat} (h : q ∈ gone W H Y v) : q < W * H ∧ Y.getD q 0 = v ∧ (lib W H Y (grp W H Y q)).length = 0 := by
  have := mem_gone.1 h
  unfold goneR at this
  exact mem_pls.1 this

theorem pz_free (hZ : Z.length = W * H) (hz : ∀ q, 0 ≤ Z.getD q 0 ∧ Z.getD q 0 ≤ 2) (hm : m = 1 ∨ m = 2) (hp : p < W * H) (hok : pok W H Z m p) (hf : frB W H Z) : frB W H (pz W H Z m p) := by
  have hs : ∀ q, (Z.set p (m : Int)).getD q 0 = if p = q then (m : Int) else Z.getD q 0 := fun q => by
    rw [set_getD]
    by_cases e : p = q
    · rw [if_pos ⟨e, by rw [hZ]; exact hp⟩, if_pos e]
    · rw [if_neg (fun h => e h.1), if_neg e]
  have hpz := pz_at (m := m) (p := p) hZ
  have hm0 : (m : Int) ≠ 0 := by omega
  have hmv : (m : Int) ≠ ((3 - m : Nat) : Int) := by omega
  have hv0 : ((3 - m : Nat) : Int) ≠ 0 := by omega
  -- the mover's stones stay
  have mine : ∀ q, (Z.set p (m : Int)).getD q 0 = m → (pz W H Z m p).getD q 0 = m := fun q h => by
    rw [hpz q, if_neg (fun hg => hmv (h.symm.trans (gone_at hg).2.1))]
    exact h
  have zero : ∀ q, (Z.set p (m : Int)).getD q 0 = 0 → (pz W H Z m p).getD q 0 = 0 := fun q h => by
    rw [hpz q]
    split
    · rfl
    · exact h
  intro q hq hne
  by_cases hg : q ∈ gone W H (Z.set p (m : Int)) ((3 - m : Nat) : Int)
  · rw [hpz q, if_pos hg] at hne
    exact absurd rfl hne
  have hq1 : (pz W H Z m p).getD q 0 = (Z.set p (m : Int)).getD q 0 := by rw [hpz q, if_neg hg]
  by_cases hv : (Z.set p (m : Int)).getD q 0 = ((3 - m : Nat) : Int)
  · -- the other's
    have hl : (lib W H (Z.set p (m : Int)) (grp W H (Z.set p (m : Int)) q)).length ≠ 0 := fun h => hg (mem_gone.2 (by unfold goneR; exact mem_pls.2 ⟨hq, hv, h⟩))
    obtain ⟨r, x, h1, h2, h3, h4⟩ := lib_ne.1 hl
    refine lib_ne.2 ⟨r, x, h1, zero r h2, ?_, h4⟩
    refine h3.near fun y hy => ?_
    rw [hq1, hpz y, if_neg (fun hgy => hl ?_)]
    · exact hy.right
    · have := (gone_at hgy).2.2
      rwa [grp_same hy] at this
  · -- the mover's
    have hmq : (Z.set p (m : Int)).getD q 0 = m := by
      rw [hs q] at hv hq1 ⊢
      rw [hq1] at hne
      by_cases e : p = q
      · rw [if_pos e]
      · rw [if_neg e] at hv hne ⊢
        have := hz q
        omega
    have hmq2 := mine q hmq
    by_cases hw : Wk (W * H) (nb4 W H) (fun y => (pz W H Z m p).getD y 0 = (pz W H Z m p).getD q 0) q p
    · have := grp_same hw
      rw [← this]
      exact hok
    · have hqp : p ≠ q := fun e => hw (by rw [← e]; exact .refl hp rfl)
      have hZq : Z.getD q 0 = m := by rw [hs q, if_neg hqp] at hmq; exact hmq
      obtain ⟨r, x, h1, h2, h3, h4⟩ := lib_ne.1 (hf q hq (by rw [hZq]; exact hm0))
      have hst : Wk (W * H) (nb4 W H) (fun y => (pz W H Z m p).getD y 0 = (pz W H Z m p).getD q 0) q x := by
        refine h3.mono fun y _ hy => ?_
        rw [hmq2]
        refine mine y ?_
        rw [hs y]
        split
        · rfl
        · rw [hy, hZq]
      refine lib_ne.2 ⟨r, x, h1, ?_, hst, h4⟩
      have hrp : p ≠ r := fun e => hw (by
        subst e
        exact .step hst h4 hp (by rw [hmq2]; exact mine p (by rw [hs p, if_pos rfl])))
      exact zero r (by rw [hs r, if_neg hrp]; exact h2)

theorem full_yes (Z : List Int) (N : Nat) : full Z N = (yes N (fun q => decide (Z.getD q 0 ≠ 0))).length := by unfold full yes; rfl

theorem full_put {N q : Nat} {Y : List Int} {x : Int} (hY : Y.length = N) (hq : q < N) (h0 : Y.getD q 0 = 0) (hx : x ≠ 0) : full (Y.set q x) N = full Y N + 1 := by
  rw [full_yes, full_yes, ← yes_upd (S := fun q => decide (Y.getD q 0 ≠ 0)) hq (by simpa using h0)]
  congr 1
  unfold yes
  refine List.filter_congr fun r _ => ?_
  unfold upd
  rw [set_getD]
  by_cases e : r = q
  · subst e
    rw [if_pos ⟨rfl, by omega⟩, if_pos rfl]
    simpa using hx
  · rw [if_neg (fun h => e h.1.symm), if_neg e]

theorem full_clr {N : Nat} (S : List Nat) : ∀ (Y : List Int), Y.length = N → S.Nodup → (∀ q ∈ S, q < N ∧ Y.getD q 0 ≠ 0) → full (clr Y S) N + S.length = full Y N := by
  induction S with
  | nil => exact fun Y _ _ _ => rfl
  | cons q S ih =>
    intro Y hY hnd hS
    obtain ⟨hq, hne⟩ := hS q (by simp)
    obtain ⟨n1, n2⟩ := List.nodup_cons.1 hnd
    have h1 := ih (Y.set q 0) (by rw [List.length_set]; exact hY) n2 (fun r hr => by
      obtain ⟨a, b⟩ := hS r (List.mem_cons_of_mem _ hr)
      refine ⟨a, ?_⟩
      rw [set_getD, if_neg (fun h : q = r ∧ q < Y.length => n1 (h.1 ▸ hr))]
      exact b)
    have h2 : full Y N = full (Y.set q 0) N + 1 := by
      have := full_put (Y := Y.set q 0) (N := N) (q := q) (x := Y.getD q 0) (by rw [List.length_set]; exact hY) hq (by rw [set_getD, if_pos ⟨rfl, by omega⟩]) hne
      rw [List.set_set] at this
      rw [← this]
      congr 1
      refine list_getD (by simp) fun i _ => ?_
      rw [set_getD]
      by_cases e : q = i
      · subst e; rw [if_pos ⟨rfl, by omega⟩]
      · rw [if_neg (fun h => e h.1)]
    show full (clr (Y.set q 0) S) N + (S.length + 1) = _
    omega

theorem pz_full (hZ : Z.length = W * H) (hm : m = 1 ∨ m = 2) (hp : p < W * H) (h0 : Z.getD p 0 = 0) : full (pz W H Z m p) (W * H) + pt W H Z m p = full Z (W * H) + 1 := by
  rw [← full_put (x := (m : Int)) hZ hp h0 (by omega)]
  unfold pz pt
  refine full_clr _ _ (by rw [List.length_set]; exact hZ) (gone_nodup _ _ _ _) (fun q hq => ?_)
  obtain ⟨a, b, _⟩ := gone_at hq
  exact ⟨a, by rw [b]; omega⟩

theorem pz_may {cW cH : Int} (hW : cW = W) (hH : cH = H) (h : mayP cW cH Z) (hm : m = 1 ∨ m = 2) : mayP cW cH (pz W H Z m p) := by
  subst hW hH
  obtain ⟨h1, h2, h3, h4, h5, h6⟩ := h
  have hZ : Z.length = W * H := by
    have : (Z.length : Int) = ((W * H : Nat) : Int) := by rw [h5]; simp
    omega
  refine ⟨h1, h2, h3, h4, by rw [pz_len hZ, ← hZ]; exact h5, fun z hz => ?_⟩
  obtain ⟨i, hi, rfl⟩ := List.getElem_of_mem hz
  have e : (pz W H Z m p)[i] = (pz W H Z m p).getD i 0 := by simp [List.getD, hi]
  rw [e, pz_at hZ]
  split
  · omega
  · rw [set_getD]
    split
    · omega
    · exact getD_bound h6 i
end

end Go.Proofs.Ytafiaimlmdflnaa
