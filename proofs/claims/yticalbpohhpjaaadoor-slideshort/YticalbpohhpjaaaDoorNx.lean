/-
  The next ring: what one move makes of trays and was not met yet. No conditions beyond those that each theorem bears.
-/
import Derived.Test.YticalbpohhpjaaaDoorTh
namespace Go.Proofs.YticalbpohhpjaaaDoor
open Go.RowKit

/-- What one move makes of a tray. -/
def nx1 (W H : Nat) (s : List (List Int × Int) × List (List Int × Nat)) (t : List Int × Nat) (d : Nat) : List (List Int × Int) × List (List Int × Nat) :=
  if cmv W H t.2 d = true then
    if (lk s.1 (pad6 (mvl t.1 t.2 (frm W H t.2 d).toNat))).isSome = true then s
    else (s.1 ++ [(pad6 (mvl t.1 t.2 (frm W H t.2 d).toNat), (((d + 2) % 4 : Nat) : Int))], s.2 ++ [(mvl t.1 t.2 (frm W H t.2 d).toNat, (frm W H t.2 d).toNat)])
  else s

/-- The first so many moves of it. -/
def nx4 (W H : Nat) (s : List (List Int × Int) × List (List Int × Nat)) (t : List Int × Nat) : Nat → List (List Int × Int) × List (List Int × Nat)
  | 0 => s
  | j + 1 => nx1 W H (nx4 W H s t j) t j

/-- What becomes of the first so many trays of a ring. -/
def nxk (W H : Nat) (A : List (List Int × Int)) (R : List (List Int × Nat)) : Nat → List (List Int × Int) × List (List Int × Nat)
  | 0 => (A, [])
  | k + 1 => nx4 W H (nxk W H A R k) (R.getD k ([], 0)) 4

/-- The next ring, and the map behind it. -/
def nxt (W H : Nat) (A : List (List Int × Int)) (R : List (List Int × Nat)) : List (List Int × Int) × List (List Int × Nat) := nxk W H A R R.length

theorem nx1_not {W H : Nat} {s : List (List Int × Int) × List (List Int × Nat)} {t : List Int × Nat} {d : Nat} (h : cmv W H t.2 d = false) : nx1 W H s t d = s := by
  unfold nx1; rw [if_neg (by rw [h]; simp)]

theorem nx1_met {W H : Nat} {s : List (List Int × Int) × List (List Int × Nat)} {t : List Int × Nat} {d q : Nat} (h : cmv W H t.2 d = true) (hq : frm W H t.2 d = q) (hm : (lk s.1 (pad6 (mvl t.1 t.2 q))).isSome = true) : nx1 W H s t d = s := by
  unfold nx1; rw [if_pos h, hq, Int.toNat_natCast, if_pos hm]

theorem nx1_new {W H : Nat} {s : List (List Int × Int) × List (List Int × Nat)} {t : List Int × Nat} {d q : Nat} (h : cmv W H t.2 d = true) (hq : frm W H t.2 d = q) (hm : lk s.1 (pad6 (mvl t.1 t.2 q)) = none) :
    nx1 W H s t d = (s.1 ++ [(pad6 (mvl t.1 t.2 q), (((d + 2) % 4 : Nat) : Int))], s.2 ++ [(mvl t.1 t.2 q, q)]) := by
  unfold nx1; rw [if_pos h, hq, Int.toNat_natCast, if_neg (by rw [hm]; simp)]

/-- A tray as it should be. -/
structure Gt (N : Nat) (t : List Int × Nat) : Prop where
  ord : IsOrd t.1
  len : t.1.length = N
  gap : ix t.1 0 = t.2

theorem Gt.lt {N : Nat} {t : List Int × Nat} (h : Gt N t) : t.2 < N ∧ t.1.getD t.2 0 = 0 := gap_lt h.len h.gap

theorem Gt.kz {N : Nat} {t : List Int × Nat} (h : Gt N t) (hN : N ≤ 6) : Kz (pad6 t.1) :=
  pad6_kz (by rw [h.len]; exact hN) (fun z hz => by have := h.ord.range z hz; have := h.len; omega)

theorem Gt.move {W H N d q : Nat} {t : List Int × Nat} (h : Gt N t) (hW : 2 ≤ W) (hN : W * H = N) (hd : d < 4) (hc : cmv W H t.2 d = true) (hq : frm W H t.2 d = q) : Gt N (mvl t.1 t.2 q, q) := by
  obtain ⟨hg, hz⟩ := h.lt
  obtain ⟨q', hq', hlt⟩ := frm_nat hc
  obtain rfl : q = q' := by omega
  rw [hN] at hlt
  have hne := frm_ne hW hd hc hq
  exact ⟨mvl_ord h.ord h.len hg hlt hz hne, by rw [mvl_length]; exact h.len, mvl_gap h.ord h.len hg hlt hz hne⟩

theorem Bw.ofMap {w w' : World} {cb N c mb : Nat} {Z : List Int} {A : List (List Int × Int)} (h : Bw w cb N c Z) (hM : Mz w mb A) (hk : Keeps (fun k => k = mb) w w') : Bw w' cb N c Z := by
  refine h.keeps hk ?_
  rintro rfl
  obtain ⟨es, clock, hb, _⟩ := hM
  rcases h.2 with ⟨hv, _⟩ | ⟨g, cap, cur, hv, -, hg, -⟩
  · simp at hv
  · simp only [Value.slice.injEq, Option.some.injEq, Addr.mk.injEq] at hv
    obtain ⟨⟨rfl, -⟩, -⟩ := hv
    rw [hb] at hg
    cases hg

theorem Tvs.ofMap {base : Nat} {w w' : World} {W H N mb : Nat} {v : Value} {L : List (List Int × Nat)} {A : List (List Int × Int)} (h : Tvs base w W H N v L) (hM : Mz w mb A) (hk : Keeps (fun k => k = mb) w w') : Tvs base w' W H N v L := by
  obtain ⟨vs, h1, h2, h3⟩ := h
  refine ⟨vs, own_blk h1 (fun g hg => hk.block g (h1.lt g hg).2 ?_), h2.imp (fun g c P hR => hR.ofMap hM hk), h3⟩
  rintro rfl
  obtain ⟨es, clock, hb, _⟩ := hM
  rcases h1.2 with ⟨hv, _⟩ | ⟨g', cap, cur, hv, -, hg', -⟩
  · rw [hv] at hg; cases hg
  · rw [hv] at hg
    simp only [Value.ownBlock, Option.some.injEq] at hg
    subst hg
    rw [hb] at hg'
    cases hg'

/-- What lies below is read behind changes of the map and of what is new. -/
theorem Tvs.old {base : Nat} {w w' : World} {W H N mb : Nat} {v : Value} {L : List (List Int × Nat)} {A : List (List Int × Int)} (h : Tvs base w W H N v L) (hM : Mz w mb A) (hk : Keeps (fun k => k = mb ∨ w.heap.size ≤ k) w w') : Tvs base w' W H N v L := by
  obtain ⟨es, clock, hb, _⟩ := hM
  have nm : ∀ {cs t fr}, w.heap[mb]? ≠ some (.cells cs t fr) := fun h => by rw [hb] at h; cases h
  obtain ⟨vs, h1, h2, h3⟩ := h
  refine ⟨vs, own_blk h1 (fun g hg => hk.block g (h1.lt g hg).2 ?_), h2.imp (fun g c P hR => hR.keeps hk ?_), h3⟩
  · have hlt := (h1.lt g hg).2
    rintro (rfl | hx)
    · rcases h1.2 with ⟨hv, _⟩ | ⟨g', cap, cur, hv, -, hg', -⟩
      · rw [hv] at hg; cases hg
      · rw [hv] at hg
        simp only [Value.ownBlock, Option.some.injEq] at hg
        subst hg
        exact nm hg'
    · omega
  · have hlt := hR.lt
    rintro (rfl | hx)
    · rcases hR.2 with ⟨hv, _⟩ | ⟨g', cap, cur, hv, -, hg', -⟩
      · simp at hv
      · simp only [Value.slice.injEq, Option.some.injEq, Addr.mk.injEq] at hv
        obtain ⟨⟨rfl, -⟩, -⟩ := hv
        exact nm hg'
    · omega

theorem nx1_len (W H : Nat) (s : List (List Int × Int) × List (List Int × Nat)) (t : List Int × Nat) (d : Nat) : (nx1 W H s t d).2.length ≤ s.2.length + 1 := by
  unfold nx1
  split
  · split <;> simp
  · omega

theorem nx4_len (W H : Nat) (s : List (List Int × Int) × List (List Int × Nat)) (t : List Int × Nat) (j : Nat) : (nx4 W H s t j).2.length ≤ s.2.length + j := by
  induction j with
  | zero => exact Nat.le_refl _
  | succ j ih => have := nx1_len W H (nx4 W H s t j) t j; unfold nx4; omega

theorem nxk_len (W H : Nat) (A : List (List Int × Int)) (R : List (List Int × Nat)) (k : Nat) : (nxk W H A R k).2.length ≤ 4 * k := by
  induction k with
  | zero => simp [nxk]
  | succ k ih => have := nx4_len W H (nxk W H A R k) (R.getD k ([], 0)) 4; unfold nxk; omega

end Go.Proofs.YticalbpohhpjaaaDoor
