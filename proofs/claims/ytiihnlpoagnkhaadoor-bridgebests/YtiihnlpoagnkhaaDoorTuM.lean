/-
  Four hands out of a row of cards; moved on by one player. No conditions beyond those that each theorem bears.
-/
import Derived.Test.YtiihnlpoagnkhaaDoorBest
import Derived.Test.YtiihnlpoagnkhaaDoorKHand2
namespace Go.Proofs.YtiihnlpoagnkhaaDoor
open Go.RowKit

/-- The i-th hand. -/
def Zh (L : List Nat) (n i : Nat) : List Nat := (L.drop (i * n)).take n

theorem Zh_length (L : List Nat) (n i : Nat) (hL : L.length = 4 * n) (hi : i < 4) : (Zh L n i).length = n := by
  unfold Zh
  rw [List.length_take, List.length_drop, hL]
  have : i * n + n ≤ 4 * n := by
    have : (i + 1) * n ≤ 4 * n := Nat.mul_le_mul_right n (by omega)
    rw [Nat.add_mul] at this
    omega
  omega

theorem Zh_mem (L : List Nat) (n i x : Nat) (h : x ∈ Zh L n i) : x ∈ L := List.mem_of_mem_drop (List.mem_of_mem_take h)

theorem Zh_get (L : List Nat) (n i j : Nat) (hj : j < n) : (Zh L n i).getD j 0 = L.getD (i * n + j) 0 := by
  simp [Zh, List.getD, hj, List.getElem?_drop]

theorem Zh_un (L : List Nat) (n : Nat) (hL : L.length = 4 * n) (hd : L.Nodup) (h52 : ∀ x ∈ L, x < 52) : Un (Zh L n) := by
  refine ⟨fun q _ x hx => h52 x (Zh_mem L n q x hx), fun q _ => List.Sublist.nodup ((List.take_sublist _ _).trans (List.drop_sublist _ _)) hd, ?_⟩
  intro q r hq hr hqr x hxq hxr
  obtain ⟨i, hi, e1⟩ := List.getElem_of_mem hxq
  obtain ⟨j, hj, e2⟩ := List.getElem_of_mem hxr
  have li := Zh_length L n q hL hq
  have lj := Zh_length L n r hL hr
  have g1 := Zh_get L n q i (by omega)
  have g2 := Zh_get L n r j (by omega)
  have a1 : (Zh L n q).getD i 0 = x := by simp [List.getD, hi, e1]
  have a2 : (Zh L n r).getD j 0 = x := by simp [List.getD, hj, e2]
  rw [a1] at g1
  rw [a2] at g2
  have b1 : q * n + i < L.length := by
    have : (q + 1) * n ≤ 4 * n := Nat.mul_le_mul_right n (by omega)
    rw [Nat.add_mul] at this
    omega
  have b2 : r * n + j < L.length := by
    have : (r + 1) * n ≤ 4 * n := Nat.mul_le_mul_right n (by omega)
    rw [Nat.add_mul] at this
    omega
  have e3 : L[q * n + i] = L[r * n + j] := by
    have h1 : L.getD (q * n + i) 0 = L[q * n + i] := by simp [List.getD, b1]
    have h2 : L.getD (r * n + j) 0 = L[r * n + j] := by simp [List.getD, b2]
    rw [← h1, ← h2, ← g1, ← g2]
  have e4 : q * n + i = r * n + j := (List.getElem?_inj b1 hd).1 (by rw [List.getElem?_eq_getElem b1, List.getElem?_eq_getElem b2, e3])
  rcases Nat.lt_or_gt_of_ne hqr with h | h
  · have : (q + 1) * n ≤ r * n := Nat.mul_le_mul_right n (by omega)
    rw [Nat.add_mul] at this
    omega
  · have : (r + 1) * n ≤ q * n := Nat.mul_le_mul_right n (by omega)
    rw [Nat.add_mul] at this
    omega

theorem un_moved (Z : Nat → List Nat) (U : Un Z) : Un (fun p => Z ((p + 3) % 4)) :=
  ⟨fun q hq => U.lt _ (Nat.mod_lt _ (by omega)), fun q hq => U.dup _ (Nat.mod_lt _ (by omega)), fun q r hq hr hqr => U.one _ _ (Nat.mod_lt _ (by omega)) (Nat.mod_lt _ (by omega)) (by omega)⟩

theorem turn_sum (Z : Nat → List Nat) (n : Nat) (hn : 1 ≤ n) (hZ : ∀ i, i < 4 → (Z i).length = n) (s : Int) (ld : Nat) (hld : ld < 4) (m m2 : Nat) (hold hold2 : Nat → Nat) (h1 : ∀ p, p < 4 → (Z p).Perm (HF m hold p)) (h2 : ∀ p, p < 4 → (Z ((p + 3) % 4)).Perm (HF m2 hold2 p)) :
    TrV m hold s ld n ≤ n ∧ TrV m hold s ld n + TrV m2 hold2 s ((ld + 1) % 4) n = n := by
  have e1 : TrV m hold s ld n = bt (winF s) (5 * n) Z ld [] := by
    rw [TrV, if_neg (by omega)]
    exact (bt_perm (winF s) _ _ _ _ _ h1).symm
  have e2 : TrV m2 hold2 s ((ld + 1) % 4) n = bt (winF s) (5 * n) (fun p => Z ((p + 3) % 4)) ((ld + 1) % 4) [] := by
    rw [TrV, if_neg (by omega)]
    exact (bt_perm (winF s) _ _ _ _ _ h2).symm
  have hE : Even4 Z ld 0 n := fun p hp => by rw [if_neg (by omega), hZ p hp]
  obtain ⟨a1, a2⟩ := bt_turn (winF s) (winF_lt s) (5 * n) Z ld n [] hld hn (by simp) (by simpa using hE) (by simp; omega)
  rw [e1, e2, a2]
  omega

/-- A hand's value. -/
def hv (lb lo lc n i : Nat) : Value := .slice (some ⟨lb, lo + i * n, none⟩) n (lc - i * n)

theorem hv_rd {w : World} {lb lo lc n : Nat} {L : List Nat} (h : Rd w (some ⟨lb, lo, none⟩) (4 * n) lc (toI L)) (hn : 1 ≤ n) (i : Nat) (hi : i < 4) : Rd w (some ⟨lb, lo + i * n, none⟩) n (lc - i * n) (toI (Zh L n i)) := by
  have hL : L.length = 4 * n := by have := h.len; rwa [toI_length] at this
  have hm : i * n + n ≤ 4 * n := by
    have : (i + 1) * n ≤ 4 * n := Nat.mul_le_mul_right n (by omega)
    rw [Nat.add_mul] at this
    omega
  have hc := h.cap
  have hx := h.max
  refine ⟨by rw [toI_length, Zh_length L n i hL hi], by omega, by omega, (fun e => by simp at e), fun _ => ⟨lb, lo + i * n, rfl, fun j hj => ?_⟩⟩
  obtain ⟨b, off, e, hcell⟩ := h.cells (by omega)
  simp only [Option.some.injEq, Addr.mk.injEq, and_true] at e
  obtain ⟨rfl, rfl⟩ := e
  have := hcell (i * n + j) (by omega)
  rw [Nat.add_assoc, this, toI_getD, toI_getD, Zh_get L n i j hj]

theorem Tryd.info27 : (Tryd.prog.info? 27).map (fun i => (i.zero, i.size, i.bytes)) = some (some (.slice none 0 0), 1, 24) := by kernel_rfl

end Go.Proofs.YtiihnlpoagnkhaaDoor
