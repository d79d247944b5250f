/-
  Rows told by two ways are the same, and how much five cards bring at the most: a table. No conditions beyond those that each theorem bears.
-/
import Derived.Test.YtneafmjbekafmaaCribDef
namespace Go.Proofs.Ytneafmjbekafmaa

/-- All lists of n numbers whose sum is s. -/
def vecs : Nat → Nat → List (List Nat)
  | 0, 0 => [[]]
  | 0, _ + 1 => []
  | n + 1, s => (List.range (s + 1)).flatMap (fun t => (vecs n (s - t)).map (t :: ·))

theorem mem_vecs : ∀ T : List Nat, T ∈ vecs T.length T.sum := by
  intro T
  induction T with
  | nil => simp [vecs]
  | cons t T ih =>
    simp only [List.length_cons, List.sum_cons, vecs, List.mem_flatMap, List.mem_range, List.mem_map]
    refine ⟨t, by omega, T, ?_, rfl⟩
    rw [show t + T.sum - t = T.sum by omega]
    exact ih

/-- The points of so many of each rank. -/
def unT : Nat → List Nat → List Nat
  | _, [] => []
  | k, t :: T => List.replicate t (if k + 1 ≤ 10 then k + 1 else 10) ++ unT (k + 1) T

def prsL : List Nat → Nat
  | [] => 0
  | t :: T => t * (t - 1) + prsL T

/-- What ranks alone bring. -/
def rkS (T : List Nat) : Nat := 2 * cnt (unT 0 T) 15 + prsL T + rowsF T 0 1

def checkT (T : List Nat) : Bool :=
  Nat.beq (rowsF T 0 1) (refRows T) && (T.any (fun t => Nat.ble 5 t) || (Nat.ble (rkS T) 28 && (Nat.ble 3 (prsL T) || Nat.ble (rkS T) 17)))

theorem ct5 : ((vecs 12 0).all fun l => checkT (5 :: l)) = true := by decide +kernel
theorem ct4 : ((vecs 12 1).all fun l => checkT (4 :: l)) = true := by decide +kernel
theorem ct3 : ((vecs 12 2).all fun l => checkT (3 :: l)) = true := by decide +kernel
theorem ct2 : ((vecs 12 3).all fun l => checkT (2 :: l)) = true := by decide +kernel
theorem ct1 : ((vecs 12 4).all fun l => checkT (1 :: l)) = true := by decide +kernel
theorem ct01 : ((vecs 11 4).all fun l => checkT (0 :: 1 :: l)) = true := by decide +kernel
theorem ct02 : ((vecs 11 3).all fun l => checkT (0 :: 2 :: l)) = true := by decide +kernel
theorem ct03 : ((vecs 11 2).all fun l => checkT (0 :: 3 :: l)) = true := by decide +kernel
theorem ct04 : ((vecs 11 1).all fun l => checkT (0 :: 4 :: l)) = true := by decide +kernel
theorem ct05 : ((vecs 11 0).all fun l => checkT (0 :: 5 :: l)) = true := by decide +kernel
theorem ct001 : ((vecs 10 4).all fun l => checkT (0 :: 0 :: 1 :: l)) = true := by decide +kernel
theorem ct002 : ((vecs 10 3).all fun l => checkT (0 :: 0 :: 2 :: l)) = true := by decide +kernel
theorem ct003 : ((vecs 10 2).all fun l => checkT (0 :: 0 :: 3 :: l)) = true := by decide +kernel
theorem ct004 : ((vecs 10 1).all fun l => checkT (0 :: 0 :: 4 :: l)) = true := by decide +kernel
theorem ct005 : ((vecs 10 0).all fun l => checkT (0 :: 0 :: 5 :: l)) = true := by decide +kernel
theorem ct0001 : ((vecs 9 4).all fun l => checkT (0 :: 0 :: 0 :: 1 :: l)) = true := by decide +kernel
theorem ct0002 : ((vecs 9 3).all fun l => checkT (0 :: 0 :: 0 :: 2 :: l)) = true := by decide +kernel
theorem ct0003 : ((vecs 9 2).all fun l => checkT (0 :: 0 :: 0 :: 3 :: l)) = true := by decide +kernel
theorem ct0004 : ((vecs 9 1).all fun l => checkT (0 :: 0 :: 0 :: 4 :: l)) = true := by decide +kernel
theorem ct0005 : ((vecs 9 0).all fun l => checkT (0 :: 0 :: 0 :: 5 :: l)) = true := by decide +kernel
theorem ct0000 : ((vecs 9 5).all fun l => checkT (0 :: 0 :: 0 :: 0 :: l)) = true := by decide +kernel

theorem split_vecs {n s : Nat} {p : List Nat → Bool} (h : ∀ t, t ≤ s → ((vecs n (s - t)).all fun l => p (t :: l)) = true) : ((vecs (n + 1) s).all p) = true := by
  rw [List.all_eq_true]
  intro l hl
  simp only [vecs, List.mem_flatMap, List.mem_range, List.mem_map] at hl
  obtain ⟨t, ht, m, hm, rfl⟩ := hl
  exact List.all_eq_true.1 (h t (by omega)) m hm

theorem ct_all : ((vecs 13 5).all checkT) = true := by
  refine split_vecs fun t ht => ?_
  obtain rfl | rfl | rfl | rfl | rfl | rfl : t = 0 ∨ t = 1 ∨ t = 2 ∨ t = 3 ∨ t = 4 ∨ t = 5 := by omega
  · refine split_vecs fun t ht => ?_
    obtain rfl | rfl | rfl | rfl | rfl | rfl : t = 0 ∨ t = 1 ∨ t = 2 ∨ t = 3 ∨ t = 4 ∨ t = 5 := by omega
    · refine split_vecs fun t ht => ?_
      obtain rfl | rfl | rfl | rfl | rfl | rfl : t = 0 ∨ t = 1 ∨ t = 2 ∨ t = 3 ∨ t = 4 ∨ t = 5 := by omega
      · refine split_vecs fun t ht => ?_
        obtain rfl | rfl | rfl | rfl | rfl | rfl : t = 0 ∨ t = 1 ∨ t = 2 ∨ t = 3 ∨ t = 4 ∨ t = 5 := by omega
        · exact ct0000
        · exact ct0001
        · exact ct0002
        · exact ct0003
        · exact ct0004
        · exact ct0005
      · exact ct001
      · exact ct002
      · exact ct003
      · exact ct004
      · exact ct005
    · exact ct01
    · exact ct02
    · exact ct03
    · exact ct04
    · exact ct05
  · exact ct1
  · exact ct2
  · exact ct3
  · exact ct4
  · exact ct5

end Go.Proofs.Ytneafmjbekafmaa
