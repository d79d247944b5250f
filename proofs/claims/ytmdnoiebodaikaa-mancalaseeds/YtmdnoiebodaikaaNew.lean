/-
  New boards. No conditions beyond those that each theorem bears.
-/
import Derived.Test.YtmdnoiebodaikaaMay
namespace Go.Proofs.Ytmdnoiebodaikaa
open Go.RowKit

def nk (p x : Nat) (s : Int) : Nat → List Int → List Int
  | 0, T => T
  | k + 1, T => (nk p x s k T).set (pl p x k) s

def nxs (p : Nat) (s : Int) : Nat → List Int
  | 0 => List.replicate 14 0
  | x + 1 => nk p x s p (nxs p s x)

theorem nk_zero (p x : Nat) (s : Int) (T : List Int) : nk p x s 0 T = T := rfl
theorem nk_succ (p x : Nat) (s : Int) (k : Nat) (T : List Int) : nk p x s (k + 1) T = (nk p x s k T).set (pl p x k) s := rfl
theorem nxs_zero (p : Nat) (s : Int) : nxs p s 0 = List.replicate 14 0 := rfl
theorem nxs_succ (p : Nat) (s : Int) (x : Nat) : nxs p s (x + 1) = nk p x s p (nxs p s x) := rfl

theorem nk_length (p x : Nat) (s : Int) (T : List Int) : ∀ k, (nk p x s k T).length = T.length
  | 0 => rfl
  | k + 1 => by rw [nk, List.length_set, nk_length p x s T k]

theorem nxs_length (p : Nat) (s : Int) : ∀ x, (nxs p s x).length = 14
  | 0 => rfl
  | x + 1 => by rw [nxs, nk_length, nxs_length p s x]

theorem nk_getD {p x : Nat} (hx : x ≤ 1) (hp : p ≤ 6) (s : Int) {T : List Int} (hT : T.length = 14) (j : Nat) : ∀ k, k ≤ p → (nk p x s k T).getD j 0 = if pl p x 0 ≤ j ∧ j < pl p x k then s else T.getD j 0
  | 0, _ => by rw [nk_zero, if_neg (by omega)]
  | k + 1, hk => by
    have h1 := pl_lt (p := p) hx (show k ≤ p by omega)
    have e1 : pl p x (k + 1) = pl p x k + 1 := by unfold pl; omega
    have e2 : pl p x 0 ≤ pl p x k := by unfold pl; omega
    rw [nk_succ, getD_set _ _ _ _ (by rw [nk_length, hT]; omega), nk_getD hx hp s hT j k (by omega)]
    by_cases e : j = pl p x k
    · rw [if_pos e, if_pos (by omega)]
    · rw [if_neg e]
      by_cases e3 : pl p x 0 ≤ j ∧ j < pl p x k
      · rw [if_pos e3, if_pos (by omega)]
      · rw [if_neg e3, if_neg (by omega)]

/-- A new board's seeds. -/
def newL (p : Nat) (s : Int) (n : Nat) : List Int := (List.range n).map fun j => if j % (p + 1) = p then 0 else s

theorem newL_length (p : Nat) (s : Int) (n : Nat) : (newL p s n).length = n := by simp [newL]
theorem newL_getD (p : Nat) (s : Int) (n j : Nat) (hj : j < n) : (newL p s n).getD j 0 = if j % (p + 1) = p then 0 else s := by simp [newL, List.getD, hj]
theorem newL_succ (p : Nat) (s : Int) (n : Nat) : newL p s (n + 1) = newL p s n ++ [if n % (p + 1) = p then 0 else s] := by simp [newL, List.range_succ]

theorem nxs_take {p : Nat} (hp1 : 1 ≤ p) (hp : p ≤ 6) (s : Int) : (nxs p s 2).take (2 * (p + 1)) = newL p s (2 * (p + 1)) := by
  refine getD_ext _ _ (2 * (p + 1)) (by rw [List.length_take, nxs_length]; omega) (newL_length _ _ _) fun j hj => ?_
  rw [take_getD _ _ _ hj, newL_getD _ _ _ _ hj, nxs_succ, nk_getD (by omega) hp s (nxs_length _ _ _) j p (Nat.le_refl _), nxs_succ, nk_getD (by omega) hp s (nxs_length _ _ _) j p (Nat.le_refl _), nxs_zero, rep0]
  simp only [pl0, pl1]
  have hm : j % (p + 1) = p ↔ j = p ∨ j = 2 * p + 1 := by
    rcases (show p = 1 ∨ p = 2 ∨ p = 3 ∨ p = 4 ∨ p = 5 ∨ p = 6 by omega) with rfl | rfl | rfl | rfl | rfl | rfl <;> omega
  by_cases e : j = p ∨ j = 2 * p + 1
  · rw [if_pos (hm.2 e), if_neg (by omega), if_neg (by omega)]
  · rw [if_neg (fun h => e (hm.1 h))]
    by_cases e2 : p + 1 + 0 ≤ j ∧ j < p + 1 + p
    · rw [if_pos e2]
    · rw [if_neg e2, if_pos (by omega)]

def newB (pits s : Int) : Bool := decide (1 ≤ pits ∧ pits ≤ 6 ∧ 0 ≤ s ∧ s ≤ 10)

set_option maxHeartbeats 1000000 in
theorem New_no (p s : Int) (h : newB p s = false) (w : World) :
    Calls Try.prog 8 #[.int .i64 p, .int .i64 s] w fun e w' => e = .returned (.tuple #[.agg (mA none 0 0 0), .int .i64 3]) ∧ Below w.heap.size w w' := by
  have M0 : Mn (w.alloc (Obj.cells #[.slice none 0 0, .int .i64 0] 24)) w.heap.size none 0 0 0 := Mn.new w none 0 0 0
  have B0 : Below w.heap.size w (w.alloc (Obj.cells #[.slice none 0 0, .int .i64 0] 24)) := (Below.refl _ w).alloc (Nat.le_refl _) _
  have HM := hide M0
  have HB := hide B0
  clear M0 B0
  have h' : ¬ (1 ≤ p ∧ p ≤ 6 ∧ 0 ≤ s ∧ s ≤ 10) := by simpa [newB] using h
  clear h
  by_cases h1 : p < 1
  · clear h'
    go_enter Try.func8, Try.ntmps8
    go_wp2_with (first | (refine wpList_store_mn rfl _ _ rfl w.heap.size rfl rfl HM.out ?_; intro w1 m1 k1))
    exact bodyPost_ret (results_mn1 rfl _ _ w.heap.size rfl m1) rfl ⟨rfl, HB.out.trans (k1.below HB.out.size (fun k hk e => by omega))⟩
  · have h1d : decide (p < 1) = false := by simpa using h1
    by_cases h2 : 6 < p
    · clear h'
      go_enter Try.func8, Try.ntmps8
      go_wp2_with (first | (refine wpList_store_mn rfl _ _ rfl w.heap.size rfl rfl HM.out ?_; intro w1 m1 k1))
      exact bodyPost_ret (results_mn1 rfl _ _ w.heap.size rfl m1) rfl ⟨rfl, HB.out.trans (k1.below HB.out.size (fun k hk e => by omega))⟩
    · have h2d : decide (6 < p) = false := by simpa using h2
      by_cases h3 : s < 0
      · clear h'
        go_enter Try.func8, Try.ntmps8
        go_wp2_with (first | (refine wpList_store_mn rfl _ _ rfl w.heap.size rfl rfl HM.out ?_; intro w1 m1 k1))
        exact bodyPost_ret (results_mn1 rfl _ _ w.heap.size rfl m1) rfl ⟨rfl, HB.out.trans (k1.below HB.out.size (fun k hk e => by omega))⟩
      · have h3d : decide (s < 0) = false := by simpa using h3
        have h4 : 10 < s := by omega
        clear h'
        go_enter Try.func8, Try.ntmps8
        go_wp2_with (first | (refine wpList_store_mn rfl _ _ rfl w.heap.size rfl rfl HM.out ?_; intro w1 m1 k1))
        exact bodyPost_ret (results_mn1 rfl _ _ w.heap.size rfl m1) rfl ⟨rfl, HB.out.trans (k1.below HB.out.size (fun k hk e => by omega))⟩

attribute [local irreducible] nk nxs in
set_option maxHeartbeats 2000000 in
theorem New_yes (p : Nat) (s : Int) (hp1 : 1 ≤ p) (hp : p ≤ 6) (hs0 : 0 ≤ s) (hs1 : s ≤ 10) (w : World) :
    Calls Try.prog 8 #[.int .i64 p, .int .i64 s] w fun e w' => ∃ g, e = .returned (.tuple #[.agg (mA (some ⟨g, 0, none⟩) (2 * (p + 1)) (2 * (p + 1)) 0), .int .i64 0]) ∧ Blk w' g 3 (newL p s (2 * (p + 1))) ∧ w.heap.size ≤ g ∧ Below w.heap.size w w' := by
  have HT := hide (nxs_take hp1 hp s)
  obtain ⟨n, hn⟩ : ∃ n, 2 * (p + 1) = n := ⟨_, rfl⟩
  rw [hn] at HT ⊢
  have HN := hide hn
  clear hn
  have hp1' : ¬ (p : Int) < 1 := by omega
  have hp' : ¬ (6 : Int) < (p : Int) := by omega
  have hs0' : ¬ s < 0 := by omega
  have hs1' : ¬ 10 < s := by omega
  obtain ⟨w0, hw0⟩ : ∃ w0, (w.alloc (Obj.cells #[.slice none 0 0, .int .i64 0] 24)).alloc (Obj.cells #[.int .i64 0, .int .i64 0, .int .i64 0, .int .i64 0, .int .i64 0, .int .i64 0, .int .i64 0, .int .i64 0, .int .i64 0, .int .i64 0, .int .i64 0, .int .i64 0, .int .i64 0, .int .i64 0, .int .i64 p, .int .i64 0] 46) = w0 := ⟨_, rfl⟩
  have M0 : Mn w0 w.heap.size none 0 0 0 := by rw [← hw0]; exact (Mn.new w none 0 0 0).old _
  have K0 : Blk w0 (w.heap.size + 1) 46 (bdL (List.replicate 14 0) p 0) := by
    rw [← hw0]
    have := Blk.new (w.alloc (Obj.cells #[.slice none 0 0, .int .i64 0] 24)) 46 (bdL (List.replicate 14 0) p 0) _ rfl
    rw [World.size_alloc] at this
    exact this
  have B0 : Below w.heap.size w w0 := by rw [← hw0]; exact ((Below.refl _ w).alloc (Nat.le_refl _) _).alloc (by simp) _
  have HM := hide M0
  have HK := hide K0
  have HB := hide B0
  have HW0 := hide hw0
  clear M0 K0 B0 hw0
  go_enter Try.func8, Try.ntmps8
  go_wp2_with fail
  rw [HW0.out]
  obtain ⟨b, hbe⟩ : ∃ b, w.heap.size = b := ⟨_, rfl⟩
  rw [hbe] at HM HK ⊢
  have HBE := hide hbe
  clear hbe HW0
  go_loopw [26] (fun v wr => ∃ x : Nat, v = .int .i64 x ∧ x ≤ 2 ∧ Hid (Blk wr (b + 1) 46 (bdL (nxs p s x) p 0)) ∧ Hid (Keeps (fun j => j = b + 1) w0 wr)) (fun v _ => 2 - (intOf v).toNat)
  case atStart => exact ⟨0, rfl, by omega, by rw [nxs_zero]; exact HK, Keeps.refl _ _⟩
  case round =>
    obtain ⟨x, rfl, hx2, hB, hK⟩ := hrel
    clear HK
    by_cases hlt : x < 2
    · have hlt' : (x : Int) < 2 := by omega
      have hx : x ≤ 1 := by omega
      have HGL := hide (nxs_length p s x)
      have HGS : Hid (nk p x s p (nxs p s x) = nxs p s (x + 1)) := hide (nxs_succ _ _ _).symm
      have HG0 : Hid (nk p x s 0 (nxs p s x) = nxs p s x) := hide (nk_zero _ _ _ _)
      generalize nxs p s x = X at *
      go_wp2
      go_loopw [30] (fun v wr => ∃ k : Nat, v = .int .i64 k ∧ k ≤ p ∧ Hid (Blk wr (b + 1) 46 (bdL (nk p x s k X) p 0)) ∧ Hid (Keeps (fun j => j = b + 1) w0 wr)) (fun v _ => p - (intOf v).toNat)
      case atStart =>
        refine ⟨0, rfl, by omega, ?_, hK.out⟩
        show Blk _ _ _ _
        rw [HG0.out]
        exact hB.out
      case round =>
        obtain ⟨k, rfl, hk, hB2, hK2⟩ := hrel
        clear hB hK
        by_cases hkp : k < p
        · have hkp' : (k : Int) < (p : Int) := by omega
          have HE : Hid (∀ W, Blk W (b + 1) 46 (bdL ((nk p x s k X).set (pl p x k) s) p 0) → Hid (Blk W (b + 1) 46 (bdL (nk p x s (k + 1) X) p 0))) := hide (fun W h => by rw [nk_succ]; exact h)
          have hT : Hid ((nk p x s k X).length = 14) := hide (by rw [nk_length]; exact HGL.out)
          generalize nk p x s k X = T at *
          have hq := pl_lt (p := p) hx (show k ≤ p by omega)
          have hl : Hid ((bdL T p 0).length = 16) := hide (bdL_length T p 0 hT.out)
          go_wp2_with (first | refine wpList_load_bd rfl _ rfl (b + 1) rfl (bdL T p 0) hl.out hB2.out ?_)
          refine (place_any T hT.out p 0 x k hp hx (by omega) _).mono ?_
          rintro e w1 ⟨rfl, hw⟩
          have K1 := hB2.out.below hw hB2.out.lt
          have HK1 := hide (hK2.out.trans (Keeps.of_all hw))
          have c1 := K1.seed hT.out (i := pl p x k) (by omega)
          have f1 := K1.frozen (pl p x k)
          have HKs : Hid (Blk (w1.setCell ⟨b + 1, pl p x k, none⟩ (.int .i64 s)) (b + 1) 46 (bdL (T.set (pl p x k) s) p 0)) := hide (by rw [← bdL_set _ _ _ _ _ hT.out (by omega)]; exact K1.set _ s)
          have HKp := hide (HK1.out.setCell (p := ⟨b + 1, pl p x k, none⟩) rfl (.int .i64 s))
          clear hw K1
          generalize pl p x k = q at *
          go_wp2
          exact ⟨⟨k + 1, by go_num, by omega, HE.out _ HKs.out, HKp⟩, by simp [intOf]; omega⟩
        · obtain rfl : k = p := by omega
          have hkp' : ¬ (k : Int) < (k : Int) := by omega
          have HB3 : Hid (Blk wr (b + 1) 46 (bdL (nxs k s (x + 1)) k 0)) := hide (by rw [← HGS.out]; exact hB2.out)
          go_wp2
          exact ⟨⟨x + 1, by go_num, by omega, HB3, hK2⟩, by simp [intOf]; omega⟩
    · obtain rfl : x = 2 := by omega
      have hT : Hid ((nxs p s 2).length = 14) := hide (nxs_length p s 2)
      generalize nxs p s 2 = T at *
      have hl : Hid ((bdL T p 0).length = 16) := hide (bdL_length T p 0 hT.out)
      have HM2 := HM.out.keeps hK.out (by omega)
      have B2 := HB.out.trans (hK.out.below HB.out.size (fun k hk e => by have := HBE.out; omega))
      go_wp2_with (first | refine wpList_load_bd rfl _ rfl (b + 1) rfl (bdL T p 0) hl.out hB.out ?_)
      refine (told_any T hT.out p 0 hp _).mono ?_
      rintro e w1 ⟨g, rfl, hb1, hg, hw⟩
      rw [HN.out, HT.out] at hb1
      rw [HN.out]
      have M1 := hide (HM2.below hw HM2.lt)
      have HB1 := hide hb1
      have hgb : b < g := by have := HM2.lt; omega
      have B3 := hide (B2.trans (hw.mono B2.size))
      have HGE : Hid (w.heap.size ≤ g) := hide (by have := B2.size; omega)
      clear hw hb1 HM2 B2
      go_wp2_with (first | (refine wpList_store_mn rfl _ _ rfl b rfl rfl M1.out ?_; intro w2 m2 k2))
      exact bodyPost_ret (results_mn1 rfl _ _ b rfl m2) rfl ⟨g, rfl, HB1.out.keeps k2 (by omega), HGE.out, B3.out.trans (k2.below B3.out.size (fun k hk e => by have := HBE.out; omega))⟩

end Go.Proofs.Ytmdnoiebodaikaa
