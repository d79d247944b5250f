/-
  The counts of poker.Showdown are those of the document's ShowdownOf. No conditions beyond those that each theorem bears.
-/
import Derived.Test.YtdhacmcdbpojlaaDuel3
import Derived.Test.YtdhacmcdbpojlaaSdOf
namespace Go.Proofs.Ytdhacmcdbpojlaa
open Go.RowKit Go.Shelf

theorem bvR_bv {L : List Nat} (h : L.length = 7) : bvR L = bv L := by
  have hp := comb_pick L 5
  rw [h] at hp
  obtain ⟨x, xs, e⟩ := List.exists_cons_of_ne_nil (comb_ne (l := L) (k := 5) (by omega))
  unfold bvR bv
  rw [hp, e, bestG_eq]

theorem bv7_bv {L : List Nat} (h : L.length = 7) : bv7 L = bv L := by
  have hp := comb_pick L 5
  rw [h] at hp
  unfold bv7 bv
  rw [hp]

theorem comb_one : ∀ l : List Nat, comb 1 l = l.map (fun x => [x])
  | [] => rfl
  | x :: l => by
    have h := comb_one l
    have e0 : comb 0 l = [[]] := by cases l <;> rfl
    rw [comb, h, e0]
    rfl

theorem self_range (R : List Nat) : (List.range R.length).map (fun i => R.getD i 0) = R := by
  apply List.ext_getElem
  · simp
  · intro i h1 h2
    simp [List.getD, h2]

theorem cnt_map (f g : Nat → List Nat) (p q : List Nat → Bool) (l : List Nat) (h : ∀ i ∈ l, p (f i) = q (g i)) : ((l.map f).filter p).length = ((l.map g).filter q).length := by
  rw [List.filter_map, List.filter_map, List.length_map, List.length_map]
  rw [List.filter_congr (p := p ∘ f) (q := q ∘ g) (fun i hi => h i hi)]

theorem cnt4 (R : List Nat) (p q : List Nat → Bool) (h : ∀ i, i < R.length → p [i] = q [R.getD i 0]) : ((comb 1 (List.range R.length)).filter p).length = ((fillsF 4 R).filter q).length := by
  have e : fillsF 4 R = (List.range R.length).map (fun i => [R.getD i 0]) := by
    show R.map (fun x => [x]) = _
    conv => lhs; rw [← self_range R]
    rw [List.map_map]
    rfl
  rw [comb_one, e]
  exact cnt_map _ _ p q _ (fun i hi => h i (List.mem_range.1 hi))

theorem cnt2 (p : List Nat → Bool) (x : Nat) : ∀ l : List Nat, ((comb 2 (l ++ [x])).filter p).length = ((comb 2 l).filter p).length + ((l.map (fun y => [y, x])).filter p).length
  | [] => rfl
  | a :: l => by
    have h := cnt2 p x l
    have e1 : comb 2 (a :: l ++ [x]) = ((l.map (fun y => [a, y])) ++ [[a, x]]) ++ comb 2 (l ++ [x]) := by
      rw [List.cons_append, comb, comb_one, List.map_append, List.map_append, List.map_map]
      rfl
    have e2 : comb 2 (a :: l) = l.map (fun y => [a, y]) ++ comb 2 l := by
      rw [comb, comb_one, List.map_map]
      rfl
    have e3 : (a :: l).map (fun y => [y, x]) = [[a, x]] ++ l.map (fun y => [y, x]) := rfl
    rw [e1, e2, e3]
    simp only [List.filter_append, List.length_append]
    omega

theorem cnt3 (R : List Nat) (p q : List Nat → Bool) : ∀ n, (∀ i k, k < i → i < n → p [k, i] = q [R.getD i 0, R.getD k 0]) → ((comb 2 (List.range n)).filter p).length = ((pairsF R n).filter q).length
  | 0, _ => rfl
  | n + 1, h => by
    have hi := cnt3 R p q n (fun i k h1 h2 => h i k h1 (by omega))
    rw [List.range_succ, cnt2, pairsF, List.filter_append, List.length_append, hi]
    congr 1
    exact cnt_map _ _ p q _ (fun k hk => h n k (List.mem_range.1 hk) (by omega))

theorem xv5 {X D : List Nat} (hX : X.length = 2) (hD : D.length = 5) (R : List Nat) : xv X D R [] = bvR (X ++ (D ++ [])) := by
  unfold xv
  rw [bv7_bv (by simp [pick]; omega), bvR_bv (by simp; omega)]
  simp [pick]
theorem xv4 {X D : List Nat} (hX : X.length = 2) (hD : D.length = 4) (R : List Nat) (i : Nat) : xv X D R [i] = bvR (X ++ (D ++ [R.getD i 0])) := by
  unfold xv
  rw [bv7_bv (by simp [pick]; omega), bvR_bv (by simp; omega)]
  simp only [pick, List.map_cons, List.map_nil, List.append_assoc]
theorem xv3 {X D : List Nat} (hX : X.length = 2) (hD : D.length = 3) (R : List Nat) (i k : Nat) : xv X D R [k, i] = bvR (X ++ (D ++ [R.getD i 0, R.getD k 0])) := by
  unfold xv
  rw [bv7_bv (by simp [pick]; omega), bvR_bv (by simp; omega)]
  simp only [pick, List.map_cons, List.map_nil, List.append_assoc]
  exact bv_perm (List.Perm.append_left _ (List.Perm.append_left _ (List.Perm.swap _ _ _))) (by simp; omega)

theorem len_all (xs : List (List Nat)) : (xs.filter (fun _ => true)).length = xs.length := by
  rw [List.filter_eq_self.2 (fun _ _ => rfl)]

theorem sd5 {A E D : List Nat} (hA : A.length = 2) (hE : E.length = 2) (hD : D.length = 5) (R : List Nat) : winC A E D R (comb 0 (List.range R.length)) = winF A E D (fillsF 5 R) ∧ tieC A E D R (comb 0 (List.range R.length)) = tieF A E D (fillsF 5 R) ∧ (comb 0 (List.range R.length)).length = (fillsF 5 R).length := by
  have e : comb 0 (List.range R.length) = [[]] := by cases List.range R.length <;> rfl
  rw [e, show fillsF 5 R = [[]] from rfl]
  unfold winC winF tieC tieF
  refine ⟨?_, ?_, rfl⟩
  · simp only [List.filter_cons, List.filter_nil, xv5 hA hD, xv5 hE hD]
  · simp only [List.filter_cons, List.filter_nil, xv5 hA hD, xv5 hE hD]
theorem sd4 {A E D : List Nat} (hA : A.length = 2) (hE : E.length = 2) (hD : D.length = 4) (R : List Nat) : winC A E D R (comb 1 (List.range R.length)) = winF A E D (fillsF 4 R) ∧ tieC A E D R (comb 1 (List.range R.length)) = tieF A E D (fillsF 4 R) ∧ (comb 1 (List.range R.length)).length = (fillsF 4 R).length := by
  refine ⟨cnt4 R _ _ (fun i _ => ?_), cnt4 R _ _ (fun i _ => ?_), ?_⟩
  · rw [xv4 hA hD, xv4 hE hD]
  · rw [xv4 hA hD, xv4 hE hD]
  · have := cnt4 R (fun _ => true) (fun _ => true) (fun _ _ => rfl)
    rwa [len_all, len_all] at this
theorem sd3 {A E D : List Nat} (hA : A.length = 2) (hE : E.length = 2) (hD : D.length = 3) (R : List Nat) : winC A E D R (comb 2 (List.range R.length)) = winF A E D (fillsF 3 R) ∧ tieC A E D R (comb 2 (List.range R.length)) = tieF A E D (fillsF 3 R) ∧ (comb 2 (List.range R.length)).length = (fillsF 3 R).length := by
  refine ⟨cnt3 R _ _ R.length (fun i k _ _ => ?_), cnt3 R _ _ R.length (fun i k _ _ => ?_), ?_⟩
  · rw [xv3 hA hD, xv3 hE hD]
  · rw [xv3 hA hD, xv3 hE hD]
  · have := cnt3 R (fun _ => true) (fun _ => true) R.length (fun _ _ _ _ => rfl)
    rwa [len_all, len_all] at this

end Go.Proofs.Ytdhacmcdbpojlaa
