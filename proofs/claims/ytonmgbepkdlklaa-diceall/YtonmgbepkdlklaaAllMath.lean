/-
  Ways of sums from both ends, and all together; the greatest of all. No conditions beyond those that each theorem bears.
-/
import Derived.Test.YtonmgbepkdlklaaSums
import Derived.Test.YtonmgbepkdlklaaKeepY
namespace Go.Proofs.Ytonmgbepkdlklaa
open Go.RowKit

theorem sum_perm {a b : List Nat} (h : a.Perm b) : a.sum = b.sum := by
  induction h with
  | nil => rfl
  | cons x _ ih => rw [List.sum_cons, List.sum_cons, ih]
  | swap x y l => simp only [List.sum_cons]; omega
  | trans _ _ h1 h2 => rw [h1, h2]

theorem sum_rep (n k : Nat) : (List.replicate n k).sum = n * k := sum_replicate n k

theorem wl_keep (n k M : Nat) (hM : n * k - n + 1 = M) : wl (List.replicate n k) = tl (keF n n) n M (List.replicate n k) := by
  refine ext_getD (by rw [wl_length, tl_length, sum_rep, List.length_replicate, hM]) (fun j hj => ?_)
  rw [wl_length, sum_rep, List.length_replicate, hM] at hj
  rw [wl_get _ _ (by rw [sum_rep, List.length_replicate, hM]; exact hj), tl_get _ _ _ _ _ hj, ← cntT_cs]
  refine cntT_congr _ (fun t ht _ => ?_)
  rw [List.length_replicate] at ht ⊢
  rw [hit, keF, Nat.sub_self, List.drop_zero, sum_perm (isort_perm t)]
  by_cases h : ((t.sum : Nat) : Int) = (j : Int) + (n : Int)
  · rw [if_pos h, if_pos (by omega)]
  · rw [if_neg h, if_neg (by omega)]

theorem wl_pal (ds : List Nat) (h : ∀ d ∈ ds, 1 ≤ d) (i : Nat) (hi : i < (wl ds).length) : (wl ds).getD i 0 = (wl ds).getD ((wl ds).length - 1 - i) 0 := by
  rw [wl_length] at hi ⊢
  have hl := len_le_sum ds h
  rw [wl_get ds i hi, wl_get ds _ (by omega), ← cs_pal ds ((i : Int) + ds.length)]
  congr 1
  omega

theorem wl_total (ds : List Nat) (h : ∀ d ∈ ds, 1 ≤ d) : sumTo (fun j => (wl ds).getD j 0) (wl ds).length = prod ds := by
  have hl := len_le_sum ds h
  have h1 := cs_total ds (ds.length + (ds.sum - ds.length + 1)) (by omega)
  rw [sumTo_split, sumTo_eq_zero ds.length (fun x hx => cs_low ds _ (by omega)), Nat.zero_add] at h1
  rw [← h1, wl_length]
  refine sumTo_congr _ fun j hj => ?_
  rw [wl_get ds j hj]
  congr 1
  omega

theorem own_later {A B : World} {base : Nat} {v : Value} {n : Nat} {xs : List Value} (h : A.ownsRow base 3 1 v n xs) (hb : Below A.heap.size A B) : B.ownsRow base 3 1 v n xs :=
  h.kept (row := none) ⟨hb.os, hb.tape, hb.output, hb.size, fun k hk _ => hb.block k hk⟩ (by cases hv : v.ownBlock <;> simp)

theorem toI_append (a b : List Nat) : toI (a ++ b) = toI a ++ toI b := by simp [toI]

theorem toI_one (x : Nat) : toI [x] = [(x : Int)] := rfl

theorem own_slice {w : World} {base : Nat} {v : Value} {n : Nat} {xs : List Value} (hown : w.ownsRow base 3 1 v n xs) : ∃ a' c', v = .slice a' n c' := by
  rcases hown.2 with ⟨hv, h0⟩ | ⟨g, cap, cur, hv, _⟩
  · exact ⟨none, 0, by rw [hv]; simp; omega⟩
  · exact ⟨_, _, hv⟩

theorem one_blk (w : World) (x : Nat) : Rd (w.alloc (.cells #[.int .i64 (x : Int)] 3)) (some ⟨w.heap.size, 0, none⟩) 1 1 [(x : Int)] := (Blk.new w [x] #[.int .i64 (x : Int)] rfl).rd (by simp [maxLen])

theorem own_base {w : World} {base n : Nat} {v : Value} {xs : List Value} (h : w.ownsRow base 3 1 v n xs) {g : Nat} (hg : v.ownBlock = some g) : base ≤ g := by
  rcases h.2 with ⟨hv, _⟩ | ⟨g', cap, cur, hv, hb, _⟩
  · rw [hv] at hg; simp [Value.ownBlock] at hg
  · rw [hv] at hg
    simp [Value.ownBlock] at hg
    omega

end Go.Proofs.Ytonmgbepkdlklaa
