/-
  What comes of a way: sets that may be; Do, walked. No conditions beyond those that each theorem bears.
-/
import Derived.Test.YtnbaangnpoblfaaDoorTo
import Derived.Test.YtnbaangnpoblfaaDoorMv
namespace Go.Proofs.YtnbaangnpoblfaaDoor
open Go.RowKit Go.Shelf

theorem e2_sub {p : Nat} (h1 : 1 ≤ p) (h2 : p ≤ 32) : Sub (e2 p) ALL := fun i hi => by
  rw [tb_e2, decide_eq_true_eq] at hi
  rw [← hi]
  exact bitn_all p h2 h1
theorem mkO_sub {ov : List Nat} (h : ∀ m ∈ ov, 1 ≤ m ∧ m ≤ 32) : Sub (mkO ov) ALL := by
  unfold mkO
  suffices H : ∀ a, Sub a ALL → Sub (ov.foldl (fun a m => a ||| e2 m) a) ALL from H 0 (Sub.zero _)
  induction ov with
  | nil => intro a ha; exact ha
  | cons m r ih => intro a ha; exact ih (fun k hk => h k (by simp [hk])) _ (ha.or (e2_sub (h m (by simp)).1 (h m (by simp)).2))
theorem getLastD_mem : ∀ (l : List Nat) (d : Nat), l ≠ [] → l.getLastD d ∈ l
  | [], _, h => absurd rfl h
  | [a], d, _ => by simp
  | a :: b :: r, d, _ => by
    have h := getLastD_mem (b :: r) d (by simp)
    simp only [List.getLastD_cons] at h ⊢
    exact List.mem_cons_of_mem _ h

theorem aft_sub {b : Bm} (hb : BOk b) {W : List Nat} {ov : Nat} (hla : Sub (W.getLastD 0) ALL) : Sub (aft b (W, ov)).own ALL ∧ Sub (aft b (W, ov)).oth ALL ∧ Sub (aft b (W, ov)).kin ALL ∧ ((aft b (W, ov)).mov = 1 ∨ (aft b (W, ov)).mov = 2) := by
  refine ⟨hb.oth.anot, hb.own.anot.or hla, ?_, ?_⟩
  · show Sub (if _ then _ else _) ALL
    split
    · exact hb.kin.anot
    · exact hb.kin.anot.or hla
  · show 3 - b.mov = 1 ∨ 3 - b.mov = 2
    have := hb.mov
    omega

theorem WOk.subs {Z : List Int} {t : Nat} {y : List Nat × List Nat} (hy : WOk Z t y) : 1 ≤ (y.1.map e2).length ∧ (y.1.map e2).length ≤ 13 ∧ Sub ((y.1.map e2).headD 0) ALL ∧ Sub ((y.1.map e2).getLastD 0) ALL ∧ Sub (mkO y.2) ALL := by
  have h2 := hy.two
  have h13 := hy.le
  have hm : ∀ x ∈ y.1.map e2, Sub x ALL := fun x hx => by
    obtain ⟨p, hp, rfl⟩ := List.mem_map.1 hx
    exact e2_sub (hy.rng p hp).1 (hy.rng p hp).2
  have hne : y.1.map e2 ≠ [] := fun e => by
    have := congrArg List.length e
    rw [List.length_map] at this
    simp at this
    rw [this] at h2
    simp at h2
  refine ⟨by rw [List.length_map]; omega, by rw [List.length_map]; exact h13, ?_, hm _ (getLastD_mem _ _ hne), mkO_sub (fun m hm => ⟨(hy.own m hm).1, (hy.own m hm).2.1⟩)⟩
  cases e : y.1.map e2 with
  | nil => exact absurd e hne
  | cons p r => exact hm _ (by rw [e]; simp)

/-- Sets behind a way. -/
def afN (Z : List Int) (t : Nat) (y : List Nat × List Nat) : Bm := aft (sn Z t) (y.1.map e2, mkO y.2)
theorem afterN {Z : List Int} {t : Nat} (hM : Mb Z t) {y : List Nat × List Nat} (hy : WOk Z t y) (w : World) :
    Calls Tryd.prog 47 #[.agg (bdL (sn Z t)).toArray, .agg (wyL (y.1.map e2) (mkO y.2)).toArray] w fun e w' => e = .returned (.agg (bdL (afN Z t y)).toArray) ∧ Below w.heap.size w w' :=
  after_any (sn Z t) (sn_ok hM) _ _ hy.subs.1 hy.subs.2.1 hy.subs.2.2.1 hy.subs.2.2.2.1 hy.subs.2.2.2.2 w
theorem toldN {Z : List Int} {t : Nat} (hM : Mb Z t) {y : List Nat × List Nat} (hy : WOk Z t y) (w : World) (hT : TzT w) :
    Calls Tryd.prog 48 #[.agg (bdL (afN Z t y)).toArray] w fun e w' => ∃ a c, e = .returned (.agg (dgA a 33 c ((afN Z t y).mov : Nat))) ∧ w'.ownsRow w.heap.size 3 1 (.slice a 33 c) 33 ((tol (afN Z t y)).map (Value.int .i64)) ∧ Below w.heap.size w w' := by
  obtain ⟨h1, h2, h3, h4⟩ := aft_sub (sn_ok hM) (W := y.1.map e2) (ov := mkO y.2) hy.subs.2.2.2.1
  exact told_any (afN Z t y) h1 h2 h3 h4 w hT

end Go.Proofs.YtnbaangnpoblfaaDoor
