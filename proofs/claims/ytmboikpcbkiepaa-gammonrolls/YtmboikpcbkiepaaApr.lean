/-
  A row of rows that grows by append stays where it is, or is new. No conditions beyond those that each theorem bears.
-/
import Derived.Test.YtmboikpcbkiepaaRof
namespace Go.Proofs.Ytmboikpcbkiepaa
open Go.RowKit

theorem info22r : (Try.prog.info? 22).map (fun i => (i.zero, i.size, i.bytes)) = some (some (.slice none 0 0), 1, 24) := by kernel_rfl

theorem append_placeR (w : World) (base : Nat) (v : Value) (n : Nat) (xs : List Value) (hown : w.ownsRow base 22 1 v n xs) (ad : Addr) (y : Value) (c ty : Nat) (hy : w.cell? (ad.add 0) = some y) (h1c : y.oneCell' = true) (hn : n ≤ 1000) (v' : Value) (w' : World)
    (hr : (Builtin.append_ #[74, 74] ty #[v, .slice (some ad) 1 c]).run Try.prog w = .ok v' w') : v'.ownBlock = v.ownBlock ∨ v'.ownBlock = some w.heap.size := by
  obtain ⟨i0, hi, hz0, hz1, hz2⟩ := info_parts info22r
  have hl : [y].length = 1 * i0.size := by rw [hz1]; rfl
  have hnews : ∀ j u, [y][j]? = some u → w.cell? (ad.add j) = some u := by
    intro j u hu
    cases j with
    | zero => simp only [List.getElem?_cons_zero, Option.some.injEq] at hu; subst hu; exact hy
    | succ j => simp at hu
  have hone : ∀ u ∈ [y], u.oneCell' = true := fun u hu => by simp only [List.mem_singleton] at hu; subst hu; exact h1c
  rcases hown.2 with ⟨rfl, rfl⟩ | ⟨g, cap, cur, rfl, hbg, hg, hnc, hcm, hcs, htake⟩
  · right
    have h1 := run_append_nil (P := Try.prog) w 74 ty 22 i0 (.slice none 0 0) Try.underlying74 hi hz0 ad 1 c _ hl hnews (by omega) (by omega) (by rw [hz2]; omega)
    rw [h1] at hr
    simp only [Result.ok.injEq] at hr
    rw [← hr.1]
    rfl
  · by_cases hroom : n + 1 ≤ cap
    · left
      have hfit : n * i0.size + [y].length ≤ cur.size := by rw [hl, hcs, hz1]; omega
      have h1 := run_append_room (P := Try.prog) w 74 ty 22 i0 Try.underlying74 hi g n cap cur hg ad 1 c _ hl hnews hone hroom hfit
      rw [h1] at hr
      simp only [Result.ok.injEq] at hr
      rw [← hr.1]
      rfl
    · right
      have h1 := run_append_grow (P := Try.prog) w 74 ty 22 i0 (.slice none 0 0) Try.underlying74 hi hz0 ⟨g, 0, none⟩ n cap xs (by rw [hown.1, hz1]) (hown.cells (g := g) rfl) ad 1 c _ hl hnews (by omega) (by omega) (growslice_fits (by omega) (by rw [hz2]; omega))
      rw [h1] at hr
      simp only [Result.ok.injEq] at hr
      rw [← hr.1]
      rfl

theorem wp_append_rows {o : Oper} {a : Act} {K : Act → World → Prop} {Q : Exit → Act → World → Prop} (w : World) (s x : Operand)
    (ho : o.op = .call { callee := .builtin .append, args := #[s, x], argTypes := #[74, 74] }) (base : Nat) (v : Value) (n : Nat) (xs : List Value) (hs : a.eval s = v) (hown : w.ownsRow base 22 1 v n xs)
    (ad : Addr) (c : Nat) (y : Value) (hx : a.eval x = .slice (some ad) 1 c) (hy : w.cell? (ad.add 0) = some y) (h1c : y.oneCell' = true) (hn : n ≤ 1000) (hbase : base ≤ w.heap.size)
    (h : ∀ v' w', w'.ownsRow base 22 1 v' (n + 1) (xs ++ [y]) → w.grownBy w' v.ownBlock → (v'.ownBlock = v.ownBlock ∨ v'.ownBlock = some w.heap.size) → K (a.put o.dst v') w') : o.wp Try.prog a w K Q := by
  obtain ⟨i0, hi, hz0, hz1, hz2⟩ := info_parts info22r
  have hnews : ∀ j u, [y][j]? = some u → w.cell? (ad.add j) = some u := by
    intro j u hu
    cases j with
    | zero => simp only [List.getElem?_cons_zero, Option.some.injEq] at hu; subst hu; exact hy
    | succ j => simp at hu
  have hone : ∀ u ∈ [y], u.oneCell' = true := fun u hu => by simp only [List.mem_singleton] at hu; subst hu; exact h1c
  obtain ⟨v', w', hr, h2, h3, -⟩ := run_append_own (P := Try.prog) w base 74 o.type 22 i0 (.slice none 0 0) 1 24 Try.underlying74 hi hz0 hz1 hz2 rfl (by decide) v n xs hown ad 1 c [y] rfl hnews hone (by unfold maxLen; omega) (by omega) hbase
  have h4 := append_placeR w base v n xs hown ad y c o.type hy h1c hn v' w' hr
  unfold Oper.wp
  simp [execOp, ho, resolve, invoke, builtin, hs, hx, hr, Result.andThen]
  exact h v' w' h2 h3 h4

/-- How far the last man is: -1 if there is none. -/
def far (m : List Nat) : Nat → Int
  | 0 => -1
  | i + 1 => if 0 < m.getD i 0 then (i : Int) else far m i

/-- May the man at i step p? -/
def can (m : List Nat) (p i : Nat) : Bool := decide ((i : Int) ≤ far m 6) && !(Nat.beq (m.getD i 0) 0 || (Nat.blt (i + 1) p && !decide ((i : Int) = far m 6)))

def nxt (m : List Nat) (p i : Nat) : List Nat := if p ≤ i then (m.set i (m.getD i 0 - 1)).set (i - p) ((m.set i (m.getD i 0 - 1)).getD (i - p) 0 + 1) else m.set i (m.getD i 0 - 1)

set_option maxRecDepth 100000 in
theorem can_tab : (Ms.all fun m => (List.range 6).all fun i => (List.range 6).all fun p => decide (st6 m (i + 1) (p + 1) = if can m (p + 1) i then some (nxt m (p + 1) i) else none)) = true := by decide +kernel

set_option maxRecDepth 100000 in
theorem far_tab : (Ms.all fun m => decide ((far m 6 < 0) = (pip m = 0)) && decide (far m 6 ≤ 5)) = true := by decide +kernel

end Go.Proofs.Ytmboikpcbkiepaa
