/-
  Two numbers compared with two. No conditions beyond those that each theorem bears.
-/
import Derived.Test.YtafiaimlmdflnaaPg
import Derived.Laws.StructEq
namespace Go.Proofs.Ytafiaimlmdflnaa
open Go.RowKit

theorem eqT_items (d : Nat) (w : World) (A B : List Int) (is : List Nat) (hi : ∀ i ∈ is, i < A.length ∧ i < B.length) :
    (Op.eqItems (d + 1) 3 1 (ivs A).toArray (ivs B).toArray is).run Try.prog w = .ok (decide (∀ i ∈ is, A.getD i 0 = B.getD i 0)) w := by
  induction is with
  | nil => simp [Op.eqItems]
  | cons i is ih =>
    have h1 := hi i (by simp)
    have e1 : (part 3 (ivs A).toArray (i * 1)).run Try.prog w = .ok (.int .i64 (A.getD i 0)) w := by
      simp [part, go_sem, ivs, h1.1, List.getD]
    have e2 : (part 3 (ivs B).toArray (i * 1)).run Try.prog w = .ok (.int .i64 (B.getD i 0)) w := by
      simp [part, go_sem, ivs, h1.2, List.getD]
    have e3 := run_equalIn_int (P := Try.prog) w d 3 .i64 .i64 (A.getD i 0) (B.getD i 0) Try.underlying3
    have hd : decide (∀ j ∈ i :: is, A.getD j 0 = B.getD j 0) = (decide (A.getD i 0 = B.getD i 0) && decide (∀ j ∈ is, A.getD j 0 = B.getD j 0)) := by
      rw [Bool.eq_iff_iff]
      simp only [List.forall_mem_cons, Bool.and_eq_true, decide_eq_true_eq]
    rw [hd]
    simp only [Op.eqItems, Sem.run_bind, e1, e2, e3, Result.andThen_ok]
    have ih' := ih (fun j hj => hi j (by simp [hj]))
    generalize A.getD i 0 = x at *
    generalize B.getD i 0 = y at *
    by_cases hq : x = y
    · subst hq
      simp [ih']
    · have hb : (x == y) = false := by simpa using hq
      simp [hb, hq]

theorem eqT (w : World) (t u : Int) : (binOp .eql 37 (.agg #[.int .i64 t, .int .i64 u]) (.agg #[.int .i64 t, .int .i64 u])).run Try.prog w = .ok (.bool true) w := by
  obtain ⟨i0, hi, hz0, hz1, hz2⟩ := info_parts Try.info3
  rw [run_eql_struct, run_equalIn_array (P := Try.prog) w 9999 _ _ Try.underlying37 hi]
  have hc : Try.prog.cellsOf 3 = 1 := by kernel_rfl
  rw [hc, show (#[.int .i64 t, .int .i64 u] : Array Value) = (ivs [t, u]).toArray from rfl, eqT_items 9998 w [t, u] [t, u] (List.range 2) (fun i hi => by have := List.mem_range.1 hi; simp; omega)]
  simp

theorem guard37 : Try.prog.eqGuardType Try.prog.depth 37 = false := by kernel_rfl

theorem wpList_eqT {ops : Array Oper} {rest : List Oper} {o : Oper} {a : Act} {w : World} {Q : Exit → Act → World → Prop} (hw : Region.wanted o (yielded ops a.tmps) = true) (x y : Operand) (ho : o.op = .binOp .eql 37 x y 37)
    (t u : Int) (hx : a.eval x = .agg #[.int .i64 t, .int .i64 u]) (hy : a.eval y = .agg #[.int .i64 t, .int .i64 u])
    (h : wpList Try.prog ops Q rest (a.put o.dst (.bool true)) w) : wpList Try.prog ops Q (o :: rest) a w := by
  refine wpList_wanted hw fun _ hK => ?_
  unfold Oper.wp execOp
  have h1 := run_eqGuard_agg (P := Try.prog) w .eql 37 x y #[.int .i64 t, .int .i64 u] #[.int .i64 t, .int .i64 u] guard37
  have h2 := eqT w t u
  simp only [ho, hx, hy, Sem.run_bind, h1, h2, Result.andThen_ok]
  exact hK _ _ h

theorem wpList_loadT {ops : Array Oper} {rest : List Oper} {op : Oper} {a : Act} {w : World} {Q : Exit → Act → World → Prop} (hw : Region.wanted op (yielded ops a.tmps) = true) (x : Operand) (ho : op.op = .load 37 x)
    (b : Nat) (hx : a.eval x = .pointer (some ⟨b, 0, none⟩)) {t u : Int} (hc : Tw w b t u)
    (h : wpList Try.prog ops Q rest (a.put op.dst (.agg #[.int .i64 t, .int .i64 u])) w) : wpList Try.prog ops Q (op :: rest) a w :=
  wpList_wanted hw fun _ hK => wp_load_row 37 x ho b hx 37 _ (0, 0) _ hc Try.underlying37 rfl size37 (hK _ _ h)

end Go.Proofs.Ytafiaimlmdflnaa
