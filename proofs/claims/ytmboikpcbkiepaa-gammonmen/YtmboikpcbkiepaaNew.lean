/-
  A row of numbers that grows by append stays where it is, or is new. No conditions beyond those that each theorem bears.
-/
import Derived.Test.YtmboikpcbkiepaaMay
namespace Go.Proofs.Ytmboikpcbkiepaa
open Go.RowKit

theorem append_place (w : World) (base : Nat) (v : Value) (n : Nat) (xs : List Int) (hown : w.ownsRow base 3 1 v n (xs.map (Value.int .i64))) (ad : Addr) (ys : List Int) (c ty : Nat) (hR : Rd w (some ad) 1 c ys) (hn : n ≤ 1000) (v' : Value) (w' : World)
    (hr : (Builtin.append_ #[22, 22] ty #[v, .slice (some ad) 1 c]).run Try.prog w = .ok v' w') : v'.ownBlock = v.ownBlock ∨ v'.ownBlock = some w.heap.size := by
  obtain ⟨i0, hi, hz0, hz1, hz2⟩ := info_parts Try.info3
  have hl : (ys.map (Value.int .i64)).length = 1 * i0.size := by rw [List.length_map, hR.len, hz1]
  rcases hown.2 with ⟨rfl, rfl⟩ | ⟨g, cap, cur, rfl, hbg, hg, hnc, hcm, hcs, htake⟩
  · right
    have h1 := run_append_nil (P := Try.prog) w 22 ty 3 i0 (.int .i64 0) Try.underlying22 hi hz0 ad 1 c _ hl hR.news (by omega) (by omega) (by rw [hz2]; omega)
    rw [h1] at hr
    simp only [Result.ok.injEq] at hr
    rw [← hr.1]
    rfl
  · by_cases hroom : n + 1 ≤ cap
    · left
      have hfit : n * i0.size + (ys.map (Value.int .i64)).length ≤ cur.size := by rw [hl, hcs, hz1]; omega
      have h1 := run_append_room (P := Try.prog) w 22 ty 3 i0 Try.underlying22 hi g n cap cur hg ad 1 c _ hl hR.news (ints_oneCell .i64 ys) hroom hfit
      rw [h1] at hr
      simp only [Result.ok.injEq] at hr
      rw [← hr.1]
      rfl
    · right
      have h1 := run_append_grow (P := Try.prog) w 22 ty 3 i0 (.int .i64 0) Try.underlying22 hi hz0 ⟨g, 0, none⟩ n cap (xs.map (Value.int .i64)) (by rw [hown.1, hz1]) (hown.cells (g := g) rfl) ad 1 c _ hl hR.news (by omega) (by omega) (growslice_fits (by omega) (by rw [hz2]; omega))
      rw [h1] at hr
      simp only [Result.ok.injEq] at hr
      rw [← hr.1]
      rfl

theorem wp_append_new {o : Oper} {a : Act} {K : Act → World → Prop} {Q : Exit → Act → World → Prop} (w : World) (s x : Operand)
    (ho : o.op = .call { callee := .builtin .append, args := #[s, x], argTypes := #[22, 22] }) (base : Nat) (v : Value) (n : Nat) (xs : List Int) (hs : a.eval s = v) (hown : w.ownsRow base 3 1 v n (xs.map (Value.int .i64)))
    (ad : Addr) (c : Nat) (ys : List Int) (hx : a.eval x = .slice (some ad) 1 c) (hR : Rd w (some ad) 1 c ys) (hn : n ≤ 1000) (hbase : base ≤ w.heap.size)
    (h : ∀ v' w', w'.ownsRow base 3 1 v' (n + 1) ((xs ++ ys).map (Value.int .i64)) → w.grownBy w' v.ownBlock → (v'.ownBlock = v.ownBlock ∨ v'.ownBlock = some w.heap.size) → K (a.put o.dst v') w') : o.wp Try.prog a w K Q := by
  obtain ⟨i0, hi, hz0, hz1, hz2⟩ := info_parts Try.info3
  obtain ⟨v', w', hr, h2, h3, -⟩ := run_append_own (P := Try.prog) w base 22 o.type 3 i0 (.int .i64 0) 1 8 Try.underlying22 hi hz0 hz1 hz2 rfl (by decide) v n (xs.map (Value.int .i64)) hown ad 1 c (ys.map (Value.int .i64)) (by rw [List.length_map, hR.len]) hR.news (ints_oneCell .i64 ys) (by unfold maxLen; omega) (by omega) hbase
  have h4 := append_place w base v n xs hown ad ys c o.type hR hn v' w' hr
  unfold Oper.wp
  simp [execOp, ho, resolve, invoke, builtin, hs, hx, hr, Result.andThen]
  exact h v' w' (by rw [List.map_append]; exact h2) h3 h4

theorem wpList_append_new {ops : Array Oper} {rest : List Oper} {o : Oper} {a : Act} {Q : Exit → Act → World → Prop} (w : World) (hgd : o.guard = none) (s x : Operand)
    (ho : o.op = .call { callee := .builtin .append, args := #[s, x], argTypes := #[22, 22] }) (base : Nat) (v : Value) (n : Nat) (xs : List Int) (hs : a.eval s = v) (hown : w.ownsRow base 3 1 v n (xs.map (Value.int .i64)))
    (ad : Addr) (c : Nat) (ys : List Int) (hx : a.eval x = .slice (some ad) 1 c) (hR : Rd w (some ad) 1 c ys) (hn : n ≤ 1000) (hbase : base ≤ w.heap.size)
    (h : ∀ v' w', w'.ownsRow base 3 1 v' (n + 1) ((xs ++ ys).map (Value.int .i64)) → w.grownBy w' v.ownBlock → (v'.ownBlock = v.ownBlock ∨ v'.ownBlock = some w.heap.size) → wpList Try.prog ops Q rest (a.put o.dst v') w') : wpList Try.prog ops Q (o :: rest) a w :=
  wpList_plain hgd fun _ hK => wp_append_new w s x ho base v n xs hs hown ad c ys hx hR hn hbase fun v' w' h1 h2 h3 => hK _ _ (h v' w' h1 h2 h3)

end Go.Proofs.Ytmboikpcbkiepaa
