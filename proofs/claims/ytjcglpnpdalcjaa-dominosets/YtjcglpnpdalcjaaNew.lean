/-
  A row of pieces that grows by append stays where it is, or is new. No conditions beyond those that each theorem bears.
-/
import Derived.Test.YtjcglpnpdalcjaaRoMath
namespace Go.Proofs.Ytjcglpnpdalcjaa
open Go.RowKit

theorem Rp.grownN {w w' : World} {a : Option Addr} {n c : Nat} {ps : List Pc} {row : Option Nat} (h : Rp w a n c ps) (hg : w.grownBy w' row) (hne : ∀ b off, a = some ⟨b, off, none⟩ → some b ≠ row) : Rp w' a n c ps := by
  refine ⟨h.len, h.cap, h.max, h.nil, fun hn => ?_⟩
  obtain ⟨b, off, rfl, hc⟩ := h.cells hn
  refine ⟨b, off, rfl, fun i hi => ?_⟩
  obtain ⟨h0, h1⟩ := hc i hi
  exact ⟨hg.cell h0 (hne b off rfl), hg.cell h1 (hne b off rfl)⟩

theorem append_place (w : World) (base : Nat) (v : Value) (n : Nat) (xs : List Pc) (hown : w.ownsRow base 35 2 v n (flat xs)) (ad : Addr) (ys : List Pc) (c ty : Nat) (hR : Rp w (some ad) 1 c ys) (hn : n ≤ 1000) (v' : Value) (w' : World)
    (hr : (Builtin.append_ #[22, 22] ty #[v, .slice (some ad) 1 c]).run Try.prog w = .ok v' w') : v'.ownBlock = v.ownBlock ∨ v'.ownBlock = some w.heap.size := by
  obtain ⟨i0, hi, hz0, hz1, hz2⟩ := info_parts Try.info35
  have hl : (flat ys).length = 1 * i0.size := by rw [flat_length, hR.len, hz1]
  rcases hown.2 with ⟨rfl, rfl⟩ | ⟨g, cap, cur, rfl, hbg, hg, hnc, hcm, hcs, htake⟩
  · right
    have h1 := run_append_nil (P := Try.prog) w 22 ty 35 i0 (.agg #[.int .i64 0, .int .i64 0]) Try.underlying22 hi hz0 ad 1 c (flat ys) hl hR.news (by omega) (by omega) (by rw [hz2]; omega)
    rw [h1] at hr
    simp only [Result.ok.injEq] at hr
    rw [← hr.1]
    rfl
  · by_cases hroom : n + 1 ≤ cap
    · left
      have hfit : n * i0.size + (flat ys).length ≤ cur.size := by rw [hl, hcs, hz1]; omega
      have h1 := run_append_room (P := Try.prog) w 22 ty 35 i0 Try.underlying22 hi g n cap cur hg ad 1 c (flat ys) hl hR.news (flat_one ys) hroom hfit
      rw [h1] at hr
      simp only [Result.ok.injEq] at hr
      rw [← hr.1]
      rfl
    · right
      have h1 := run_append_grow (P := Try.prog) w 22 ty 35 i0 (.agg #[.int .i64 0, .int .i64 0]) Try.underlying22 hi hz0 ⟨g, 0, none⟩ n cap (flat xs) (by rw [hown.1, hz1]) (hown.cells (g := g) rfl) ad 1 c (flat ys) hl hR.news (by omega) (by omega) (growslice_fits (by omega) (by rw [hz2]; omega))
      rw [h1] at hr
      simp only [Result.ok.injEq] at hr
      rw [← hr.1]
      rfl

theorem wpList_append_new {ops : Array Oper} {rest : List Oper} {o : Oper} {a : Act} {Q : Exit → Act → World → Prop} (w : World) (hgd : o.guard = none) (s x : Operand)
    (ho : o.op = .call { callee := .builtin .append, args := #[s, x], argTypes := #[22, 22] }) (base : Nat) (v : Value) (n : Nat) (xs : List Pc) (hs : a.eval s = v) (hown : w.ownsRow base 35 2 v n (flat xs))
    (ad : Addr) (c : Nat) (ys : List Pc) (hx : a.eval x = .slice (some ad) 1 c) (hR : Rp w (some ad) 1 c ys) (hn : n ≤ 1000) (hbase : base ≤ w.heap.size)
    (h : ∀ v' w', w'.ownsRow base 35 2 v' (n + 1) (flat (xs ++ ys)) → w.grownBy w' v.ownBlock → (v'.ownBlock = v.ownBlock ∨ v'.ownBlock = some w.heap.size) → wpList Try.prog ops Q rest (a.put o.dst v') w') : wpList Try.prog ops Q (o :: rest) a w := by
  refine wpList_plain hgd fun K hK => ?_
  obtain ⟨i0, hi, hz0, hz1, hz2⟩ := info_parts Try.info35
  obtain ⟨v', w', hr, h2, h3, -⟩ := run_append_own (P := Try.prog) w base 22 o.type 35 i0 (.agg #[.int .i64 0, .int .i64 0]) 2 16 Try.underlying22 hi hz0 hz1 hz2 rfl (by decide) v n (flat xs) hown ad 1 c (flat ys) (by rw [flat_length, hR.len]) hR.news (flat_one ys) (by unfold maxLen; omega) (by omega) hbase
  have h4 := append_place w base v n xs hown ad ys c o.type hR hn v' w' hr
  unfold Oper.wp
  simp [execOp, ho, resolve, invoke, builtin, hs, hx, hr, Result.andThen]
  exact hK _ _ (h v' w' (by rw [flat_append]; exact h2) h3 h4)

end Go.Proofs.Ytjcglpnpdalcjaa
