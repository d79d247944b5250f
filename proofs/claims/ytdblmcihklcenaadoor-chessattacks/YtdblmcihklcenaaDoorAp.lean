/-
  A row of numbers that grows by append stays where it is, or is new; a row sorted. No conditions beyond those that each theorem bears.
-/
import Derived.Test.YtdblmcihklcenaaDoorIc
import Derived.Test.YtdblmcihklcenaaDoorShelf
import Derived.Sort.OwnSortedInts
namespace Go.Proofs.YtdblmcihklcenaaDoor
open Go.RowKit Go.Shelf

theorem append_place3 (w : World) (base : Nat) (v : Value) (n : Nat) (vs : List Value) (hown : w.ownsRow base 3 1 v n vs) (ad : Addr) (us : List Value) (m c ty : Nat) (hl0 : us.length = m) (hnews : ∀ j u, us[j]? = some u → w.cell? (ad.add j) = some u) (hone : ∀ u ∈ us, u.oneCell' = true) (hn : n + m ≤ 1000000000) (hm : 0 < m) (v' : Value) (w' : World)
    (hr : (Builtin.append_ #[22, 22] ty #[v, .slice (some ad) m c]).run Tryd.prog w = .ok v' w') : v'.ownBlock = v.ownBlock ∨ v'.ownBlock = some w.heap.size := by
  obtain ⟨i0, hi, hz0, hz1, hz2⟩ := info_parts Tryd.info3
  have hl : us.length = m * i0.size := by rw [hz1]; omega
  rcases hown.2 with ⟨rfl, rfl⟩ | ⟨g, cap, cur, rfl, hbg, hg, hnc, hcm, hcs, htake⟩
  · right
    have h1 := run_append_nil (P := Tryd.prog) w 22 ty 3 i0 (.int .i64 0) Tryd.underlying22 hi hz0 ad m c us hl hnews (by omega) (by omega) (by rw [hz2]; omega)
    rw [h1] at hr
    simp only [Result.ok.injEq] at hr
    rw [← hr.1]
    rfl
  · by_cases hroom : n + m ≤ cap
    · left
      have hfit : n * i0.size + us.length ≤ cur.size := by rw [hl, hcs, hz1]; omega
      have h1 := run_append_room (P := Tryd.prog) w 22 ty 3 i0 Tryd.underlying22 hi g n cap cur hg ad m c us hl hnews hone hroom hfit
      rw [h1] at hr
      simp only [Result.ok.injEq] at hr
      rw [← hr.1]
      rfl
    · right
      have h1 := run_append_grow (P := Tryd.prog) w 22 ty 3 i0 (.int .i64 0) Tryd.underlying22 hi hz0 ⟨g, 0, none⟩ n cap vs (by rw [hown.1, hz1]) (hown.cells (g := g) rfl) ad m c us hl hnews (by omega) (by omega) (growslice_fits (by omega) (by rw [hz2]; omega))
      rw [h1] at hr
      simp only [Result.ok.injEq] at hr
      rw [← hr.1]
      rfl


/-- 'append(s, x...)', s the call's own. -/
theorem wp_append_i {o : Oper} {a : Act} {K : Act → World → Prop} {Q : Exit → Act → World → Prop} (w : World) (s x : Operand)
    (ho : o.op = .call { callee := .builtin .append, args := #[s, x], argTypes := #[22, 22] }) (base : Nat) (v : Value) (n : Nat) (xs : List Int) (hs : a.eval s = v) (hown : w.ownsRow base 3 1 v n (xs.map (Value.int .i64)))
    (ad : Addr) (m c : Nat) (ys : List Int) (hx : a.eval x = .slice (some ad) m c) (hR : Rd w (some ad) m c ys) (hm : 0 < m) (hlen : n + m ≤ 1000000000) (hbase : base ≤ w.heap.size)
    (h : ∀ v' w', w'.ownsRow base 3 1 v' (n + m) ((xs ++ ys).map (Value.int .i64)) → w.grownBy w' v.ownBlock → (∀ g, v'.ownBlock = some g → v.ownBlock = some g ∨ w.heap.size ≤ g) → K (a.put o.dst v') w') : o.wp Tryd.prog a w K Q := by
  obtain ⟨i0, hi, hz0, hz1, hz2⟩ := info_parts Tryd.info3
  obtain ⟨v', w', hr, h2, h3, -⟩ := run_append_own (P := Tryd.prog) w base 22 o.type 3 i0 (.int .i64 0) 1 8 Tryd.underlying22 hi hz0 hz1 hz2 rfl (by decide) v n _ hown ad m c (ys.map (Value.int .i64)) (by simp [hR.len]) hR.news (ints_oneCell .i64 ys) (by unfold maxLen; omega) (by omega) hbase
  have h4 := append_place3 w base v n _ hown ad (ys.map (Value.int .i64)) m c o.type (by simp [hR.len]) hR.news (ints_oneCell .i64 ys) hlen hm v' w' hr
  unfold Oper.wp
  simp [execOp, ho, resolve, invoke, builtin, hs, hx, hr, Result.andThen]
  refine h v' w' (by rw [List.map_append]; exact h2) h3 (fun g hg => ?_)
  rcases h4 with e | e
  · exact Or.inl (e ▸ hg)
  · rw [hg, Option.some.injEq] at e; exact Or.inr (by omega)

theorem wpList_append_i {ops : Array Oper} {rest : List Oper} {o : Oper} {a : Act} {Q : Exit → Act → World → Prop} (w : World) (hgd : o.guard = none) (s x : Operand)
    (ho : o.op = .call { callee := .builtin .append, args := #[s, x], argTypes := #[22, 22] }) (base : Nat) (v : Value) (n : Nat) (xs : List Int) (hs : a.eval s = v) (hown : w.ownsRow base 3 1 v n (xs.map (Value.int .i64)))
    (ad : Addr) (m c : Nat) (ys : List Int) (hx : a.eval x = .slice (some ad) m c) (hR : Rd w (some ad) m c ys) (hm : 0 < m) (hlen : n + m ≤ 1000000000) (hbase : base ≤ w.heap.size)
    (h : ∀ v' w', w'.ownsRow base 3 1 v' (n + m) ((xs ++ ys).map (Value.int .i64)) → w.grownBy w' v.ownBlock → (∀ g, v'.ownBlock = some g → v.ownBlock = some g ∨ w.heap.size ≤ g) → wpList Tryd.prog ops Q rest (a.put o.dst v') w') : wpList Tryd.prog ops Q (o :: rest) a w :=
  wpList_plain hgd fun _ hK => wp_append_i w s x ho base v n xs hs hown ad m c ys hx hR hm hlen hbase fun v' w' h1 h2 h3 => hK _ _ (h v' w' h1 h2 h3)

theorem wpListIn_append_i {l d : Nat} {ops : Array Oper} {rest : List Oper} {o : Oper} {a : Act} {Q : Exit → Act → World → Prop} (w : World) (hgd : o.guard = none) (s x : Operand)
    (ho : o.op = .call { callee := .builtin .append, args := #[s, x], argTypes := #[22, 22] }) (base : Nat) (v : Value) (n : Nat) (xs : List Int) (hs : a.eval s = v) (hown : w.ownsRow base 3 1 v n (xs.map (Value.int .i64)))
    (ad : Addr) (m c : Nat) (ys : List Int) (hx : a.eval x = .slice (some ad) m c) (hR : Rd w (some ad) m c ys) (hm : 0 < m) (hlen : n + m ≤ 1000000000) (hbase : base ≤ w.heap.size)
    (h : ∀ v' w', w'.ownsRow base 3 1 v' (n + m) ((xs ++ ys).map (Value.int .i64)) → w.grownBy w' v.ownBlock → (∀ g, v'.ownBlock = some g → v.ownBlock = some g ∨ w.heap.size ≤ g) → wpListIn (Fence.wide.inRound l) d Tryd.prog ops Q rest (a.put o.dst v') w') : wpListIn (Fence.wide.inRound l) d Tryd.prog ops Q (o :: rest) a w :=
  wpListIn_plain hgd fun _ hK => oper_round (fun c e => by rw [ho] at e; cases e) (wp_append_i w s x ho base v n xs hs hown ad m c ys hx hR hm hlen hbase fun v' w' h1 h2 h3 => hK _ _ (h v' w' h1 h2 h3))

/-- A row of the call's own, sorted. -/
theorem sort_own {w : World} {base n cap : Nat} {ad : Addr} {zs : List Int} (h : w.ownsRow base 3 1 (.slice (some ad) n cap) n (zs.map (Value.int .i64))) (hn : n ≤ 1000000) :
    Calls Tryd.prog 32 #[.slice (some ad) n cap] w fun e w' => e = .returned (.tuple #[]) ∧ w'.ownsRow base 3 1 (.slice (some ad) n cap) n ((zs.mergeSort fun x y => decide (x ≤ y)).map (Value.int .i64)) ∧ w.grownBy w' (Value.slice (some ad) n cap).ownBlock := by
  have hl : zs.length = n := by simpa using h.1
  rcases h.2 with ⟨hv, _⟩ | ⟨g, cap', cur, hv, hb, hg, hnc, hcm, hcs, ht⟩
  · cases hv
  · simp only [Value.slice.injEq, Option.some.injEq] at hv
    obtain ⟨rfl, -, rfl⟩ := hv
    have hH : Go.Sort.Holds (Value.int .i64) w g 0 zs.toArray := holds_of_blockI hg (by rw [hl]; simpa using ht)
    have hc := Tryd.slices_Sort_int g 0 cap zs w hH (Array.getElem?_eq_some_iff.1 hg).1 (by omega)
    rw [hl] at hc
    refine hc.mono ?_
    rintro e w' ⟨rfl, k, os, rfl⟩
    refine ⟨rfl, ?_, ?_⟩
    · have := ownsRow_sortedI (n := k) (os := os) (ts := zs.mergeSort fun x y => decide (x ≤ y)) (ss := zs) (by simp) hb hg (by omega) hcm hcs
      rw [hl] at this
      exact this
    · exact grownBy_sortedI _

end Go.Proofs.YtdblmcihklcenaaDoor
