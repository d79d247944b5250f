/-
  Lists of trays that are grown, and how they are read. No conditions beyond those that each theorem bears.
-/
import Derived.Test.YticalbpohhpjaaaDoorSo
namespace Go.Proofs.YticalbpohhpjaaaDoor
open Go.RowKit

abbrev tvc (W H N g c q : Nat) : List Value := [.int .i64 W, .int .i64 H, .slice (some ⟨g, 0, none⟩) N c, .int .i64 q]

/-- The cells of a list of boards. -/
def Tv (w : World) (W H N : Nat) : List Value → List (List Int × Nat) → Prop
  | vs, [] => vs = []
  | vs, x :: L => ∃ g c vs', vs = tvc W H N g c x.2 ++ vs' ∧ Bw w g N c x.1 ∧ Tv w W H N vs' L

theorem Tv.len {w : World} {W H N : Nat} : ∀ {L : List (List Int × Nat)} {vs : List Value}, Tv w W H N vs L → vs.length = L.length * 4
  | [], vs, h => by rw [show vs = [] from h]; rfl
  | x :: L, vs, h => by
    obtain ⟨g, c, vs', rfl, _, h2⟩ := h
    rw [List.length_append, Tv.len h2, List.length_cons]
    show 4 + L.length * 4 = (L.length + 1) * 4
    omega

theorem Tv.imp {w w' : World} {W H N : Nat} (hR : ∀ g c P, Bw w g N c P → Bw w' g N c P) : ∀ {L : List (List Int × Nat)} {vs : List Value}, Tv w W H N vs L → Tv w' W H N vs L
  | [], _, h => h
  | x :: L, vs, h => by
    obtain ⟨g, c, vs', e, h1, h2⟩ := h
    exact ⟨g, c, vs', e, hR _ _ _ h1, Tv.imp hR h2⟩

theorem Tv.app {w : World} {W H N : Nat} : ∀ {L M : List (List Int × Nat)} {vs us : List Value}, Tv w W H N vs L → Tv w W H N us M → Tv w W H N (vs ++ us) (L ++ M)
  | [], M, vs, us, h, h2 => by rw [show vs = [] from h]; exact h2
  | x :: L, M, vs, us, h, h2 => by
    obtain ⟨g, c, vs', rfl, h1, h3⟩ := h
    exact ⟨g, c, vs' ++ us, by rw [List.append_assoc], h1, Tv.app h3 h2⟩

theorem Tv.split {w : World} {W H N : Nat} : ∀ {L : List (List Int × Nat)} {vs : List Value} (k : Nat), k ≤ L.length → Tv w W H N vs L → Tv w W H N (vs.take (k * 4)) (L.take k) ∧ Tv w W H N (vs.drop (k * 4)) (L.drop k)
  | L, vs, 0, _, h => by simp only [Nat.zero_mul, List.take_zero, List.drop_zero]; exact ⟨rfl, h⟩
  | [], vs, k + 1, hk, h => by simp at hk
  | x :: L, vs, k + 1, hk, h => by
    obtain ⟨g, c, vs', rfl, h1, h3⟩ := h
    obtain ⟨i1, i2⟩ := Tv.split k (by simpa using hk) h3
    rw [List.take_succ_cons, List.drop_succ_cons, show (k + 1) * 4 = 4 + k * 4 by omega]
    refine ⟨⟨g, c, vs'.take (k * 4), ?_, h1, i1⟩, ?_⟩
    · rw [List.take_append, List.take_of_length_le (show (tvc W H N g c x.2).length ≤ 4 + k * 4 by show 4 ≤ _; omega)]
      congr 2
      show 4 + k * 4 - 4 = _
      omega
    · rw [List.drop_append, List.drop_of_length_le (show (tvc W H N g c x.2).length ≤ 4 + k * 4 by show 4 ≤ _; omega), List.nil_append, show 4 + k * 4 - (tvc W H N g c x.2).length = k * 4 by show 4 + k * 4 - 4 = _; omega]
      exact i2

theorem Tv.one {w : World} {W H N : Nat} : ∀ {L : List (List Int × Nat)} {vs : List Value}, Tv w W H N vs L → ∀ u ∈ vs, u.oneCell' = true
  | [], vs, h, u, hu => by rw [show vs = [] from h] at hu; cases hu
  | x :: L, vs, h, u, hu => by
    obtain ⟨g, c, vs', rfl, h1, h3⟩ := h
    rcases List.mem_append.1 hu with hu | hu
    · simp only [List.mem_cons, List.not_mem_nil, or_false] at hu
      rcases hu with rfl | rfl | rfl | rfl <;> rfl
    · exact Tv.one h3 u hu

theorem Tv.at {w : World} {W H N : Nat} {L : List (List Int × Nat)} {vs : List Value} (h : Tv w W H N vs L) {j : Nat} (hj : j < L.length) : ∃ g c, (∀ i v, (tvc W H N g c (L.getD j ([], 0)).2)[i]? = some v → vs[4 * j + i]? = some v) ∧ Bw w g N c (L.getD j ([], 0)).1 := by
  have h2 := (Tv.split j (Nat.le_of_lt hj) h).2
  obtain ⟨x, M, he⟩ : ∃ x M, L.drop j = x :: M := ⟨L[j], L.drop (j + 1), by rw [List.drop_eq_getElem_cons hj]⟩
  have hx : L.getD j ([], 0) = x := by
    have := congrArg (fun l : List (List Int × Nat) => l[0]?) he
    simp only [List.getElem?_drop, Nat.add_zero, List.getElem?_cons_zero] at this
    simp [List.getD, this]
  rw [he] at h2
  obtain ⟨g, c, vs', e, h1, _⟩ := h2
  rw [hx]
  refine ⟨g, c, fun i v hv => ?_, h1⟩
  have hi := (List.getElem?_eq_some_iff.1 hv).1
  have := congrArg (fun l : List Value => l[i]?) e
  simp only [List.getElem?_drop] at this
  rw [List.getElem?_append_left hi, hv, Nat.mul_comm j 4] at this
  exact this

/-- A list of boards that can be read, in a row of its own from 'base' on. -/
def Tvs (base : Nat) (w : World) (W H N : Nat) (v : Value) (L : List (List Int × Nat)) : Prop := ∃ vs, w.ownsRow base 55 4 v L.length vs ∧ Tv w W H N vs L ∧ (L = [] → v = .slice none 0 0)

theorem Tvs.nil (base : Nat) (w : World) (W H N : Nat) : Tvs base w W H N (.slice none 0 0) [] := ⟨[], World.ownsRow_nil _ _ _ _, rfl, fun _ => rfl⟩

theorem Tvs.below {base : Nat} {w w' : World} {W H N : Nat} {v : Value} {L : List (List Int × Nat)} (h : Tvs base w W H N v L) (hb : Below w.heap.size w w') : Tvs base w' W H N v L := by
  obtain ⟨vs, h1, h2, h3⟩ := h
  exact ⟨vs, own_blk h1 (fun g hg => hb.block g (h1.lt g hg).2), h2.imp (fun g c P hR => hR.mono hb), h3⟩

theorem Tvs.base {base base' : Nat} {w : World} {W H N : Nat} {v : Value} {L : List (List Int × Nat)} (h : Tvs base w W H N v L) (hb : base' ≤ base) : Tvs base' w W H N v L := by
  obtain ⟨vs, ⟨h0, h1⟩, h2, h3⟩ := h
  refine ⟨vs, ⟨h0, ?_⟩, h2, h3⟩
  rcases h1 with h1 | ⟨g, cap, cur, e, hbg, r⟩
  · exact Or.inl h1
  · exact Or.inr ⟨g, cap, cur, e, by omega, r⟩

theorem Tvs.form {base : Nat} {w : World} {W H N : Nat} {v : Value} {L : List (List Int × Nat)} (h : Tvs base w W H N v L) : ∃ a c, v = .slice a L.length c ∧ L.length ≤ c ∧ c ≤ maxLen ∧ (L ≠ [] → ∃ g, a = some ⟨g, 0, none⟩) := by
  obtain ⟨vs, h1, h2, h3⟩ := h
  rcases h1.2 with ⟨hv, h0⟩ | ⟨g, cap, cur, hv, _, _, q1, q2, _⟩
  · refine ⟨none, 0, by rw [hv, h0], by omega, Nat.zero_le _, fun hn => ?_⟩
    exact absurd (List.eq_nil_of_length_eq_zero h0) hn
  · exact ⟨_, cap, hv, q1, q2, fun _ => ⟨g, rfl⟩⟩

/-- One of them, and its cells. -/
theorem Tvs.at {base : Nat} {w : World} {W H N : Nat} {ga n cap : Nat} {L : List (List Int × Nat)} (h : Tvs base w W H N (.slice (some ⟨ga, 0, none⟩) n cap) L) {j : Nat} (hj : j < L.length) :
    ∃ g c, w.rangeAt ga (4 * j) (tvc W H N g c (L.getD j ([], 0)).2) ∧ Bw w g N c (L.getD j ([], 0)).1 := by
  obtain ⟨vs, h1, h2, _⟩ := h
  obtain ⟨g, c, h4, h5⟩ := h2.at hj
  obtain rfl : n = L.length := by
    rcases h1.2 with ⟨hv, _⟩ | ⟨_, _, _, hv, _⟩
    · cases hv
    · simp only [Value.slice.injEq] at hv; exact hv.2.1
  refine ⟨g, c, fun i v hv => ?_, h5⟩
  have hl := (List.getElem?_eq_some_iff.1 (h4 i v hv)).1
  rw [h1.1] at hl
  rw [h1.cellAt _ hl]
  exact h4 i v hv

/-- What is read lies in no row of boards. -/
theorem apart {base : Nat} {w : World} {W H N : Nat} {v : Value} {L : List (List Int × Nat)} (h : Tvs base w W H N v L) {g c : Nat} {P : List Int} (hR : Bw w g N c P) : some g ≠ v.ownBlock := by
  intro e
  obtain ⟨vs, h1, h2, h3⟩ := h
  rcases h1.2 with ⟨hv, h0⟩ | ⟨g2, cap, cur, hv, hbg, hg, q1, q2, q3, q4⟩
  · rw [hv] at e; cases e
  · rw [hv] at e
    simp only [Value.ownBlock, Option.some.injEq] at e
    exact hR.notCells hg (by decide) e

theorem Tvs.push {base : Nat} {w w' : World} {W H N : Nat} {v v' : Value} {L M : List (List Int × Nat)} {vs us : List Value} (hB : Tvs base w W H N v L) (h2 : Tv w W H N vs L) (h3 : Tv w W H N us M)
    (hO : w'.ownsRow base 55 4 v' (L.length + M.length) (vs ++ us)) (hG : w.grownBy w' v.ownBlock) (hn : v' = .slice none 0 0 ↔ v = .slice none 0 0 ∧ M.length = 0) : Tvs base w' W H N v' (L ++ M) := by
  have keep : ∀ g c P, Bw w g N c P → Bw w' g N c P := by
    intro g c P hR
    refine own_blk hR (fun q hq => ?_)
    obtain rfl : g = q := by simpa [Value.ownBlock] using hq
    exact hG.block g hR.lt (fun e => apart hB hR e)
  refine ⟨vs ++ us, by rw [List.length_append]; exact hO, (h2.imp keep).app (h3.imp keep), fun h => ?_⟩
  obtain ⟨e1, e2⟩ := List.append_eq_nil_iff.1 h
  obtain ⟨_, _, _, h5⟩ := hB
  exact hn.2 ⟨h5 e1, by rw [e2]; rfl⟩

theorem kinfo55 : (Tryd.prog.info? 55).map (fun i => (i.zero, i.size, i.bytes)) = some (some (.agg #[.int .i64 0, .int .i64 0, .slice none 0 0, .int .i64 0]), 4, 48) := by kernel_rfl

/-- 'append(s, x...)', x some boards that lie one behind another. -/
theorem wpList_append_bs {ops : Array Oper} {rest : List Oper} {o : Oper} {a : Act} {Q : Exit → Act → World → Prop} (w : World) (hgd : o.guard = none) (s x : Operand)
    (ho : o.op = .call { callee := .builtin .append, args := #[s, x], argTypes := #[68, 68] }) (base : Nat) (W H N : Nat) (v : Value) (L : List (List Int × Nat)) (hs : a.eval s = v) (hB : Tvs base w W H N v L)
    (ad : Addr) (m c : Nat) (us : List Value) (M : List (List Int × Nat)) (hx : a.eval x = .slice (some ad) m c) (hm : M.length = m) (hcell : ∀ j u, us[j]? = some u → w.cell? (ad.add j) = some u) (hV : Tv w W H N us M)
    (hlen : L.length + m ≤ 100000000) (hbase : base ≤ w.heap.size)
    (h : ∀ v' w', Tvs base w' W H N v' (L ++ M) → w.grownBy w' v.ownBlock → (∀ q, v.ownBlock = some q → base ≤ q) → wpList Tryd.prog ops Q rest (a.put o.dst v') w') : wpList Tryd.prog ops Q (o :: rest) a w := by
  obtain ⟨i0, hi, hz0, hz1, hz2⟩ := info_parts kinfo55
  obtain ⟨vs, h1, h2, h3⟩ := hB
  subst hm
  refine wpList_append_own w hgd s x 68 ho base 55 i0 _ 4 48 Tryd.underlying68 hi hz0 hz1 hz2 rfl (by decide) v L.length vs hs h1 ad M.length c us hx hV.len hcell hV.one (by unfold maxLen; omega) (by omega) hbase ?_
  intro v' w' ho' hg hn
  exact h v' w' (Tvs.push ⟨vs, h1, h2, h3⟩ h2 hV ho' hg hn) hg (fun k hk => (h1.lt k hk).1)


end Go.Proofs.YticalbpohhpjaaaDoor
