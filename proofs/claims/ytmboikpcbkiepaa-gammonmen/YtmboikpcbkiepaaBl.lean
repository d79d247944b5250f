/-
  Lists of boards that are grown, and how they are read. No conditions beyond those that each theorem bears.
-/
import Derived.Test.YtmboikpcbkiepaaLg
import Derived.Test.YtmboikpcbkiepaaKn
namespace Go.Proofs.Ytmboikpcbkiepaa
open Go.RowKit

/-- A board, but for whose turn it is. -/
structure Bo where
  P : List Int
  W : Int
  B : Int

abbrev bv (g c : Nat) (x : Bo) (T : Int) : List Value := [.slice (some ⟨g, 0, none⟩) 26 c, .int .i64 x.W, .int .i64 x.B, .int .i64 T]

/-- The cells of a list of boards. -/
def Bv (w : World) (T : Int) : List Value → List Bo → Prop
  | vs, [] => vs = []
  | vs, x :: L => ∃ g c vs', vs = bv g c x T ++ vs' ∧ Rd w (some ⟨g, 0, none⟩) 26 c x.P ∧ Bv w T vs' L

theorem Bv.len {w : World} {T : Int} : ∀ {L : List Bo} {vs : List Value}, Bv w T vs L → vs.length = L.length * 4
  | [], vs, h => by rw [show vs = [] from h]; rfl
  | x :: L, vs, h => by
    obtain ⟨g, c, vs', rfl, _, h2⟩ := h
    rw [List.length_append, Bv.len h2, List.length_cons]
    show 4 + L.length * 4 = (L.length + 1) * 4
    omega

theorem Bv.imp {w w' : World} {T : Int} (hR : ∀ g c P, Rd w (some ⟨g, 0, none⟩) 26 c P → Rd w' (some ⟨g, 0, none⟩) 26 c P) : ∀ {L : List Bo} {vs : List Value}, Bv w T vs L → Bv w' T vs L
  | [], _, h => h
  | x :: L, vs, h => by
    obtain ⟨g, c, vs', e, h1, h2⟩ := h
    exact ⟨g, c, vs', e, hR _ _ _ h1, Bv.imp hR h2⟩

theorem Bv.app {w : World} {T : Int} : ∀ {L M : List Bo} {vs us : List Value}, Bv w T vs L → Bv w T us M → Bv w T (vs ++ us) (L ++ M)
  | [], M, vs, us, h, h2 => by rw [show vs = [] from h]; exact h2
  | x :: L, M, vs, us, h, h2 => by
    obtain ⟨g, c, vs', rfl, h1, h3⟩ := h
    exact ⟨g, c, vs' ++ us, by rw [List.append_assoc], h1, Bv.app h3 h2⟩

theorem Bv.split {w : World} {T : Int} : ∀ {L : List Bo} {vs : List Value} (k : Nat), k ≤ L.length → Bv w T vs L → Bv w T (vs.take (k * 4)) (L.take k) ∧ Bv w T (vs.drop (k * 4)) (L.drop k)
  | L, vs, 0, _, h => by simp only [Nat.zero_mul, List.take_zero, List.drop_zero]; exact ⟨rfl, h⟩
  | [], vs, k + 1, hk, h => by simp at hk
  | x :: L, vs, k + 1, hk, h => by
    obtain ⟨g, c, vs', rfl, h1, h3⟩ := h
    obtain ⟨i1, i2⟩ := Bv.split k (by simpa using hk) h3
    rw [List.take_succ_cons, List.drop_succ_cons, show (k + 1) * 4 = 4 + k * 4 by omega]
    refine ⟨⟨g, c, vs'.take (k * 4), ?_, h1, i1⟩, ?_⟩
    · rw [List.take_append, List.take_of_length_le (show (bv g c x T).length ≤ 4 + k * 4 by show 4 ≤ _; omega)]
      congr 2
      show 4 + k * 4 - 4 = _
      omega
    · rw [List.drop_append, List.drop_of_length_le (show (bv g c x T).length ≤ 4 + k * 4 by show 4 ≤ _; omega), List.nil_append, show 4 + k * 4 - (bv g c x T).length = k * 4 by show 4 + k * 4 - 4 = _; omega]
      exact i2

theorem Bv.one {w : World} {T : Int} : ∀ {L : List Bo} {vs : List Value}, Bv w T vs L → ∀ u ∈ vs, u.oneCell' = true
  | [], vs, h, u, hu => by rw [show vs = [] from h] at hu; cases hu
  | x :: L, vs, h, u, hu => by
    obtain ⟨g, c, vs', rfl, h1, h3⟩ := h
    rcases List.mem_append.1 hu with hu | hu
    · simp only [List.mem_cons, List.not_mem_nil, or_false] at hu
      rcases hu with rfl | rfl | rfl | rfl <;> rfl
    · exact Bv.one h3 u hu

def b0 : Bo := ⟨[], 0, 0⟩

theorem Bv.at {w : World} {T : Int} {L : List Bo} {vs : List Value} (h : Bv w T vs L) {j : Nat} (hj : j < L.length) : ∃ g c, (∀ i v, (bv g c (L.getD j b0) T)[i]? = some v → vs[4 * j + i]? = some v) ∧ Rd w (some ⟨g, 0, none⟩) 26 c (L.getD j b0).P := by
  have h2 := (Bv.split j (Nat.le_of_lt hj) h).2
  obtain ⟨x, M, he⟩ : ∃ x M, L.drop j = x :: M := ⟨L[j], L.drop (j + 1), by rw [List.drop_eq_getElem_cons hj]⟩
  have hx : L.getD j b0 = x := by
    have := congrArg (fun l : List Bo => l[0]?) he
    simp only [List.getElem?_drop, Nat.add_zero, List.getElem?_cons_zero] at this
    simp [List.getD, this]
  rw [he] at h2
  obtain ⟨g, c, vs', e, h1, _⟩ := h2
  rw [hx]
  refine ⟨g, c, fun i v hv => ?_, h1⟩
  have hi := (List.getElem?_eq_some_iff.1 hv).1
  have := congrArg (fun l : List Value => l[i]?) e
  simp only [List.getElem?_drop] at this
  rw [List.getElem?_append_left hi, hv, Nat.mul_comm j 4] at this
  exact this

/-- A list of boards that can be read, in a row of its own from 'base' on. -/
def Bs (base : Nat) (w : World) (T : Int) (v : Value) (L : List Bo) : Prop := ∃ vs, w.ownsRow base 24 4 v L.length vs ∧ Bv w T vs L ∧ (L = [] → v = .slice none 0 0)

theorem Bs.nil (base : Nat) (w : World) (T : Int) : Bs base w T (.slice none 0 0) [] := ⟨[], World.ownsRow_nil _ _ _ _, rfl, fun _ => rfl⟩

theorem Bs.below {base : Nat} {w w' : World} {T : Int} {v : Value} {L : List Bo} (h : Bs base w T v L) (hb : Below w.heap.size w w') : Bs base w' T v L := by
  obtain ⟨vs, h1, h2, h3⟩ := h
  exact ⟨vs, ownsRow_block h1 (fun g hg => hb.block g (ownsRow_lt h1 hg)), h2.imp (fun g c P hR => hR.mono hb), h3⟩

theorem Bs.base {base base' : Nat} {w : World} {T : Int} {v : Value} {L : List Bo} (h : Bs base w T v L) (hb : base' ≤ base) : Bs base' w T v L := by
  obtain ⟨vs, ⟨h0, h1⟩, h2, h3⟩ := h
  refine ⟨vs, ⟨h0, ?_⟩, h2, h3⟩
  rcases h1 with h1 | ⟨g, cap, cur, e, hbg, r⟩
  · exact Or.inl h1
  · exact Or.inr ⟨g, cap, cur, e, by omega, r⟩

theorem Bs.form {base : Nat} {w : World} {T : Int} {v : Value} {L : List Bo} (h : Bs base w T v L) : ∃ a c, v = .slice a L.length c ∧ L.length ≤ c ∧ c ≤ maxLen ∧ (L ≠ [] → ∃ g, a = some ⟨g, 0, none⟩) := by
  obtain ⟨vs, h1, h2, h3⟩ := h
  rcases h1.2 with ⟨hv, h0⟩ | ⟨g, cap, cur, hv, _, _, q1, q2, _⟩
  · refine ⟨none, 0, by rw [hv, h0], by omega, Nat.zero_le _, fun hn => ?_⟩
    exact absurd (List.eq_nil_of_length_eq_zero h0) hn
  · exact ⟨_, cap, hv, q1, q2, fun _ => ⟨g, rfl⟩⟩

/-- One of them, and its cells. -/
theorem Bs.at {base : Nat} {w : World} {T : Int} {ga n cap : Nat} {L : List Bo} (h : Bs base w T (.slice (some ⟨ga, 0, none⟩) n cap) L) {j : Nat} (hj : j < L.length) :
    ∃ g c, w.rangeAt ga (4 * j) (bv g c (L.getD j b0) T) ∧ Rd w (some ⟨g, 0, none⟩) 26 c (L.getD j b0).P := by
  obtain ⟨vs, h1, h2, _⟩ := h
  obtain ⟨g, c, h4, h5⟩ := h2.at hj
  obtain rfl : n = L.length := by
    rcases h1.2 with ⟨hv, _⟩ | ⟨_, _, _, hv, _⟩
    · cases hv
    · simp only [Value.slice.injEq] at hv; exact hv.2.1
  refine ⟨g, c, fun i v hv => ?_, h5⟩
  have hl := (List.getElem?_eq_some_iff.1 (h4 i v hv)).1
  rw [h1.1] at hl
  rw [h1.cellAt _ hl]
  exact h4 i v hv

/-- What is read lies in no row of boards. -/
theorem apart {base : Nat} {w : World} {T : Int} {v : Value} {L : List Bo} (h : Bs base w T v L) {g c : Nat} {P : List Int} (hR : Rd w (some ⟨g, 0, none⟩) 26 c P) : some g ≠ v.ownBlock := by
  intro e
  obtain ⟨vs, h1, h2, h3⟩ := h
  cases L with
  | nil => rw [h3 rfl] at e; cases e
  | cons x L =>
    obtain ⟨g', c', vs', rfl, _, _⟩ := h2
    rcases h1.2 with ⟨hv, h0⟩ | ⟨g2, cap, cur, hv, hbg, hg, q1, q2, q3, q4⟩
    · simp at h0
    · rw [hv] at e
      simp only [Value.ownBlock, Option.some.injEq] at e
      subst e
      obtain ⟨b, off, he, hc⟩ := hR.cells (by omega)
      simp only [Option.some.injEq, Addr.mk.injEq] at he
      obtain ⟨rfl, rfl, _⟩ := he
      have c0 := hc 0 (by omega)
      rw [hv] at h1
      have c1 := World.ownsRow.cellAt h1 0 (by simp)
      rw [c1] at c0
      simp at c0

theorem Bs.push {base : Nat} {w w' : World} {T : Int} {v v' : Value} {L M : List Bo} {vs us : List Value} (hB : Bs base w T v L) (h2 : Bv w T vs L) (h3 : Bv w T us M)
    (hO : w'.ownsRow base 24 4 v' (L.length + M.length) (vs ++ us)) (hG : w.grownBy w' v.ownBlock) (hn : v' = .slice none 0 0 ↔ v = .slice none 0 0 ∧ M.length = 0) : Bs base w' T v' (L ++ M) := by
  have keep : ∀ g c P, Rd w (some ⟨g, 0, none⟩) 26 c P → Rd w' (some ⟨g, 0, none⟩) 26 c P := by
    intro g c P hR
    refine ⟨hR.len, hR.cap, hR.max, hR.nil, fun h0 => ?_⟩
    obtain ⟨b, off, e, hc⟩ := hR.cells h0
    refine ⟨b, off, e, fun i hi => hG.cell (hc i hi) ?_⟩
    simp only [Option.some.injEq, Addr.mk.injEq] at e
    rw [← e.1]
    exact apart hB hR
  refine ⟨vs ++ us, by rw [List.length_append]; exact hO, (h2.imp keep).app (h3.imp keep), fun h => ?_⟩
  obtain ⟨e1, e2⟩ := List.append_eq_nil_iff.1 h
  obtain ⟨_, _, _, h5⟩ := hB
  exact hn.2 ⟨h5 e1, by rw [e2]; rfl⟩

theorem Try.info24 : (Try.prog.info? 24).map (fun i => (i.zero, i.size, i.bytes)) = some (some (.agg #[.slice none 0 0, .int .i64 0, .int .i64 0, .int .i64 0]), 4, 48) := by kernel_rfl

/-- 'append(s, x...)', x some boards that lie one behind another. -/
theorem wpList_append_bs {ops : Array Oper} {rest : List Oper} {o : Oper} {a : Act} {Q : Exit → Act → World → Prop} (w : World) (hgd : o.guard = none) (s x : Operand)
    (ho : o.op = .call { callee := .builtin .append, args := #[s, x], argTypes := #[34, 34] }) (base : Nat) (T : Int) (v : Value) (L : List Bo) (hs : a.eval s = v) (hB : Bs base w T v L)
    (ad : Addr) (m c : Nat) (us : List Value) (M : List Bo) (hx : a.eval x = .slice (some ad) m c) (hm : M.length = m) (hcell : ∀ j u, us[j]? = some u → w.cell? (ad.add j) = some u) (hV : Bv w T us M)
    (hlen : L.length + m ≤ 100000000) (hbase : base ≤ w.heap.size)
    (h : ∀ v' w', Bs base w' T v' (L ++ M) → w.grownBy w' v.ownBlock → (∀ q, v.ownBlock = some q → base ≤ q) → wpList Try.prog ops Q rest (a.put o.dst v') w') : wpList Try.prog ops Q (o :: rest) a w := by
  obtain ⟨i0, hi, hz0, hz1, hz2⟩ := info_parts Try.info24
  obtain ⟨vs, h1, h2, h3⟩ := hB
  subst hm
  refine wpList_append_own w hgd s x 34 ho base 24 i0 _ 4 48 Try.underlying34 hi hz0 hz1 hz2 rfl (by decide) v L.length vs hs h1 ad M.length c us hx hV.len hcell hV.one (by unfold maxLen; omega) (by omega) hbase ?_
  intro v' w' ho' hg hn
  exact h v' w' (Bs.push ⟨vs, h1, h2, h3⟩ h2 hV ho' hg hn) hg (fun k hk => (h1.lt k hk).1)

/-- 'append(s, nil...)'. -/
theorem wpList_append_bs_none {ops : Array Oper} {rest : List Oper} {o : Oper} {a : Act} {Q : Exit → Act → World → Prop} (w : World) (hgd : o.guard = none) (s x : Operand)
    (ho : o.op = .call { callee := .builtin .append, args := #[s, x], argTypes := #[34, 34] }) (base : Nat) (T : Int) (v : Value) (L : List Bo) (hs : a.eval s = v) (hB : Bs base w T v L)
    (hx : a.eval x = .slice none 0 0) (h : wpList Try.prog ops Q rest (a.put o.dst v) w) : wpList Try.prog ops Q (o :: rest) a w := by
  obtain ⟨i0, hi, hz0, hz1, hz2⟩ := info_parts Try.info24
  obtain ⟨vs, h1, h2, h3⟩ := hB
  exact wpList_append_own_none hgd s x 34 ho base 24 i0 4 Try.underlying34 hi v L.length vs hs h1 hx h

end Go.Proofs.Ytmboikpcbkiepaa
