/-
  What a slice of pieces reads as; how pieces are loaded; a slice of pieces copied. No conditions beyond those that each theorem bears.
-/
import Derived.Test.YtjcglpnpdalcjaaRows
import Derived.WalkKit
import Derived.WalkSpells
import Derived.WalkLawsBesides
import Derived.Laws.AppendOwnNone
import Derived.Deep.QuietTactic
import Derived.BigQuiet
namespace Go.Proofs.Ytjcglpnpdalcjaa
open Go.RowKit

abbrev Pc := Int × Int

theorem Try.info35 : (Try.prog.info? 35).map (fun i => (i.zero, i.size, i.bytes)) = some (some (.agg #[.int .i64 0, .int .i64 0]), 2, 16) := by kernel_rfl

theorem hide {p : Prop} (h : p) : Hid p := h

theorem build35 (a b : Int) (w : World) : (Instr.build 35 #[(0, .int .i64 a), (1, .int .i64 b)]).run Try.prog w = .ok (.agg #[.int .i64 a, .int .i64 b]) w := run_build w 35 _ _ (by kernel_rfl)

theorem run_eq35 (w : World) (x y x' y' : Int) : (Op.equalIn 10000 35 (.agg #[.int .i64 x, .int .i64 y]) (.agg #[.int .i64 x', .int .i64 y'])).run Try.prog w = .ok (x == x' && y == y') w := by
  show (Op.equalIn (9998 + 1 + 1) 35 (.agg #[.int .i64 x, .int .i64 y]) (.agg #[.int .i64 x', .int .i64 y'])).run Try.prog w = .ok (x == x' && y == y') w
  generalize (9998 : Nat) = d
  rw [Op.equalIn]
  simp only [Sem.run_bind, run_underlying Try.underlying35, Result.andThen_ok, Std.Legacy.Range.forIn_eq_forIn_range']
  have e3 : ∀ a b : Int, (Op.equalIn (d + 1) 3 (.int .i64 a) (.int .i64 b)).run Try.prog w = .ok (a == b) w := fun a b => run_equalIn_int w d 3 .i64 .i64 a b Try.underlying3
  generalize Op.equalIn (d + 1) 3 = E at *
  cases hx : x == x' <;> cases hy : y == y' <;>
    simp [List.range', part, Try.isAgg3, e3, hx, hy, Result.andThen]

theorem guard35 (op : BinOp) (x y : Operand) (xs ys : Array Value) (w : World) : (eqGuard op 35 x y (.agg xs) (.agg ys)).run Try.prog w = .ok () w := run_eqGuard_agg w op 35 x y xs ys (by kernel_rfl)

/-- The value of a piece. -/
def pv (p : Pc) : Value := .agg #[.int .i64 p.1, .int .i64 p.2]

/-- The cells of pieces. -/
def flat (ps : List Pc) : List Value := ps.flatMap fun p => [.int .i64 p.1, .int .i64 p.2]

theorem flat_nil : flat [] = [] := rfl
theorem flat_cons (p : Pc) (ps : List Pc) : flat (p :: ps) = .int .i64 p.1 :: .int .i64 p.2 :: flat ps := rfl
theorem flat_append (ps qs : List Pc) : flat (ps ++ qs) = flat ps ++ flat qs := by simp [flat]
theorem flat_length (ps : List Pc) : (flat ps).length = ps.length * 2 := by
  induction ps with
  | nil => rfl
  | cons p ps ih => rw [flat_cons]; simp [ih]; omega

theorem flat_get0 (ps : List Pc) : ∀ i, i < ps.length → (flat ps)[i * 2]? = some (.int .i64 (ps.getD i (0, 0)).1) := by
  induction ps with
  | nil => intro i hi; simp at hi
  | cons p ps ih =>
    intro i hi
    cases i with
    | zero => rfl
    | succ i =>
      rw [flat_cons, show (i + 1) * 2 = i * 2 + 1 + 1 by omega]
      simp only [List.getElem?_cons_succ]
      rw [ih i (by simpa using hi)]
      simp [List.getD]

theorem flat_get1 (ps : List Pc) : ∀ i, i < ps.length → (flat ps)[i * 2 + 1]? = some (.int .i64 (ps.getD i (0, 0)).2) := by
  induction ps with
  | nil => intro i hi; simp at hi
  | cons p ps ih =>
    intro i hi
    cases i with
    | zero => rfl
    | succ i =>
      rw [flat_cons, show (i + 1) * 2 + 1 = i * 2 + 1 + 1 + 1 by omega]
      simp only [List.getElem?_cons_succ]
      rw [ih i (by simpa using hi)]
      simp [List.getD]

theorem flat_one (ps : List Pc) : ∀ u ∈ flat ps, u.oneCell' = true := by
  intro u hu
  simp only [flat, List.mem_flatMap] at hu
  obtain ⟨p, _, hp⟩ := hu
  simp at hp
  rcases hp with rfl | rfl <;> rfl

/-- A slice of pieces, of length n and capacity c, reads ps. -/
structure Rp (w : World) (a : Option Addr) (n c : Nat) (ps : List Pc) : Prop where
  len : ps.length = n
  cap : n ≤ c
  max : c ≤ maxLen
  nil : a = none → c = 0
  cells : 0 < n → ∃ b off, a = some ⟨b, off, none⟩ ∧ ∀ i, i < n → w.cell? ⟨b, off + i * 2, none⟩ = some (.int .i64 (ps.getD i (0, 0)).1) ∧ w.cell? ⟨b, off + i * 2 + 1, none⟩ = some (.int .i64 (ps.getD i (0, 0)).2)

theorem Rp.of_nil (w : World) : Rp w none 0 0 [] := ⟨rfl, Nat.le_refl _, Nat.zero_le _, fun _ => rfl, fun h => absurd h (by omega)⟩

theorem Rp.mono {w w' : World} {a n c ps} (h : Rp w a n c ps) (hb : Below w.heap.size w w') : Rp w' a n c ps := by
  refine ⟨h.len, h.cap, h.max, h.nil, fun hn => ?_⟩
  obtain ⟨b, off, rfl, hc⟩ := h.cells hn
  refine ⟨b, off, rfl, fun i hi => ?_⟩
  obtain ⟨h0, h1⟩ := hc i hi
  rw [hb.cell (World.block_lt_of_cell? w _ h0), hb.cell (World.block_lt_of_cell? w _ h1)]
  exact ⟨h0, h1⟩

/-- What the call owns reads so. -/
theorem Rp.of_own {w : World} {base : Nat} {a : Option Addr} {n c : Nat} {ps : List Pc} (h : w.ownsRow base 35 2 (.slice a n c) n (flat ps)) : Rp w a n c ps := by
  have hl : ps.length = n := by have := h.1; rw [flat_length] at this; omega
  rcases h.2 with ⟨hv, h0⟩ | ⟨g, cap, cur, hv, hb, hg, hnc, hcm, hcs, ht⟩
  · simp only [Value.slice.injEq] at hv
    obtain ⟨rfl, rfl, rfl⟩ := hv
    exact ⟨hl, Nat.le_refl _, Nat.zero_le _, fun _ => rfl, fun h => absurd h (by omega)⟩
  · simp only [Value.slice.injEq] at hv
    obtain ⟨rfl, -, rfl⟩ := hv
    refine ⟨hl, hnc, hcm, (fun h => by simp at h), fun _ => ⟨g, 0, rfl, fun i hi => ?_⟩⟩
    rw [Nat.zero_add, h.cellAt (i * 2) (by omega), h.cellAt (i * 2 + 1) (by omega), flat_get0 ps i (by omega), flat_get1 ps i (by omega)]
    exact ⟨rfl, rfl⟩

/-- The cells of a slice that reads so, as the laws on append ask for them. -/
theorem Rp.news {w : World} {ad : Addr} {n c : Nat} {ps : List Pc} (h : Rp w (some ad) n c ps) : ∀ j u, (flat ps)[j]? = some u → w.cell? (ad.add j) = some u := by
  intro j u hu
  have hj : j < (flat ps).length := (List.getElem?_eq_some_iff.1 hu).1
  rw [flat_length, h.len] at hj
  obtain ⟨b, off, he, hc⟩ := h.cells (by omega)
  obtain rfl := Option.some.inj he
  obtain ⟨h0, h1⟩ := hc (j / 2) (by omega)
  rw [Addr.add_lit]
  rcases Nat.mod_two_eq_zero_or_one j with hm | hm
  · have e : j = j / 2 * 2 := by omega
    rw [e] at hu ⊢
    rw [flat_get0 ps (j / 2) (by rw [h.len]; omega)] at hu
    rw [h0]; exact hu
  · have e : j = j / 2 * 2 + 1 := by omega
    rw [e] at hu ⊢
    rw [flat_get1 ps (j / 2) (by rw [h.len]; omega)] at hu
    rw [← Nat.add_assoc, h1]; exact hu

/-- 'append(s, x...)', s the call's own, x whatever slice of pieces can be read: as an operation. -/
theorem wp_append_rp {o : Oper} {a : Act} {K : Act → World → Prop} {Q : Exit → Act → World → Prop} (w : World) (s x : Operand)
    (ho : o.op = .call { callee := .builtin .append, args := #[s, x], argTypes := #[22, 22] }) (base : Nat) (v : Value) (n : Nat) (xs : List Pc) (hs : a.eval s = v) (hown : w.ownsRow base 35 2 v n (flat xs))
    (ao : Option Addr) (m c : Nat) (ys : List Pc) (hx : a.eval x = .slice ao m c) (hR : Rp w ao m c ys) (hbytes : (n + m) * 16 ≤ 140737488355328) (hbase : base ≤ w.heap.size)
    (h : ∀ v' w', w'.ownsRow base 35 2 v' (n + m) (flat (xs ++ ys)) → w.grownBy w' v.ownBlock → K (a.put o.dst v') w') : o.wp Try.prog a w K Q := by
  obtain ⟨i0, hi, hz0, hz1, hz2⟩ := info_parts Try.info35
  cases ao with
  | none =>
    obtain rfl := hR.nil rfl
    obtain rfl : m = 0 := by have := hR.cap; omega
    have hy : ys = [] := List.eq_nil_of_length_eq_zero hR.len
    subst hy
    have hrun := run_append_owned_none (P := Try.prog) (w := w) base 22 o.type 35 i0 2 Try.underlying22 hi v n _ hown
    unfold Oper.wp
    simp [execOp, ho, resolve, invoke, builtin, hs, hx, hrun, Result.andThen]
    exact h v w (by simpa using hown) (World.grownBy.refl _ _)
  | some ad =>
    refine wp_append_own w s x 22 ho base 35 i0 (.agg #[.int .i64 0, .int .i64 0]) 2 16 Try.underlying22 hi hz0 hz1 hz2 rfl (by decide) v n _ hs hown ad m c (flat ys) hx (by rw [flat_length, hR.len]) hR.news (flat_one ys) (by unfold maxLen; omega) hbytes hbase ?_
    intro v' w' h1 h2 _
    exact h v' w' (by rw [flat_append]; exact h1) h2

theorem wpList_append_rp {ops : Array Oper} {rest : List Oper} {o : Oper} {a : Act} {Q : Exit → Act → World → Prop} (w : World) (hgd : o.guard = none) (s x : Operand)
    (ho : o.op = .call { callee := .builtin .append, args := #[s, x], argTypes := #[22, 22] }) (base : Nat) (v : Value) (n : Nat) (xs : List Pc) (hs : a.eval s = v) (hown : w.ownsRow base 35 2 v n (flat xs))
    (ao : Option Addr) (m c : Nat) (ys : List Pc) (hx : a.eval x = .slice ao m c) (hR : Rp w ao m c ys) (hbytes : (n + m) * 16 ≤ 140737488355328) (hbase : base ≤ w.heap.size)
    (h : ∀ v' w', w'.ownsRow base 35 2 v' (n + m) (flat (xs ++ ys)) → w.grownBy w' v.ownBlock → wpList Try.prog ops Q rest (a.put o.dst v') w') : wpList Try.prog ops Q (o :: rest) a w :=
  wpList_plain hgd fun _ hK => wp_append_rp w s x ho base v n xs hs hown ao m c ys hx hR hbytes hbase fun v' w' h1 h2 => hK _ _ (h v' w' h1 h2)

/-- 'l[k:]'. -/
theorem Rp.from {w : World} {a : Option Addr} {n c : Nat} {ps : List Pc} (h : Rp w a n c ps) {k : Nat} (hk : k ≤ n) : Rp w (if c = k then a else Option.map (fun x => x.add (k * 2)) a) (n - k) (c - k) (ps.drop k) := by
  have hcap := h.cap
  have hmax := h.max
  refine ⟨by simp [h.len], by omega, by omega, fun hn => ?_, fun hn => ?_⟩
  · by_cases hck : c = k
    · omega
    · rw [if_neg hck] at hn
      have := h.nil (by simpa using hn)
      omega
  · obtain ⟨b, off, rfl, hc⟩ := h.cells (by omega)
    refine ⟨b, off + k * 2, ?_, fun i hi => ?_⟩
    · rw [if_neg (by omega)]; simp [Addr.add_lit]
    · have := hc (k + i) (by omega)
      rw [show off + k * 2 + i * 2 = off + (k + i) * 2 by omega]
      simpa [List.getD] using this

/-- 'l[:k]'. -/
theorem Rp.upto {w : World} {a : Option Addr} {n c : Nat} {ps : List Pc} (h : Rp w a n c ps) {k : Nat} (hk : k ≤ n) : Rp w a k c (ps.take k) := by
  have hcap := h.cap
  have hlen := h.len
  refine ⟨by simp; omega, by omega, h.max, h.nil, fun hn => ?_⟩
  obtain ⟨b, off, rfl, hc⟩ := h.cells (by omega)
  refine ⟨b, off, rfl, fun i hi => ?_⟩
  have := hc i (by omega)
  simpa [List.getD, hi] using this

theorem own_slice {w : World} {base : Nat} {v : Value} {n : Nat} {xs : List Value} (hown : w.ownsRow base 35 2 v n xs) : ∃ a' c', v = .slice a' n c' := by
  rcases hown.2 with ⟨hv, h0⟩ | ⟨g, cap, cur, hv, _⟩
  · exact ⟨none, 0, by rw [hv]; simp; omega⟩
  · exact ⟨_, _, hv⟩

set_option maxHeartbeats 400000 in
theorem pieces_own (a : Option Addr) (n c : Nat) (ps : List Pc) (w : World) (h : Rp w a n c ps) (hr : n * 16 ≤ 140737488351232) :
    Calls Try.prog 10 #[.slice a n c] w fun e w' => ∃ a' c', e = .returned (.slice a' n c') ∧ w'.ownsRow w.heap.size 35 2 (.slice a' n c') n (flat ps) ∧ Below w.heap.size w w' := by
  go_enter Try.func10, Try.ntmps10
  go_wp2_with (at_builtin; refine wpList_append_rp w rfl _ _ rfl w.heap.size _ 0 [] rfl (World.ownsRow_nil _ _ _ _) a n c ps rfl h (by omega) (Nat.le_refl _) ?_)
  intro v' w1 hown hgrow
  obtain ⟨a', c', rfl⟩ := own_slice hown
  have B : Below w.heap.size w w1 := (Below.refl _ _).grown hgrow (Nat.le_refl _) (fun k hk => by simp [Value.ownBlock] at hk)
  clear hgrow
  have HO := hide hown
  clear hown
  go_wp2
  go_ret
  exact ⟨_, _, rfl, HO.out, B⟩

theorem pieces_any (a : Option Addr) (n c : Nat) (ps : List Pc) (w : World) (h : Rp w a n c ps) (hr : n * 16 ≤ 140737488351232) :
    Calls Try.prog 10 #[.slice a n c] w fun e w' => ∃ a' c', e = .returned (.slice a' n c') ∧ Rp w' a' n c' ps ∧ Below w.heap.size w w' :=
  (pieces_own a n c ps w h hr).mono fun _ _ ⟨a', c', he, ho, hb⟩ => ⟨a', c', he, Rp.of_own ho, hb⟩

/-- The cells of an element. -/
theorem Rp.cell {w : World} {b off n c : Nat} {spot} {ps : List Pc} (h : Rp w (some ⟨b, off, spot⟩) n c ps) {i : Nat} (hi : i < n) :
    spot = none ∧ w.cell? ⟨b, off + i * 2, none⟩ = some (.int .i64 (ps.getD i (0, 0)).1) ∧ w.cell? ⟨b, off + i * 2 + 1, none⟩ = some (.int .i64 (ps.getD i (0, 0)).2) := by
  obtain ⟨b', off', he, hc⟩ := h.cells (by omega)
  simp only [Option.some.injEq, Addr.mk.injEq] at he
  obtain ⟨rfl, rfl, rfl⟩ := he
  exact ⟨rfl, hc i hi⟩

theorem Rp.drew {w : World} {a n c ps} (h : Rp w a n c ps) : Rp w.drew a n c ps := h.mono (Below.refl _ _).drew

theorem ret_bool {a b : Bool} (h : a = b) : Ending.returned (.bool a) = .returned (.bool b) := by rw [h]
theorem ret_intN {a b : Int} (h : a = b) : Ending.returned (.int .i64 a) = .returned (.int .i64 b) := by rw [h]

theorem drewN_below (B : Nat) (w : World) (q : Nat) : Below B w (w.drewN q) := by
  induction q with
  | zero => exact Below.refl _ _
  | succ q ih => exact ⟨rfl, rfl, rfl, Nat.le_refl _, fun _ _ => rfl⟩

/-- A row of pieces: the second end of each has as many pips as the first one of the next. -/
def isR : List Pc → Bool
  | [] => true
  | [_] => true
  | p :: q :: r => p.2 == q.1 && isR (q :: r)

theorem isR_false (ps : List Pc) (k : Nat) (h1 : 1 ≤ k) (hk : k < ps.length) (h : (ps.getD (k - 1) (0, 0)).2 ≠ (ps.getD k (0, 0)).1) : isR ps = false := by
  induction ps generalizing k with
  | nil => simp at hk
  | cons p ps ih =>
    cases ps with
    | nil => simp at hk; omega
    | cons q r =>
      rw [isR]
      by_cases hk1 : k = 1
      · subst hk1
        simp [List.getD] at h
        simp [h]
      · have := ih (k - 1) (by omega) (by simp at hk ⊢; omega) (by
          obtain ⟨j, rfl⟩ : ∃ j, k = j + 2 := ⟨k - 2, by omega⟩
          simpa [List.getD] using h)
        simp [this]

theorem isR_true (ps : List Pc) (h : ∀ k, 1 ≤ k → k < ps.length → (ps.getD (k - 1) (0, 0)).2 = (ps.getD k (0, 0)).1) : isR ps = true := by
  induction ps with
  | nil => rfl
  | cons p ps ih =>
    cases ps with
    | nil => rfl
    | cons q r =>
      rw [isR]
      have h0 := h 1 (Nat.le_refl _) (by simp)
      simp [List.getD] at h0
      have := ih (fun k hk1 hk => by
        have := h (k + 1) (by omega) (by simp at hk ⊢; omega)
        obtain ⟨j, rfl⟩ : ∃ j, k = j + 1 := ⟨k - 1, by omega⟩
        simpa [List.getD] using this)
      simp [h0, this]

end Go.Proofs.Ytjcglpnpdalcjaa
