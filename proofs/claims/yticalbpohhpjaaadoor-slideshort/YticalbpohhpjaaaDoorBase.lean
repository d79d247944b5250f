/-
  What a slice of ints reads as; a slice copied by 'append([]int(nil), l...)' reads the same, in new memory; two slices compared. No conditions beyond those that each theorem bears.
-/
import Derived.Test.YticalbpohhpjaaaDoorRows
import Derived.WalkKit
import Derived.WalkSpells
import Derived.WalkLawsBesides
import Derived.Laws.AppendOwnNone
import Derived.Deep.QuietTactic
import Derived.BigQuiet
namespace Go.Proofs.YticalbpohhpjaaaDoor
open Go.RowKit

theorem Tryd.info3 : (Tryd.prog.info? 3).map (fun i => (i.zero, i.size, i.bytes)) = some (some (.int .i64 0), 1, 8) := by kernel_rfl

theorem hide {p : Prop} (h : p) : Hid p := h

/-- A slice of ints, of length n and capacity c, reads zs. -/
structure Rd (w : World) (a : Option Addr) (n c : Nat) (zs : List Int) : Prop where
  len : zs.length = n
  cap : n ≤ c
  max : c ≤ maxLen
  nil : a = none → c = 0
  cells : 0 < n → ∃ b off, a = some ⟨b, off, none⟩ ∧ ∀ i, i < n → w.cell? ⟨b, off + i, none⟩ = some (.int .i64 (zs.getD i 0))

theorem Rd.of_nil (w : World) : Rd w none 0 0 [] := ⟨rfl, Nat.le_refl _, Nat.zero_le _, fun _ => rfl, fun h => absurd h (by omega)⟩

theorem Rd.mono {w w' : World} {a n c zs} (h : Rd w a n c zs) (hb : Below w.heap.size w w') : Rd w' a n c zs := by
  refine ⟨h.len, h.cap, h.max, h.nil, fun hn => ?_⟩
  obtain ⟨b, off, rfl, hc⟩ := h.cells hn
  refine ⟨b, off, rfl, fun i hi => ?_⟩
  rw [hb.cell (World.block_lt_of_cell? w _ (hc i hi))]
  exact hc i hi

/-- What the call owns reads so. -/
theorem Rd.of_own {w : World} {base : Nat} {a : Option Addr} {n c : Nat} {zs : List Int} (h : w.ownsRow base 3 1 (.slice a n c) n (zs.map (Value.int .i64))) : Rd w a n c zs := by
  have hl : zs.length = n := by simpa using h.1
  rcases h.2 with ⟨hv, h0⟩ | ⟨g, cap, cur, hv, hb, hg, hnc, hcm, hcs, ht⟩
  · simp only [Value.slice.injEq] at hv
    obtain ⟨rfl, rfl, rfl⟩ := hv
    exact ⟨hl, Nat.le_refl _, Nat.zero_le _, fun _ => rfl, fun h => absurd h (by omega)⟩
  · simp only [Value.slice.injEq] at hv
    obtain ⟨rfl, -, rfl⟩ := hv
    refine ⟨hl, hnc, hcm, (fun h => by simp at h), fun _ => ⟨g, 0, rfl, fun i hi => ?_⟩⟩
    rw [Nat.zero_add, h.cellAt i (by omega)]
    simp [List.getD, hl, hi]

/-- The cells of a slice that reads so, as the laws on append ask for them. -/
theorem Rd.news {w : World} {ad : Addr} {n c : Nat} {zs : List Int} (h : Rd w (some ad) n c zs) : ∀ j u, (zs.map (Value.int .i64))[j]? = some u → w.cell? (ad.add j) = some u := by
  intro j u hu
  have hj : j < n := by have := (List.getElem?_eq_some_iff.1 hu).1; simpa [h.len] using this
  obtain ⟨b, off, he, hc⟩ := h.cells (by omega)
  obtain rfl := Option.some.inj he
  rw [Addr.add_lit, hc j hj]
  have hz : j < zs.length := by rw [h.len]; exact hj
  simpa [List.getD, hz] using hu

/-- 'append(s, x...)', s the call's own, x whatever slice of ints can be read: as an operation. -/
theorem wp_append_rd {o : Oper} {a : Act} {K : Act → World → Prop} {Q : Exit → Act → World → Prop} (w : World) (s x : Operand)
    (ho : o.op = .call { callee := .builtin .append, args := #[s, x], argTypes := #[22, 22] }) (base : Nat) (v : Value) (n : Nat) (xs : List Int) (hs : a.eval s = v) (hown : w.ownsRow base 3 1 v n (xs.map (Value.int .i64)))
    (ao : Option Addr) (m c : Nat) (ys : List Int) (hx : a.eval x = .slice ao m c) (hR : Rd w ao m c ys) (hbytes : (n + m) * 8 ≤ 140737488355328) (hbase : base ≤ w.heap.size)
    (h : ∀ v' w', w'.ownsRow base 3 1 v' (n + m) ((xs ++ ys).map (Value.int .i64)) → w.grownBy w' v.ownBlock → K (a.put o.dst v') w') : o.wp Tryd.prog a w K Q := by
  obtain ⟨i0, hi, hz0, hz1, hz2⟩ := info_parts Tryd.info3
  cases ao with
  | none =>
    obtain rfl := hR.nil rfl
    obtain rfl : m = 0 := by have := hR.cap; omega
    have hy : ys = [] := List.eq_nil_of_length_eq_zero hR.len
    subst hy
    have hrun := run_append_owned_none (P := Tryd.prog) (w := w) base 22 o.type 3 i0 1 Tryd.underlying22 hi v n _ hown
    unfold Oper.wp
    simp [execOp, ho, resolve, invoke, builtin, hs, hx, hrun, Result.andThen]
    exact h v w (by simpa using hown) (World.grownBy.refl _ _)
  | some ad =>
    refine wp_append_own w s x 22 ho base 3 i0 (.int .i64 0) 1 8 Tryd.underlying22 hi hz0 hz1 hz2 rfl (by decide) v n _ hs hown ad m c (ys.map (Value.int .i64)) hx (by simp [hR.len]) hR.news (ints_oneCell .i64 ys) (by unfold maxLen; omega) hbytes hbase ?_
    intro v' w' h1 h2 _
    exact h v' w' (by rw [List.map_append]; exact h1) h2

theorem wpList_append_rd {ops : Array Oper} {rest : List Oper} {o : Oper} {a : Act} {Q : Exit → Act → World → Prop} (w : World) (hgd : o.guard = none) (s x : Operand)
    (ho : o.op = .call { callee := .builtin .append, args := #[s, x], argTypes := #[22, 22] }) (base : Nat) (v : Value) (n : Nat) (xs : List Int) (hs : a.eval s = v) (hown : w.ownsRow base 3 1 v n (xs.map (Value.int .i64)))
    (ao : Option Addr) (m c : Nat) (ys : List Int) (hx : a.eval x = .slice ao m c) (hR : Rd w ao m c ys) (hbytes : (n + m) * 8 ≤ 140737488355328) (hbase : base ≤ w.heap.size)
    (h : ∀ v' w', w'.ownsRow base 3 1 v' (n + m) ((xs ++ ys).map (Value.int .i64)) → w.grownBy w' v.ownBlock → wpList Tryd.prog ops Q rest (a.put o.dst v') w') : wpList Tryd.prog ops Q (o :: rest) a w :=
  wpList_plain hgd fun _ hK => wp_append_rd w s x ho base v n xs hs hown ao m c ys hx hR hbytes hbase fun v' w' h1 h2 => hK _ _ (h v' w' h1 h2)

/-- 'l[k:]'. -/
theorem Rd.from {w : World} {a : Option Addr} {n c : Nat} {zs : List Int} (h : Rd w a n c zs) {k : Nat} (hk : k ≤ n) : Rd w (if c = k then a else Option.map (fun x => x.add k) a) (n - k) (c - k) (zs.drop k) := by
  have hcap := h.cap
  have hmax := h.max
  refine ⟨by simp [h.len], by omega, by omega, fun hn => ?_, fun hn => ?_⟩
  · by_cases hck : c = k
    · omega
    · rw [if_neg hck] at hn
      have := h.nil (by simpa using hn)
      omega
  · obtain ⟨b, off, rfl, hc⟩ := h.cells (by omega)
    refine ⟨b, off + k, ?_, fun i hi => ?_⟩
    · rw [if_neg (by omega)]; simp [Addr.add_lit]
    · rw [Nat.add_assoc, hc (k + i) (by omega)]
      simp [List.getD]

/-- 'l[:k]'. -/
theorem Rd.upto {w : World} {a : Option Addr} {n c : Nat} {zs : List Int} (h : Rd w a n c zs) {k : Nat} (hk : k ≤ n) : Rd w a k c (zs.take k) := by
  have hcap := h.cap
  have hlen := h.len
  refine ⟨by simp; omega, by omega, h.max, h.nil, fun hn => ?_⟩
  obtain ⟨b, off, rfl, hc⟩ := h.cells (by omega)
  refine ⟨b, off, rfl, fun i hi => ?_⟩
  rw [hc i (by omega)]
  simp [List.getD, hi]

set_option maxHeartbeats 400000 in
theorem ints_own (a : Option Addr) (n c : Nat) (zs : List Int) (w : World) (h : Rd w a n c zs) (hr : n * 8 ≤ 140737488351232) :
    Calls Tryd.prog 28 #[.slice a n c] w fun e w' => ∃ a' c', e = .returned (.slice a' n c') ∧ w'.ownsRow w.heap.size 3 1 (.slice a' n c') n (zs.map (Value.int .i64)) ∧ Below w.heap.size w w' := by
  obtain ⟨i0, hi, hz0, hz1, hz2⟩ := info_parts Tryd.info3
  cases a with
  | none =>
    obtain rfl := h.nil rfl
    obtain rfl : n = 0 := by have := h.cap; omega
    go_enter Tryd.func28, Tryd.ntmps28
    go_wp2_with (at_builtin; refine wpList_append_own_none rfl _ _ 22 rfl w.heap.size 3 i0 1 Tryd.underlying22 hi _ 0 [] rfl (World.ownsRow_nil _ _ _ _) rfl ?_)
    go_ret
    have hz : zs = [] := List.eq_nil_of_length_eq_zero h.len
    subst hz
    exact ⟨_, _, rfl, World.ownsRow_nil _ _ _ _, Below.refl _ _⟩
  | some ad =>
    have hcell : ∀ j u, (zs.map (Value.int .i64))[j]? = some u → w.cell? (ad.add j) = some u := by
      intro j u hu
      have hj : j < n := by have := (List.getElem?_eq_some_iff.1 hu).1; simpa [h.len] using this
      obtain ⟨b, off, he, hc⟩ := h.cells (by omega)
      obtain rfl := Option.some.inj he
      rw [Addr.add_lit, hc j hj]
      have hz : j < zs.length := by rw [h.len]; exact hj
      simpa [List.getD, hz] using hu
    have hl : (zs.map (Value.int .i64)).length = n * 1 := by simp [h.len]
    have hone := ints_oneCell .i64 zs
    have hmax : 0 + n ≤ maxLen := by have := h.cap; have := h.max; omega
    have hle : Hid (zs.length = n) := h.len
    go_enter Tryd.func28, Tryd.ntmps28
    go_wp2_with (at_builtin; refine wpList_append_own _ rfl _ _ 22 rfl w.heap.size 3 i0 (.int .i64 0) 1 8 Tryd.underlying22 hi hz0 hz1 hz2 rfl (by decide) _ 0 [] rfl (World.ownsRow_nil _ _ _ _) ad n c (zs.map (Value.int .i64)) rfl hl hcell hone hmax (by omega) (Nat.le_refl _) ?_)
    intro v' w1 hown hgrow _
    have hex : ∃ a' c', v' = .slice a' n c' := by
      rcases hown.2 with ⟨hv, h0⟩ | ⟨g, cap, cur, hv, _⟩
      · exact ⟨none, 0, by rw [hv]; simp; omega⟩
      · exact ⟨_, _, hv⟩
    obtain ⟨a', c', rfl⟩ := hex
    have B : Below w.heap.size w w1 := (Below.refl _ _).grown hgrow (Nat.le_refl _) (fun k hk => by simp [Value.ownBlock] at hk)
    clear hgrow
    have HO := hide hown
    clear hown
    go_wp2
    go_ret
    exact ⟨_, _, rfl, HO.out, B⟩

theorem ints_any (a : Option Addr) (n c : Nat) (zs : List Int) (w : World) (h : Rd w a n c zs) (hr : n * 8 ≤ 140737488351232) :
    Calls Tryd.prog 28 #[.slice a n c] w fun e w' => ∃ a' c', e = .returned (.slice a' n c') ∧ Rd w' a' n c' zs ∧ Below w.heap.size w w' :=
  (ints_own a n c zs w h hr).mono fun _ _ ⟨a', c', he, ho, hb⟩ => ⟨a', c', he, Rd.of_own ho, hb⟩


/-- The cell of an element. -/
theorem Rd.cell {w : World} {b off n c : Nat} {spot} {zs : List Int} (h : Rd w (some ⟨b, off, spot⟩) n c zs) {i : Nat} (hi : i < n) :
    spot = none ∧ w.cell? ⟨b, off + i, none⟩ = some (.int .i64 (zs.getD i 0)) := by
  obtain ⟨b', off', he, hc⟩ := h.cells (by omega)
  simp only [Option.some.injEq, Addr.mk.injEq] at he
  obtain ⟨rfl, rfl, rfl⟩ := he
  exact ⟨rfl, hc i hi⟩

/-- A slice that came in. -/
theorem Rd.of_open {w : World} {x : Addr} {n c : Nat} {zs : List Int} (hl : n ≤ c) (hm : c ≤ maxLen) (hz : zs.length = c) (hcell : ∀ i, i < zs.length → w.cell? (x.add i) = some (.int .i64 (zs.getD i 0))) : Rd w (some x) n c (zs.take n) := by
  refine ⟨by simp; omega, hl, hm, (fun h => by simp at h), fun hn => ?_⟩
  obtain ⟨b, off, spot⟩ := x
  have hspot : spot = none := by simpa [Addr.add] using World.cell?_spot (hcell 0 (by omega))
  subst hspot
  refine ⟨b, off, rfl, fun i hi => ?_⟩
  have := hcell i (by omega)
  rw [Addr.add_lit] at this
  rw [this]
  simp [List.getD, hi]

theorem Rd.drew {w : World} {a n c zs} (h : Rd w a n c zs) : Rd w.drew a n c zs := h.mono (Below.refl _ _).drew

theorem ret_bool {a b : Bool} (h : a = b) : Ending.returned (.bool a) = .returned (.bool b) := by rw [h]

theorem take_succ_eq (xs ys : List Int) (k : Nat) (hx : k < xs.length) (hy : k < ys.length) : xs.take (k + 1) = ys.take (k + 1) ↔ xs.take k = ys.take k ∧ xs.getD k 0 = ys.getD k 0 := by
  rw [List.take_succ_eq_append_getElem hx, List.take_succ_eq_append_getElem hy]
  constructor
  · intro h
    have := List.append_inj h (by simp; omega)
    exact ⟨this.1, by simpa [List.getD, hx, hy] using this.2⟩
  · rintro ⟨h1, h2⟩
    rw [h1]
    simp [List.getD, hx, hy] at h2
    rw [h2]

theorem drewN_below (B : Nat) (w : World) (q : Nat) : Below B w (w.drewN q) := by
  induction q with
  | zero => exact Below.refl _ _
  | succ q ih => exact ⟨rfl, rfl, rfl, Nat.le_refl _, fun _ _ => rfl⟩

end Go.Proofs.YticalbpohhpjaaaDoor
