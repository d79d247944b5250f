/-
  Lists of lists, as they are grown and read; blocks O hold all of them. No conditions beyond those that each theorem bears.
-/
import Derived.Test.YtnbaangnpoblfaaDoorNu
namespace Go.Proofs.YtnbaangnpoblfaaDoor
open Go.RowKit Go.Shelf

/-- A row of numbers, its block among O. -/
structure Ir (O : Nat → Prop) (w : World) (a : Option Addr) (n c : Nat) (zs : List Int) : Prop where
  rd : Rd w a n c zs
  ty : ∀ b off, a = some ⟨b, off, none⟩ → O b ∧ ∃ cur, w.heap[b]? = some (.cells cur 3 (0, 0))
  spot : ∀ x, a = some x → x.spot = none

theorem Ir.keeps {O X : Nat → Prop} {w w' : World} {a n c zs} (h : Ir O w a n c zs) (hk : Keeps X w w') (hX : ∀ k, O k → ¬ X k) : Ir O w' a n c zs := by
  refine ⟨h.rd.keeps hk (fun b off e => hX b (h.ty b off e).1), fun b off e => ?_, h.spot⟩
  obtain ⟨h1, cur, h2⟩ := h.ty b off e
  exact ⟨h1, cur, (hk.block b (Array.getElem?_eq_some_iff.1 h2).1 (hX b h1)).trans h2⟩

theorem Ir.wide {O O' : Nat → Prop} {w : World} {a n c zs} (h : Ir O w a n c zs) (ho : ∀ k, k < w.heap.size → O k → O' k) : Ir O' w a n c zs :=
  ⟨h.rd, fun b off e => ⟨ho b (Array.getElem?_eq_some_iff.1 (h.ty b off e).2.choose_spec).1 (h.ty b off e).1, (h.ty b off e).2⟩, h.spot⟩

/-- What is owned. -/
theorem Ir.of_own {O : Nat → Prop} {w : World} {base n : Nat} {a : Option Addr} {c : Nat} {zs : List Int} (h : w.ownsRow base 3 1 (.slice a n c) n (zs.map (Value.int .i64))) (hO : ∀ k, base ≤ k → k < w.heap.size → O k) : Ir O w a n c zs := by
  refine ⟨Rd.of_own h, fun b off e => ?_, fun x e => ?_⟩
  · rcases h.2 with ⟨hv, _⟩ | ⟨g, cap, cur, hv, hb, hg, _⟩
    · simp only [Value.slice.injEq] at hv; rw [hv.1] at e; cases e
    · simp only [Value.slice.injEq] at hv
      rw [hv.1, Option.some.injEq, Addr.mk.injEq] at e
      obtain ⟨rfl, _⟩ := e
      exact ⟨hO _ hb (Array.getElem?_eq_some_iff.1 hg).1, cur, hg⟩
  · rcases h.2 with ⟨hv, _⟩ | ⟨g, cap, cur, hv, hb, hg, _⟩
    · simp only [Value.slice.injEq] at hv; rw [hv.1] at e; cases e
    · simp only [Value.slice.injEq] at hv
      rw [hv.1, Option.some.injEq] at e
      rw [← e]

/-- Values that are such rows. -/
def FlV (O : Nat → Prop) (W : World) (vs : List Value) (L : List (List Int)) : Prop :=
  ∀ j, j < L.length → ∃ a c, vs[j]? = some (.slice a (L.getD j []).length c) ∧ Ir O W a (L.getD j []).length c (L.getD j [])

/-- A list of lists that can be read. -/
structure Fr (O : Nat → Prop) (w : World) (a : Option Addr) (n c : Nat) (L : List (List Int)) : Prop where
  len : L.length = n
  cap : n ≤ c
  max : c ≤ maxLen
  nil : a = none → c = 0
  cells : 0 < n → ∃ b off, a = some ⟨b, off, none⟩ ∧ ∀ i, i < n → ∃ a' c', w.cell? ⟨b, off + i, none⟩ = some (.slice a' (L.getD i []).length c') ∧ Ir O w a' (L.getD i []).length c' (L.getD i [])

/-- A list of lists of the call's own. -/
def Fl (O : Nat → Prop) (base : Nat) (w : World) (v : Value) (L : List (List Int)) : Prop :=
  ∃ vs : List Value, w.ownsRow base 22 1 v L.length vs ∧ FlV O w vs L ∧ ∀ g, v.ownBlock = some g → O g

theorem Fl.nil (O : Nat → Prop) (base : Nat) (w : World) : Fl O base w (.slice none 0 0) [] := ⟨[], World.ownsRow_nil _ _ _ _, fun j hj => by simp at hj, fun g e => by cases e⟩

theorem FlV.keeps {O X : Nat → Prop} {w w' : World} {vs : List Value} {L : List (List Int)} (h : FlV O w vs L) (hk : Keeps X w w') (hX : ∀ k, O k → ¬ X k) : FlV O w' vs L := fun j hj => by
  obtain ⟨a, c, h1, h2⟩ := h j hj
  exact ⟨a, c, h1, h2.keeps hk hX⟩
theorem FlV.wide {O O' : Nat → Prop} {w : World} {vs : List Value} {L : List (List Int)} (h : FlV O w vs L) (ho : ∀ k, k < w.heap.size → O k → O' k) : FlV O' w vs L := fun j hj => by
  obtain ⟨a, c, h1, h2⟩ := h j hj
  exact ⟨a, c, h1, h2.wide ho⟩

theorem Fl.keeps {O X : Nat → Prop} {base : Nat} {w w' : World} {v : Value} {L : List (List Int)} (h : Fl O base w v L) (hk : Keeps X w w') (hX : ∀ k, O k → ¬ X k) : Fl O base w' v L := by
  obtain ⟨vs, h1, h2, h3⟩ := h
  exact ⟨vs, own_blk h1 (fun g hg => hk.block g (h1.lt g hg).2 (hX g (h3 g hg))), h2.keeps hk hX, h3⟩
theorem Fl.wide {O O' : Nat → Prop} {base : Nat} {w : World} {v : Value} {L : List (List Int)} (h : Fl O base w v L) (ho : ∀ k, k < w.heap.size → O k → O' k) : Fl O' base w v L := by
  obtain ⟨vs, h1, h2, h3⟩ := h
  exact ⟨vs, h1, h2.wide ho, fun g hg => ho g (h1.lt g hg).2 (h3 g hg)⟩
theorem Fl.mono {O : Nat → Prop} {base : Nat} {w w' : World} {v : Value} {L : List (List Int)} (h : Fl O base w v L) (hb : Below w.heap.size w w') : Fl O base w' v L := h.keeps (X := fun _ => False) (Keeps.of_all hb) (fun _ _ e => e)
theorem Fl.base {O : Nat → Prop} {base base' : Nat} {w : World} {v : Value} {L : List (List Int)} (h : Fl O base w v L) (hb : base' ≤ base) : Fl O base' w v L := by
  obtain ⟨vs, h1, h2, h3⟩ := h
  exact ⟨vs, own_base h1 hb, h2, h3⟩
theorem Fl.form {O : Nat → Prop} {base : Nat} {w : World} {v : Value} {L : List (List Int)} (h : Fl O base w v L) : ∃ a c, v = .slice a L.length c := by
  obtain ⟨vs, h1, _, _⟩ := h
  exact slice_form h1

theorem Fl.fr {O : Nat → Prop} {base : Nat} {w : World} {a : Option Addr} {n c : Nat} {L : List (List Int)} (h : Fl O base w (.slice a n c) L) : Fr O w a n c L := by
  obtain ⟨vs, h1, h2, h3⟩ := h
  rcases h1.2 with ⟨hv, h0⟩ | ⟨g, cap, cur, hv, hb, hg, hnc, hcm, hcs, ht⟩
  · simp only [Value.slice.injEq] at hv
    obtain ⟨rfl, rfl, rfl⟩ := hv
    exact ⟨h0, Nat.le_refl _, Nat.zero_le _, fun _ => rfl, fun h => absurd h (by omega)⟩
  · simp only [Value.slice.injEq] at hv
    obtain ⟨rfl, rfl, rfl⟩ := hv
    refine ⟨rfl, hnc, hcm, (fun h => by cases h), fun _ => ⟨g, 0, rfl, fun i hi => ?_⟩⟩
    obtain ⟨a', c', k1, k2⟩ := h2 i hi
    refine ⟨a', c', ?_, k2⟩
    rw [Nat.zero_add, h1.cellAt i (by omega)]
    exact k1

theorem Fr.keeps {O X : Nat → Prop} {w w' : World} {a n c L} (h : Fr O w a n c L) (hk : Keeps X w w') (hX : ∀ k, O k → ¬ X k) (hb : ∀ b off, a = some ⟨b, off, none⟩ → ¬ X b) : Fr O w' a n c L := by
  refine ⟨h.len, h.cap, h.max, h.nil, fun hn => ?_⟩
  obtain ⟨b, off, e, hc⟩ := h.cells hn
  refine ⟨b, off, e, fun i hi => ?_⟩
  obtain ⟨a', c', k1, k2⟩ := hc i hi
  exact ⟨a', c', hk.cell k1 (hb b off e), k2.keeps hk hX⟩
theorem Fr.mono {O : Nat → Prop} {w w' : World} {a n c L} (h : Fr O w a n c L) (hb : Below w.heap.size w w') : Fr O w' a n c L := h.keeps (X := fun _ => False) (Keeps.of_all hb) (fun _ _ e => e) (fun _ _ _ e => e)
theorem Fr.nil' (O : Nat → Prop) (w : World) : Fr O w none 0 0 [] := ⟨rfl, Nat.le_refl _, Nat.zero_le _, fun _ => rfl, fun h => absurd h (by omega)⟩

theorem getD_drop (L : List (List Int)) (k i : Nat) : (L.drop k).getD i [] = L.getD (k + i) [] := by simp [List.getD]
theorem getD_take {L : List (List Int)} {k i : Nat} (h : i < k) : (L.take k).getD i [] = L.getD i [] := by simp [List.getD, h]

/-- 'l[k:]'. -/
theorem Fr.from {O : Nat → Prop} {w : World} {a : Option Addr} {n c : Nat} {L : List (List Int)} (h : Fr O w a n c L) {k : Nat} (hk : k ≤ n) : Fr O w (if c = k then a else Option.map (fun x => x.add k) a) (n - k) (c - k) (L.drop k) := by
  have hcap := h.cap
  have hmax := h.max
  refine ⟨by simp [h.len], by omega, by omega, fun hn => ?_, fun hn => ?_⟩
  · by_cases hck : c = k
    · omega
    · rw [if_neg hck] at hn
      have := h.nil (by simpa using hn)
      omega
  · obtain ⟨b, off, rfl, hc⟩ := h.cells (by omega)
    refine ⟨b, off + k, ?_, fun i hi => ?_⟩
    · rw [if_neg (by omega)]; simp [Addr.add_lit]
    · obtain ⟨a', c', k1, k2⟩ := hc (k + i) (by omega)
      rw [getD_drop]
      exact ⟨a', c', by rw [Nat.add_assoc]; exact k1, k2⟩

/-- 'l[:k]'. -/
theorem Fr.upto {O : Nat → Prop} {w : World} {a : Option Addr} {n c : Nat} {L : List (List Int)} (h : Fr O w a n c L) {k : Nat} (hk : k ≤ n) : Fr O w a k c (L.take k) := by
  have hcap := h.cap
  have hlen := h.len
  refine ⟨by simp; omega, by omega, h.max, h.nil, fun hn => ?_⟩
  obtain ⟨b, off, rfl, hc⟩ := h.cells (by omega)
  refine ⟨b, off, rfl, fun i hi => ?_⟩
  rw [getD_take hi]
  exact hc i (by omega)

/-- A row of one. -/
theorem Fr.one {O : Nat → Prop} {w : World} {g : Nat} {a : Option Addr} {c : Nat} {zs : List Int} (hc : w.cell? ⟨g, 0, none⟩ = some (.slice a zs.length c)) (hI : Ir O w a zs.length c zs) : Fr O w (some ⟨g, 0, none⟩) 1 1 [zs] := by
  refine ⟨rfl, Nat.le_refl _, by unfold maxLen; omega, (fun e => by cases e), fun _ => ⟨g, 0, rfl, fun i hi => ?_⟩⟩
  obtain rfl : i = 0 := by omega
  exact ⟨a, c, hc, hI⟩

theorem Fr.vals {O : Nat → Prop} {w : World} {ad : Addr} {n c : Nat} {L : List (List Int)} (h : Fr O w (some ad) n c L) : ∃ us : List Value, us.length = n ∧ FlV O w us L ∧ (∀ j u, us[j]? = some u → w.cell? (ad.add j) = some u) ∧ ∀ u ∈ us, u.oneCell' = true := by
  by_cases hn : 0 < n
  · obtain ⟨b, off, e, hc⟩ := h.cells hn
    obtain rfl := Option.some.inj e
    refine ⟨(List.range n).map fun i => (w.cell? ⟨b, off + i, none⟩).getD undef, by simp, fun j hj => ?_, fun j u hu => ?_, fun u hu => ?_⟩
    · rw [h.len] at hj
      obtain ⟨a', c', k1, k2⟩ := hc j hj
      refine ⟨a', c', ?_, k2⟩
      rw [List.getElem?_map, List.getElem?_range hj, Option.map_some, k1]; rfl
    · have hj : j < n := by have := (List.getElem?_eq_some_iff.1 hu).1; simpa using this
      rw [List.getElem?_map, List.getElem?_range hj, Option.map_some, Option.some.injEq] at hu
      obtain ⟨a', c', k1, k2⟩ := hc j hj
      rw [Addr.add_lit, ← hu, k1]; rfl
    · obtain ⟨i, hi, rfl⟩ := List.mem_map.1 hu
      obtain ⟨a', c', k1, k2⟩ := hc i (List.mem_range.1 hi)
      rw [k1]; rfl
  · obtain rfl : n = 0 := by omega
    have hL : L = [] := List.eq_nil_of_length_eq_zero h.len
    exact ⟨[], rfl, fun j hj => by rw [hL] at hj; simp at hj, fun j u hu => by simp at hu, fun u hu => by cases hu⟩

theorem own_ty {w : World} {base n b : Nat} {v : Value} {xs : List Value} {cur : Array Value} (h : w.ownsRow base 22 1 v n xs) (hb : w.heap[b]? = some (.cells cur 3 (0, 0))) : some b ≠ v.ownBlock := by
  intro e
  rcases h.2 with ⟨rfl, _⟩ | ⟨g, cap, cur', rfl, _, hg, _⟩
  · simp [Value.ownBlock] at e
  · simp only [Value.ownBlock, Option.some.injEq] at e
    subst e
    rw [hb] at hg
    simp at hg

theorem Ir.grown {O : Nat → Prop} {w w' : World} {base n m : Nat} {v : Value} {xs : List Value} {a : Option Addr} {c : Nat} {zs : List Int} (h : Ir O w a m c zs) (ho : w.ownsRow base 22 1 v n xs) (hG : w.grownBy w' v.ownBlock) : Ir O w' a m c zs := by
  have hk : Keeps (fun k => v.ownBlock = some k) w w' := keeps_grown hG
  refine ⟨h.rd.keeps hk (fun b off e he => ?_), fun b off e => ?_, h.spot⟩
  · obtain ⟨_, cur, h2⟩ := h.ty b off e
    exact own_ty ho h2 he.symm
  · obtain ⟨h1, cur, h2⟩ := h.ty b off e
    exact ⟨h1, cur, (hk.block b (Array.getElem?_eq_some_iff.1 h2).1 (fun he => own_ty ho h2 he.symm)).trans h2⟩

theorem getD_app_left {L M : List (List Int)} {j : Nat} (h : j < L.length) : (L ++ M).getD j [] = L.getD j [] := by simp [List.getD, List.getElem?_append_left h]
theorem getD_app_right {L M : List (List Int)} {j : Nat} (h : L.length ≤ j) : (L ++ M).getD j [] = M.getD (j - L.length) [] := by simp [List.getD, List.getElem?_append_right h]

theorem Tryd.info22 : (Tryd.prog.info? 22).map (fun i => (i.zero, i.size, i.bytes)) = some (some (.slice none 0 0), 1, 24) := by kernel_rfl

theorem append_place (w : World) (base : Nat) (v : Value) (n : Nat) (vs : List Value) (hown : w.ownsRow base 22 1 v n vs) (ad : Addr) (us : List Value) (m c ty : Nat) (hl0 : us.length = m) (hnews : ∀ j u, us[j]? = some u → w.cell? (ad.add j) = some u) (hone : ∀ u ∈ us, u.oneCell' = true) (hn : n + m ≤ 1000000000) (hm : 0 < m) (v' : Value) (w' : World)
    (hr : (Builtin.append_ #[27, 27] ty #[v, .slice (some ad) m c]).run Tryd.prog w = .ok v' w') : v'.ownBlock = v.ownBlock ∨ v'.ownBlock = some w.heap.size := by
  obtain ⟨i0, hi, hz0, hz1, hz2⟩ := info_parts Tryd.info22
  have hl : us.length = m * i0.size := by rw [hz1]; omega
  rcases hown.2 with ⟨rfl, rfl⟩ | ⟨g, cap, cur, rfl, hbg, hg, hnc, hcm, hcs, htake⟩
  · right
    have h1 := run_append_nil (P := Tryd.prog) w 27 ty 22 i0 (.slice none 0 0) Tryd.underlying27 hi hz0 ad m c us hl hnews (by omega) (by omega) (by rw [hz2]; omega)
    rw [h1] at hr
    simp only [Result.ok.injEq] at hr
    rw [← hr.1]
    rfl
  · by_cases hroom : n + m ≤ cap
    · left
      have hfit : n * i0.size + us.length ≤ cur.size := by rw [hl, hcs, hz1]; omega
      have h1 := run_append_room (P := Tryd.prog) w 27 ty 22 i0 Tryd.underlying27 hi g n cap cur hg ad m c us hl hnews hone hroom hfit
      rw [h1] at hr
      simp only [Result.ok.injEq] at hr
      rw [← hr.1]
      rfl
    · right
      have h1 := run_append_grow (P := Tryd.prog) w 27 ty 22 i0 (.slice none 0 0) Tryd.underlying27 hi hz0 ⟨g, 0, none⟩ n cap vs (by rw [hown.1, hz1]) (hown.cells (g := g) rfl) ad m c us hl hnews (by omega) (by omega) (growslice_fits (by omega) (by rw [hz2]; omega))
      rw [h1] at hr
      simp only [Result.ok.injEq] at hr
      rw [← hr.1]
      rfl

/-- 'append(s, x...)', s the call's own. -/
theorem wp_append_fr {o : Oper} {a : Act} {K : Act → World → Prop} {Q : Exit → Act → World → Prop} (w : World) (s x : Operand)
    (ho : o.op = .call { callee := .builtin .append, args := #[s, x], argTypes := #[27, 27] }) {O : Nat → Prop} (base : Nat) (v : Value) (L : List (List Int)) (hs : a.eval s = v) (hF : Fl O base w v L)
    (ao : Option Addr) (m c : Nat) (M : List (List Int)) (hx : a.eval x = .slice ao m c) (hR : Fr O w ao m c M) (hlen : L.length + m ≤ 1000000000) (hbase : base ≤ w.heap.size)
    (h : ∀ v' w', (∀ O', (∀ k, k < w.heap.size → O k → O' k) → (∀ k, w.heap.size ≤ k → k < w'.heap.size → O' k) → Fl O' base w' v' (L ++ M)) → (∃ a' c', v' = .slice a' (L.length + m) c') → w.grownBy w' v.ownBlock → K (a.put o.dst v') w') : o.wp Tryd.prog a w K Q := by
  obtain ⟨i0, hi, hz0, hz1, hz2⟩ := info_parts Tryd.info22
  obtain ⟨vs, h1, h2, h3⟩ := hF
  cases ao with
  | none =>
    obtain rfl := hR.nil rfl
    obtain rfl : m = 0 := by have := hR.cap; omega
    have hM : M = [] := List.eq_nil_of_length_eq_zero hR.len
    subst hM
    have hrun := run_append_owned_none (P := Tryd.prog) (w := w) base 27 o.type 22 i0 1 Tryd.underlying27 hi v L.length _ h1
    unfold Oper.wp
    simp [execOp, ho, resolve, invoke, builtin, hs, hx, hrun, Result.andThen]
    exact h v w (fun O' hO' _ => by simpa using (Fl.wide ⟨vs, h1, h2, h3⟩ hO')) (by simpa using slice_form h1) (World.grownBy.refl _ _)
  | some ad =>
    obtain ⟨us, u1, u2, u3, u4⟩ := hR.vals
    obtain ⟨v', w', hr, ho', hg, hnn⟩ := run_append_own (P := Tryd.prog) w base 27 o.type 22 i0 (.slice none 0 0) 1 24 Tryd.underlying27 hi hz0 hz1 hz2 rfl (by decide) v L.length vs h1 ad m c us (by omega) u3 u4 (by unfold maxLen; omega) (by omega) hbase
    have hpl : ∀ g, v'.ownBlock = some g → v.ownBlock = some g ∨ w.heap.size ≤ g := by
      intro g hg2
      by_cases hm : 0 < m
      · rcases append_place w base v L.length vs h1 ad us m c o.type (by omega) u3 u4 (by omega) hm v' w' hr with e | e
        · exact Or.inl (e ▸ hg2)
        · rw [hg2, Option.some.injEq] at e; exact Or.inr (by omega)
      · obtain rfl : m = 0 := by omega
        have hus : us = [] := List.eq_nil_of_length_eq_zero u1
        subst hus
        by_cases hv : v = .slice none 0 0
        · rw [hnn.2 ⟨hv, rfl⟩] at hg2; cases hg2
        · rcases h1.2 with ⟨hv', _⟩ | ⟨g1, cap, cur, hv', hbg, hg1, hnc, hcm, hcs, htake⟩
          · exact absurd hv' (fun e => hv (by rw [e]))
          · have h2' := run_append_room (P := Tryd.prog) w 27 o.type 22 i0 Tryd.underlying27 hi g1 L.length cap cur hg1 ad 0 c [] (by simp) u3 u4 (by omega) (by rw [hcs, hz1]; simp; omega)
            rw [hv'] at hr
            rw [h2'] at hr
            simp only [Result.ok.injEq] at hr
            left
            rw [hv', ← hg2, ← hr.1]
            rfl
    unfold Oper.wp
    simp [execOp, ho, resolve, invoke, builtin, hs, hx, hr, Result.andThen]
    refine h v' w' (fun O' hO' hN => ?_) (slice_form ho') hg
    have hl : vs.length = L.length := by have := h1.1; omega
    refine ⟨vs ++ us, by rw [List.length_append, hR.len]; exact ho', fun j hj => ?_, fun g hg2 => ?_⟩
    · rw [List.length_append] at hj
      by_cases hj' : j < L.length
      · obtain ⟨a', c', e1, e2⟩ := h2 j hj'
        rw [getD_app_left hj']
        exact ⟨a', c', by rw [List.getElem?_append_left (by omega)]; exact e1, (e2.wide hO').grown h1 hg⟩
      · obtain ⟨a', c', e1, e2⟩ := u2 (j - L.length) (by omega)
        rw [getD_app_right (by omega)]
        exact ⟨a', c', by rw [List.getElem?_append_right (by omega), hl]; exact e1, (e2.wide hO').grown h1 hg⟩
    · rcases hpl g hg2 with e | e
      · exact hO' g (h1.lt g e).2 (h3 g e)
      · exact hN g e (ho'.lt g hg2).2

theorem wpList_append_fr {ops : Array Oper} {rest : List Oper} {o : Oper} {a : Act} {Q : Exit → Act → World → Prop} (w : World) (hgd : o.guard = none) (s x : Operand)
    (ho : o.op = .call { callee := .builtin .append, args := #[s, x], argTypes := #[27, 27] }) {O : Nat → Prop} (base : Nat) (v : Value) (L : List (List Int)) (hs : a.eval s = v) (hF : Fl O base w v L)
    (ao : Option Addr) (m c : Nat) (M : List (List Int)) (hx : a.eval x = .slice ao m c) (hR : Fr O w ao m c M) (hlen : L.length + m ≤ 1000000000) (hbase : base ≤ w.heap.size)
    (h : ∀ v' w', (∀ O', (∀ k, k < w.heap.size → O k → O' k) → (∀ k, w.heap.size ≤ k → k < w'.heap.size → O' k) → Fl O' base w' v' (L ++ M)) → (∃ a' c', v' = .slice a' (L.length + m) c') → w.grownBy w' v.ownBlock → wpList Tryd.prog ops Q rest (a.put o.dst v') w') : wpList Tryd.prog ops Q (o :: rest) a w :=
  wpList_plain hgd fun _ hK => wp_append_fr w s x ho base v L hs hF ao m c M hx hR hlen hbase fun v' w' h1 h2 h3 => hK _ _ (h v' w' h1 h2 h3)

end Go.Proofs.YtnbaangnpoblfaaDoor
