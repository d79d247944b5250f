/-
  Sets of sides: maps whose elements hold nothing. No conditions beyond those that each theorem bears.
-/
import Derived.Test.YtmboikpcbkiepaaKy2
import Derived.Test.YtmboikpcbkiepaaStep
import Derived.Maps.OwnSet
import Derived.Maps.RangeWalk
namespace Go.Proofs.Ytmboikpcbkiepaa
open Go.RowKit Go.Maps Go.WideMaps

/-- A side whose numbers are from 0 to c. -/
structure Gd (c : Int) (s : List Int) : Prop where
  len : s.length = 52
  bd : ∀ i, i < 52 → 0 ≤ s.getD i 0 ∧ s.getD i 0 ≤ c

theorem Gd.mono {c c' : Int} {s : List Int} (h : Gd c s) (hc : c ≤ c') : Gd c' s := ⟨h.len, fun i hi => ⟨(h.bd i hi).1, by have := (h.bd i hi).2; omega⟩⟩

abbrev sv (s : List Int) : Value := .agg (ivs s).toArray

theorem sv_inj {s t : List Int} (h : sv s = sv t) : s = t := ivs_inj (by
  have : (ivs s).toArray = (ivs t).toArray := by simpa using h
  simpa using congrArg Array.toList this)

noncomputable def kof (s : List Int) : Lit := (keyOf Try.prog 54 (sv s)).getD (.bool false)

theorem Gd.key {c : Int} {s : List Int} (h : Gd c s) (hc : c ≤ 1000) : keyOf Try.prog 54 (sv s) = some (kof s) := by
  obtain ⟨kl, hkl⟩ := key_mk s h.len (fun z hz => by
    obtain ⟨i, hi, rfl⟩ := List.getElem_of_mem hz
    have := h.bd i (by rw [← h.len]; exact hi)
    have e : s.getD i 0 = s[i] := by simp [List.getD, hi]
    rw [e] at this
    simp [Lit.wf, IntKind.min, IntKind.max, IntKind.signed, IntKind.bits]
    omega)
  rw [kof, hkl]
  rfl

attribute [local irreducible] kof

theorem kof_inj {c : Int} {s t : List Int} (hs : Gd c s) (ht : Gd c t) (hc : c ≤ 1000) (e : kof s = kof t) : s = t :=
  sv_inj (side_keyed.inj (hs.key hc) (by rw [e]; exact ht.key hc))

/-- Block b is the set of the sides that X tells; at most n were put. -/
structure St (w : World) (b n : Nat) (c : Int) (X : List Int → Prop) : Prop where
  own : ∃ D, w.ownsMap (H := Unit) Try.prog 54 unitElem b n D ∧ ∀ kl, Maps.has D kl = true ↔ ∃ s, X s ∧ kof s = kl
  good : ∀ s, X s → Gd c s

theorem St.lt {w : World} {b n : Nat} {c : Int} {X : List Int → Prop} (h : St w b n c X) : b < w.heap.size := by
  obtain ⟨D, hD, _⟩ := h.own
  exact hD.lt

theorem St.kept {w w' : World} {b n : Nat} {c : Int} {X : List Int → Prop} {Z : Nat → Prop} (h : St w b n c X) (hk : Keeps Z w w') (hb : ¬ Z b) : St w' b n c X := by
  obtain ⟨D, hD, hh⟩ := h.own
  refine ⟨⟨D, ?_, hh⟩, h.good⟩
  have hlt := hD.lt
  obtain ⟨es, clock, hb', F, hs, hD'⟩ := hD
  exact ⟨es, clock, (hk.block b hlt hb).trans hb', F, hs, hD'⟩

theorem St.below {w w' : World} {b n B : Nat} {c : Int} {X : List Int → Prop} (h : St w b n c X) (hk : Below B w w') (hb : b < B) : St w' b n c X :=
  h.kept (Keeps.of_below hk) (by omega)

theorem St.mono {w : World} {b n n' : Nat} {c c' : Int} {X : List Int → Prop} (h : St w b n c X) (hn : n ≤ n') (hc : c ≤ c') : St w b n' c' X := by
  obtain ⟨D, hD, hh⟩ := h.own
  exact ⟨⟨D, hD.mono hn, hh⟩, fun s hs => (h.good s hs).mono hc⟩

theorem St.congr {w : World} {b n : Nat} {c : Int} {X Y : List Int → Prop} (h : St w b n c X) (e : ∀ s, X s ↔ Y s) : St w b n c Y := by
  have : X = Y := funext fun s => propext (e s)
  rw [← this]
  exact h

theorem St.made (w : World) (c : Int) : St (w.alloc (.map #[] 0)) w.heap.size 0 c (fun _ => False) :=
  ⟨⟨_, World.ownsMap_made w _ _ _, fun kl => by simp [Maps.has]⟩, fun _ h => h.elim⟩

theorem keeps_turned {w w' : World} {b : Nat} (h : w.mapTurned w' b) : Keeps (fun k => k = b) w w' := by
  have g := h.grown
  exact ⟨g.os, g.tape, g.output, g.size, fun i hi hx => g.block i hi (fun e => hx (by simpa using e))⟩

/-- 'm[s] = struct{}{}'. -/
theorem St.put {w : World} {b n : Nat} {c : Int} {X : List Int → Prop} {t e : TypeId} (h : St w b n c X) (ht : Try.prog.underlying t = some (.map 54 e)) (hn : n < 1000000000) (hc : c ≤ 1000) {s : List Int} (hs : Gd c s) :
    ∃ w', (Instr.mapUpdate t (.map (some b)) (sv s) (.agg #[])).run Try.prog w = .ok () w' ∧ St w' b (n + 1) c (fun x => X x ∨ x = s) ∧ Keeps (fun k => k = b) w w' := by
  obtain ⟨D, hD, hh⟩ := h.own
  obtain ⟨w', hrun, hD', hT⟩ := hD.store side_keyed ht (by unfold maxLen; omega) (hs.key hc) unitElem_mk
  refine ⟨w', hrun, ⟨⟨_, hD', fun kl => ?_⟩, fun x hx => ?_⟩, keeps_turned hT⟩
  · by_cases e : kl = kof s
    · subst e
      rw [Maps.has_put_same hD.isMap (side_keyed.key (hs.key hc))]
      exact ⟨fun _ => ⟨s, Or.inr rfl, rfl⟩, fun _ => rfl⟩
    · rw [Maps.has_put_other e, hh]
      constructor
      · rintro ⟨x, hx, hk⟩
        exact ⟨x, Or.inl hx, hk⟩
      · rintro ⟨x, hx | rfl, hk⟩
        · exact ⟨x, hx, hk⟩
        · exact absurd hk.symm e
  · rcases hx with hx | rfl
    · exact h.good x hx
    · exact hs

/-- 'len(m)'. -/
theorem St.len {w : World} {b n : Nat} {c : Int} {X : List Int → Prop} {t e : TypeId} (h : St w b n c X) (ht : Try.prog.underlying t = some (.map 54 e)) :
    ∃ k : Nat, k ≤ n ∧ (∀ ty, (Builtin.len_ #[t] ty #[.map (some b)]).run Try.prog w = .ok (.int .i64 k) w) ∧ (k = 0 ↔ ∀ s, ¬ X s) := by
  obtain ⟨D, hD, hh⟩ := h.own
  refine ⟨Maps.size D, hD.size_le, fun ty => hD.len ht ty, ?_⟩
  obtain ⟨es, rfl⟩ := hD.isMap
  rw [Maps.size_eq]
  constructor
  · intro h0 s hs
    have he : es = [] := List.eq_nil_of_length_eq_zero h0
    have := (hh (kof s)).2 ⟨s, hs, rfl⟩
    rw [he] at this
    simp [Maps.has] at this
  · intro hno
    cases es with
    | nil => rfl
    | cons p es =>
      exfalso
      obtain ⟨es', he', -, hkeys⟩ := hD.entries side_keyed
      simp only [DataW.map.injEq] at he'
      subst he'
      have hk := hkeys p (by simp)
      obtain ⟨s, hs, -⟩ := (hh p.1).1 (by simp [Maps.has, WideAt.sameKey_self hk])
      exact hno s hs

/-- A range over a set, under way: L is still to come. -/
structure Rg (w : World) (b r n : Nat) (c : Int) (X L : List Int → Prop) (cnt : Nat) : Prop where
  rng : ∃ D left, w.ranges (H := Unit) Try.prog 54 unitElem b r n D left cnt ∧ (∀ kl, Maps.has D kl = true ↔ ∃ s, X s ∧ kof s = kl) ∧ (∀ s, X s → (left (kof s) = true ↔ L s)) ∧ ∀ kl, left kl = true → Maps.has D kl = true
  sub : ∀ s, L s → X s
  good : ∀ s, X s → Gd c s

theorem Rg.left_eq {w : World} {b r n cnt : Nat} {c : Int} {X L : List Int → Prop} (h : Rg w b r n c X L cnt) : w.rangeLeft b r = cnt := by
  obtain ⟨D, left, hr, _⟩ := h.rng
  exact hr.left_eq

theorem Rg.st {w : World} {b r n cnt : Nat} {c : Int} {X L : List Int → Prop} (h : Rg w b r n c X L cnt) : St w b n c X := by
  obtain ⟨D, left, hr, hh, _⟩ := h.rng
  exact ⟨⟨D, hr.owns, hh⟩, h.good⟩

theorem Rg.lt {w : World} {b r n cnt : Nat} {c : Int} {X L : List Int → Prop} (h : Rg w b r n c X L cnt) : r < w.heap.size ∧ r ≠ b := by
  obtain ⟨D, left, hr, hh, _⟩ := h.rng
  exact ⟨hr.lt, hr.ne⟩

theorem Rg.kept {w w' : World} {b r n cnt : Nat} {c : Int} {X L : List Int → Prop} {Z : Nat → Prop} (h : Rg w b r n c X L cnt) (hk : Keeps Z w w') (hb : ¬ Z b) (hr : ¬ Z r) : Rg w' b r n c X L cnt := by
  obtain ⟨D, left, hg, r2⟩ := h.rng
  refine ⟨⟨D, left, ?_, r2⟩, h.sub, h.good⟩
  have hbl := hg.owns.lt
  have hrl := hg.lt
  obtain ⟨es, clock, since, seen, c0, h1, h2, h3, h4, h5, h6⟩ := hg
  exact ⟨es, clock, since, seen, c0, (hk.block b hbl hb).trans h1, h2, h3, h4, (hk.block r hrl hr).trans h5, h6⟩

theorem keeps_grown {w w' : World} {row : Option Nat} (h : w.grownBy w' row) : Keeps (fun k => row = some k) w w' :=
  ⟨h.os, h.tape, h.output, h.size, fun i hi hx => h.block i hi (fun e => hx e.symm)⟩

section
variable {ops : Array Oper} {rest : List Oper} {o : Oper} {a : Act} {Q : Exit → Act → World → Prop}

/-- 'range m'. -/
theorem wpList_range_st {w : World} (hg : o.guard = none) (m : Operand) (t e : TypeId) (hop : o.op = Op.range t m) (ht : Try.prog.underlying t = some (.map 54 e)) (b n : Nat) (c : Int) (X : List Int → Prop)
    (hm : a.eval m = .map (some b)) (hS : St w b n c X)
    (hK : ∀ w' cnt, cnt ≤ n → Rg w' b w.heap.size n c X X cnt → Below w.heap.size w w' → wpList Try.prog ops Q rest (a.put o.dst (.pointer (some ⟨w.heap.size, 0, none⟩))) w') :
    wpList Try.prog ops Q (o :: rest) a w := by
  obtain ⟨D, hD, hh⟩ := hS.own
  refine wpList_range_own (H := Unit) w hg m t hop 54 e side_keyed ht unitElem b n D hm hD ?_
  intro w' hr hgr _
  refine hK w' _ hD.size_le ⟨⟨D, _, hr, hh, fun s hs => ?_, fun kl h => h⟩, fun s h => h, hS.good⟩ ?_
  · rw [hh]
    exact ⟨fun ⟨x, hx, hk⟩ => hs, fun _ => ⟨s, hs, rfl⟩⟩
  · exact ⟨hgr.os, hgr.tape, hgr.output, hgr.size, fun i hi => hgr.block i hi (by simp)⟩

/-- The next one. -/
theorem wpList_next_st {w : World} (hg : o.guard = none) (it : Operand) (hop : o.op = Op.next it false) (b r n : Nat) (c : Int) (hc : c ≤ 1000) (X L : List Int → Prop) (cnt : Nat)
    (hit : a.eval it = .pointer (some ⟨r, 0, none⟩)) (h : Rg w b r n c X L cnt)
    (hDone : (∀ s, ¬ L s) → wpList Try.prog ops Q rest (a.put o.dst (.tuple #[.bool false])) w)
    (hMore : ∀ (s : List Int) (w' : World) (cnt' : Nat), L s → Gd c s → Rg w' b r n c X (fun x => L x ∧ x ≠ s) cnt' → cnt' < cnt → Keeps (fun k => k = r) w w' → w'.heap.size = w.heap.size →
      (Instr.entry (.pointer (some ⟨r, 0, none⟩))).run Try.prog w' = .ok (.tuple #[sv s, .agg #[]]) w' → wpList Try.prog ops Q rest (a.put o.dst (.tuple #[.bool true, sv s, .agg #[]])) w') :
    wpList Try.prog ops Q (o :: rest) a w := by
  obtain ⟨D, left, hr, hh, hl, hsub⟩ := h.rng
  refine wpList_next_ranges (H := Unit) (α := List Int) (β := Unit) w hg it hop 54 side_keyed unitElem sv (fun _ => .agg #[]) (fun key kl hk => ?_) (fun v y hv => ⟨(), (unitElem_inv hv).1⟩) b r n D left cnt hit hr ?_ ?_
  · obtain ⟨S, -, hv, -⟩ := key_inv key kl hk
    exact ⟨S, hv⟩
  · intro _ hno
    exact hDone fun s hs => by
      have := (hl s (h.sub s hs)).2 hs
      rw [hno] at this
      cases this
  · intro x _ kl y w' cnt' hkey hleft _ _ hr' hlt hgr hsz hen
    obtain ⟨s, hs, hk⟩ := (hh kl).1 (hsub kl hleft)
    have hgs := h.good s hs
    have hxs : x = s := sv_inj (side_keyed.inj hkey (by rw [hgs.key hc, hk]))
    subst hxs
    subst hk
    have hLs := (hl x hs).1 hleft
    refine hMore x w' cnt' hLs hgs ⟨⟨D, _, hr', hh, fun z hz => ?_, fun kl h => ?_⟩, fun z hz => h.sub z hz.1, h.good⟩ hlt ?_ hsz hen
    · have hgz := h.good z hz
      constructor
      · intro h1
        simp only [Bool.and_eq_true, Bool.not_eq_true'] at h1
        refine ⟨(hl z hz).1 h1.1, fun e => ?_⟩
        rw [e, WideAt.sameKey_self (side_keyed.key (hgs.key hc))] at h1
        cases h1.2
      · rintro ⟨h1, h2⟩
        simp only [Bool.and_eq_true, Bool.not_eq_true']
        refine ⟨(hl z hz).2 h1, ?_⟩
        cases hs' : (kof z).sameKey (kof x)
        · rfl
        · exact absurd (kof_inj hgz hgs hc (WideAt.sameKey_eq hs')) h2
    · simp only [Bool.and_eq_true] at h
      exact hsub kl h.1
    · exact (keeps_grown hgr).mono (fun k _ e => by simpa using e.symm)

end

/-- A step keeps a side good. -/
theorem stp_good {c : Int} {s s' : List Int} {f p : Nat} (h : Gd c s) (hf : 1 ≤ f ∧ f ≤ 25) (hp : 1 ≤ p) (e : stp s f p = some s') : Gd (c + 1) s' := by
  unfold stp at e
  split at e
  · cases e
  · next hn =>
    have hbf := h.bd f (by omega)
    have hnz : s.getD f 0 ≠ 0 := fun e => hn (Or.inl e)
    split at e
    · split at e
      · cases e
      · simp only [Option.some.injEq] at e
        subst e
        refine ⟨by rw [List.length_set]; exact h.len, fun i hi => ?_⟩
        have := h.bd i hi
        rw [getD_set _ _ _ _ (by rw [h.len]; omega)]
        split <;> omega
    · split at e
      · cases e
      · next hgt =>
        simp only [Option.some.injEq] at e
        subst e
        have hb0 := h.bd 26 (by omega)
        have hbt := h.bd (26 + (f - p)) (by omega)
        have hbm := h.bd (f - p) (by omega)
        unfold hitS
        refine ⟨by simp [h.len], fun i hi => ?_⟩
        have := h.bd i hi
        rw [getD_set _ _ _ _ (by simp [h.len]; omega)]
        split
        · omega
        · rw [getD_set _ _ _ _ (by simp [h.len]; omega)]
          split
          · omega
          · rw [getD_set _ _ _ _ (by simp [h.len]; omega)]
            split
            · omega
            · rw [getD_set _ _ _ _ (by simp [h.len])]
              split <;> omega

end Go.Proofs.Ytmboikpcbkiepaa
