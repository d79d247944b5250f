/-
  What comes of a game, as numbers; the map of what was found. No conditions beyond those that each theorem bears.
-/
import Derived.Test.YthdnbbjehcicbaaDoorWon
import Derived.DeepKeys4
import Derived.Maps.Keyed
import Derived.WideKeyEntry
namespace Go.Proofs.YthdnbbjehcicbaaDoor
open Go.RowKit Go.Maps Go.WideMaps
open Go.ChangeMaps (setBlock heap_setBlock_same heap_setBlock_other modify_eq_set)
open Go.MapKept (Stamped stamped_push stamped_modify)

/-- What a sign at p brings the mover, if V tells what comes behind it. -/
def mvv (W H k : Nat) (V : List Int → Nat → Int) (Z : List Int) (m p : Nat) : Int := if inR W H (Z.set p (m : Int)) p k = true then 1 else - V (Z.set p (m : Int)) (3 - m)

/-- The best of the first j open places, and all that reach it. -/
def bsj (W H k : Nat) (V : List Int → Nat → Int) (O : List Nat) (Z : List Int) (m : Nat) : Nat → Int × List Nat
  | 0 => (0, [])
  | j + 1 =>
    let r := bsj W H k V O Z m j
    let p := O.getD j 0
    if Z.getD p 0 = 0 then
      let v := mvv W H k V Z m p
      if r.2 = [] ∨ r.1 < v then (v, [p]) else if v = r.1 then (r.1, r.2 ++ [p]) else r
    else r

/-- What comes of it, so many places being empty. -/
def val (W H k : Nat) (O : List Nat) : Nat → List Int → Nat → Int
  | 0, _, _ => 0
  | e + 1, Z, m => (bsj W H k (val W H k O e) O Z m O.length).1

/-- How many of the open places are empty. -/
def nE (O : List Nat) (Z : List Int) : Nat := (O.filter fun p => Z.getD p 0 == 0).length

theorem bsj_skip {W H k : Nat} {V : List Int → Nat → Int} {O : List Nat} {Z : List Int} {m j : Nat} (h : Z.getD (O.getD j 0) 0 ≠ 0) : bsj W H k V O Z m (j + 1) = bsj W H k V O Z m j := by
  rw [bsj]
  simp only [if_neg h]

theorem bsj_new {W H k : Nat} {V : List Int → Nat → Int} {O : List Nat} {Z : List Int} {m j : Nat} (h : Z.getD (O.getD j 0) 0 = 0) (h2 : (bsj W H k V O Z m j).2 = [] ∨ (bsj W H k V O Z m j).1 < mvv W H k V Z m (O.getD j 0)) : bsj W H k V O Z m (j + 1) = (mvv W H k V Z m (O.getD j 0), [O.getD j 0]) := by
  rw [bsj]
  simp only [if_pos h, if_pos h2]

theorem bsj_same {W H k : Nat} {V : List Int → Nat → Int} {O : List Nat} {Z : List Int} {m j : Nat} (h : Z.getD (O.getD j 0) 0 = 0) (h2 : (bsj W H k V O Z m j).2 ≠ []) (h3 : mvv W H k V Z m (O.getD j 0) = (bsj W H k V O Z m j).1) : bsj W H k V O Z m (j + 1) = ((bsj W H k V O Z m j).1, (bsj W H k V O Z m j).2 ++ [O.getD j 0]) := by
  rw [bsj]
  simp only [if_pos h]
  rw [if_neg (by rintro (h | h); exact h2 h; omega), if_pos h3]

theorem bsj_less {W H k : Nat} {V : List Int → Nat → Int} {O : List Nat} {Z : List Int} {m j : Nat} (h : Z.getD (O.getD j 0) 0 = 0) (h2 : (bsj W H k V O Z m j).2 ≠ []) (h3 : mvv W H k V Z m (O.getD j 0) < (bsj W H k V O Z m j).1) : bsj W H k V O Z m (j + 1) = bsj W H k V O Z m j := by
  rw [bsj]
  simp only [if_pos h]
  rw [if_neg (by rintro (h | h); exact h2 h; omega), if_neg (by omega)]

theorem bsj_zero {W H k : Nat} {V : List Int → Nat → Int} {O : List Nat} {Z : List Int} {m : Nat} : bsj W H k V O Z m 0 = (0, []) := rfl

theorem mvv_bd {W H k : Nat} {V : List Int → Nat → Int} (hV : ∀ Z m, -1 ≤ V Z m ∧ V Z m ≤ 1) (Z : List Int) (m p : Nat) : -1 ≤ mvv W H k V Z m p ∧ mvv W H k V Z m p ≤ 1 := by
  unfold mvv
  split
  · omega
  · have := hV (Z.set p (m : Int)) (3 - m); omega

theorem bsj_bd {W H k : Nat} {V : List Int → Nat → Int} (hV : ∀ Z m, -1 ≤ V Z m ∧ V Z m ≤ 1) (O : List Nat) (Z : List Int) (m : Nat) : ∀ j, -1 ≤ (bsj W H k V O Z m j).1 ∧ (bsj W H k V O Z m j).1 ≤ 1
  | 0 => by rw [bsj_zero]; simp
  | j + 1 => by
    have ih := bsj_bd (W := W) (H := H) (k := k) hV O Z m j
    have hm := mvv_bd (W := W) (H := H) (k := k) hV Z m (O.getD j 0)
    rw [bsj]
    dsimp only
    split
    · split
      · exact hm
      · split
        · exact ih
        · exact ih
    · exact ih

theorem val_bd (W H k : Nat) (O : List Nat) : ∀ (e : Nat) (Z : List Int) (m : Nat), -1 ≤ val W H k O e Z m ∧ val W H k O e Z m ≤ 1
  | 0, _, _ => by rw [val]; omega
  | e + 1, Z, m => by rw [val]; exact bsj_bd (val_bd W H k O e) O Z m _

theorem bsj_len (W H k : Nat) (V : List Int → Nat → Int) (O : List Nat) (Z : List Int) (m : Nat) : ∀ j, (bsj W H k V O Z m j).2.length ≤ j
  | 0 => by rw [bsj_zero]; simp
  | j + 1 => by
    have ih := bsj_len W H k V O Z m j
    rw [bsj]
    dsimp only
    split
    · split
      · simp
      · split
        · simp; omega
        · omega
    · omega

/-- Where nothing is empty: 0. -/
theorem bsj_none {W H k : Nat} {V : List Int → Nat → Int} {O : List Nat} {Z : List Int} {m : Nat} (h : nE O Z = 0) : ∀ j, j ≤ O.length → bsj W H k V O Z m j = (0, [])
  | 0, _ => rfl
  | j + 1, hj => by
    rw [bsj_skip, bsj_none h j (by omega)]
    intro he
    have hmem : O.getD j 0 ∈ O.filter fun p => Z.getD p 0 == 0 := List.mem_filter.2 ⟨by simp [List.getD, show j < O.length by omega], by simpa using he⟩
    unfold nE at h
    rw [List.eq_nil_of_length_eq_zero h] at hmem
    cases hmem

theorem val_eq {W H k : Nat} {O : List Nat} {Z : List Int} {m e : Nat} (h : nE O Z = e) : val W H k O e Z m = (bsj W H k (val W H k O (e - 1)) O Z m O.length).1 := by
  cases e with
  | zero => rw [val, bsj_none h _ (Nat.le_refl _)]
  | succ e => rw [val]; rfl

/-- One of them is filled. -/
theorem nE_set {O : List Nat} {Z : List Int} {p : Nat} {x : Int} (hO : O.Nodup) (hp : p ∈ O) (hl : p < Z.length) (h0 : Z.getD p 0 = 0) (hx : x ≠ 0) : nE O Z = nE O (Z.set p x) + 1 := by
  unfold nE
  induction O with
  | nil => cases hp
  | cons q O ih =>
    rw [List.nodup_cons] at hO
    by_cases e : p = q
    · subst e
      have h1 : (Z.set p x).getD p 0 = x := by simp [List.getD, hl]
      have h2 : (O.filter fun p' => (Z.set p x).getD p' 0 == 0) = O.filter fun p' => Z.getD p' 0 == 0 := by
        refine List.filter_congr (fun q hq => ?_)
        have : p ≠ q := fun e => hO.1 (e ▸ hq)
        simp [List.getD, this]
      rw [List.filter_cons, List.filter_cons, if_pos (by rw [h0]; rfl), if_neg (by rw [h1]; simpa using hx), h2, List.length_cons]
    · have hpO : p ∈ O := by rcases List.mem_cons.1 hp with h | h; exact absurd h e; exact h
      have h3 : (Z.set p x).getD q 0 = Z.getD q 0 := by simp [List.getD, e]
      rw [List.filter_cons, List.filter_cons, h3]
      have := ih hO.2 hpO
      split
      · simp only [List.length_cons]; omega
      · exact this

/-- The signs at the open places, as the program keeps them. -/
def ky (O : List Nat) (Z : List Int) : List Int := (O.map fun p => Z.getD p 0) ++ List.replicate (9 - O.length) 0

theorem ky_len {O : List Nat} (h : O.length ≤ 9) (Z : List Int) : (ky O Z).length = 9 := by simp [ky]; omega

/-- A board of the same game: Z0 but for the open places. -/
structure Rc (O : List Nat) (Z0 Z : List Int) : Prop where
  len : Z.length = Z0.length
  out : ∀ p, p ∉ O → Z.getD p 0 = Z0.getD p 0
  low : ∀ p, p < Z.length → 0 ≤ Z.getD p 0 ∧ Z.getD p 0 ≤ 2

theorem Rc.set {O : List Nat} {Z0 Z : List Int} (h : Rc O Z0 Z) {p : Nat} (hp : p ∈ O) {x : Int} (hx : 0 ≤ x ∧ x ≤ 2) : Rc O Z0 (Z.set p x) := by
  refine ⟨by simp [h.len], fun q hq => ?_, fun q hq => ?_⟩
  · have : p ≠ q := fun e => hq (e ▸ hp)
    rw [← h.out q hq]
    simp [List.getD, this]
  · have hq' : q < Z.length := by simpa using hq
    by_cases e : p = q
    · subst e; simp only [List.getD, List.getElem?_set, hq', if_true]; simpa using hx
    · have := h.low q hq'
      simpa [List.getD, List.getElem?_set, e] using this

theorem ky_inj {O : List Nat} {Z0 Z Z' : List Int} (h : Rc O Z0 Z) (h' : Rc O Z0 Z') (he : ky O Z = ky O Z') : Z = Z' := by
  have h1 : (O.map fun p => Z.getD p 0) = O.map fun p => Z'.getD p 0 := (List.append_inj he (by simp)).1
  apply List.ext_getElem (by rw [h.len, h'.len])
  intro i hi hi'
  have hq : Z.getD i 0 = Z'.getD i 0 := by
    by_cases hm : i ∈ O
    · obtain ⟨j, hj, rfl⟩ := List.getElem_of_mem hm
      have := congrArg (fun l : List Int => l.getD j 0) h1
      simpa [List.getD, hj] using this
    · rw [h.out i hm, h'.out i hm]
  simpa [List.getD, hi, hi'] using hq

/-- Who is to move, told by how many of the open places are still empty. -/
def mvr (O : List Nat) (m0 : Nat) (Z : List Int) : Nat := if (O.length - nE O Z) % 2 = 0 then m0 else 3 - m0

theorem mvr_set {O : List Nat} {Z : List Int} {m0 p : Nat} {x : Int} (hm : m0 = 1 ∨ m0 = 2) (hO : O.Nodup) (hp : p ∈ O) (hl : p < Z.length) (h0 : Z.getD p 0 = 0) (hx : x ≠ 0) : mvr O m0 (Z.set p x) = 3 - mvr O m0 Z := by
  have h1 := nE_set hO hp hl h0 hx
  have h2 : nE O Z ≤ O.length := List.length_filter_le _ _
  unfold mvr
  by_cases e : (O.length - nE O Z) % 2 = 0
  · rw [if_pos e, if_neg (by omega)]
  · rw [if_neg e, if_pos (by omega)]; omega

theorem mvr_12 {O : List Nat} {Z : List Int} {m0 : Nat} (hm : m0 = 1 ∨ m0 = 2) : mvr O m0 Z = 1 ∨ mvr O m0 Z = 2 := by
  unfold mvr
  split <;> omega

/-! ### keys -/
theorem ky_laidOut : laidOutB Tryd.prog = true := by kernel_rfl
theorem ky_row : 115 < Tryd.prog.types.size := of_decide_eq_true (by kernel_rfl)
theorem ky_type : Tryd.prog.keyType 115 = true := by kernel_rfl
theorem ky_at : Tryd.prog.keyTypeAt 2 115 = true := by kernel_rfl
theorem ky_c3 : Tryd.prog.cellsOf 3 = 1 := by kernel_rfl
theorem ky_c115 : Tryd.prog.cellsOf 115 = 9 := by kernel_rfl
theorem ky_deep : ∃ d, Tryd.prog.types.size + 1 = d + 2 := ⟨Tryd.prog.types.size - 1, by have := ky_row; omega⟩

theorem key_keyed : Keyed Tryd.prog 115 := Keyed.of_law (deep_law_laid ky_laidOut (m := 2) (by omega) ky_row ky_at (by rw [Tryd.underlying115]))

theorem mapM_all {α β : Type} (f : α → Option β) (g : α → β) : ∀ l : List α, (∀ x ∈ l, f x = some (g x)) → l.mapM f = some (l.map g)
  | [], _ => rfl
  | x :: l, h => by
    rw [List.mapM_cons, h x List.mem_cons_self, mapM_all f g l (fun y hy => h y (List.mem_cons_of_mem _ hy))]
    rfl

theorem key_int (d : Nat) (z : Int) (hw : (Lit.int .i64 z).wf = true) : Tryd.prog.keyLits (d + 1) 3 [.int .i64 z] = some [Lit.int .i64 z] := by
  unfold Program.keyLits
  rw [Tryd.underlying3]
  simp only
  rw [if_pos ⟨by trivial, hw⟩]

theorem key_array (d : Nat) (S : List Int) (hl : S.length = 9) (hw : ∀ z ∈ S, (Lit.int .i64 z).wf = true) : Tryd.prog.keyLits (d + 2) 115 (ivs S) = some (((List.range 9).map fun i => [Lit.int .i64 (S.getD i 0)]).flatten) := by
  unfold Program.keyLits
  rw [Tryd.underlying115]
  simp only
  rw [if_pos (by rw [ky_c115, ivs_length, hl]), mapM_all _ (fun i => [Lit.int .i64 (S.getD i 0)]) _ (fun i hi => ?_)]
  · rfl
  · have hi' : i < S.length := by rw [hl]; simpa using hi
    rw [ky_c3, Nat.mul_one]
    have e : ((ivs S).drop i).take 1 = [.int .i64 (S.getD i 0)] := by
      simp [ivs, List.getD, hi', List.drop_eq_getElem_cons, List.take]
    rw [e]
    exact key_int d _ (hw _ (by simp [List.getD, hi']))

theorem key_mk (S : List Int) (hl : S.length = 9) (hw : ∀ z ∈ S, (Lit.int .i64 z).wf = true) : ∃ kl, keyOf Tryd.prog 115 (.agg (ivs S).toArray) = some kl := by
  obtain ⟨d, hd⟩ := ky_deep
  obtain ⟨L, hL⟩ : ∃ L, Tryd.prog.keyLits (d + 2) 115 (ivs S) = some L := ⟨_, key_array d S hl hw⟩
  refine ⟨.string (keyBytes L), ?_⟩
  unfold keyOf
  rw [Tryd.underlying115]
  simp only
  have hf : (Value.agg (ivs S).toArray).formed Tryd.prog 115 = true := by
    simp only [Value.formed, Tryd.underlying115, ky_c115]
    simp [ivs_length, hl]
  rw [ky_type, hf, hd]
  show (if (true && true) = true then (Tryd.prog.keyLits (d + 2) 115 (ivs S)).map _ else none) = _
  rw [hL]
  rfl

theorem wf_small {z : Int} (h0 : 0 ≤ z) (h1 : z ≤ 1000) : (Lit.int .i64 z).wf = true := by
  simp [Lit.wf, IntKind.min, IntKind.max, IntKind.signed, IntKind.bits]
  omega

theorem Rc.key {O : List Nat} {Z0 Z : List Int} (h : Rc O Z0 Z) (hO : O.length ≤ 9) (hlt : ∀ p, p ∈ O → p < Z0.length) : ∃ kl, keyOf Tryd.prog 115 (.agg (ivs (ky O Z)).toArray) = some kl := by
  refine key_mk _ (ky_len hO Z) (fun z hz => ?_)
  rcases List.mem_append.1 hz with hz | hz
  · obtain ⟨p, hp, rfl⟩ := List.mem_map.1 hz
    have := h.low p (by rw [h.len]; exact hlt p hp)
    exact wf_small this.1 (by omega)
  · rw [List.eq_of_mem_replicate hz]
    exact wf_small (by omega) (by omega)

/-- The map: each entry is right. -/
def Mp (W H k : Nat) (O : List Nat) (Z0 : List Int) (m0 : Nat) (w : World) (b : Nat) : Prop :=
  ∃ es clock, w.heap[b]? = some (.map es clock) ∧ ∀ x ∈ es.toList, ∃ Z, Rc O Z0 Z ∧ x.key = .agg (ivs (ky O Z)).toArray ∧ x.val = .int .i64 (val W H k O (nE O Z) Z (mvr O m0 Z))

section
variable {W H k : Nat} {O : List Nat} {Z0 : List Int} {m0 : Nat}
theorem Mp.lt {w : World} {b : Nat} (h : Mp W H k O Z0 m0 w b) : b < w.heap.size := by
  obtain ⟨es, clock, hb, _⟩ := h
  exact (Array.getElem?_eq_some_iff.1 hb).1

theorem Mp.of_block {w w' : World} {b : Nat} (h : Mp W H k O Z0 m0 w b) (he : w'.heap[b]? = w.heap[b]?) : Mp W H k O Z0 m0 w' b := by
  obtain ⟨es, clock, hb, r⟩ := h
  exact ⟨es, clock, he.trans hb, r⟩

theorem Mp.below {w w' : World} {b B : Nat} (h : Mp W H k O Z0 m0 w b) (hk : Below B w w') (hb : b < B) : Mp W H k O Z0 m0 w' b := h.of_block (hk.block b hb)
theorem Mp.keeps {X : Nat → Prop} {w w' : World} {b : Nat} (h : Mp W H k O Z0 m0 w b) (hk : Keeps X w w') (hb : ¬ X b) : Mp W H k O Z0 m0 w' b := h.of_block (hk.block b h.lt hb)

theorem Mp.made (w : World) : Mp W H k O Z0 m0 (w.alloc (.map #[] 0)) w.heap.size := ⟨#[], 0, heap_alloc_new w _, by simp⟩

/-- 'v, ok := m[k]'. -/
theorem Mp.look {w : World} {b : Nat} (h : Mp W H k O Z0 m0 w b) (hO : O.length ≤ 9) (hlt : ∀ p, p ∈ O → p < Z0.length) {Z : List Int} (hB : Rc O Z0 Z) :
    (Instr.lookup 53 (.map (some b)) (.agg (ivs (ky O Z)).toArray) true).run Tryd.prog w = .ok (.tuple #[.int .i64 (val W H k O (nE O Z) Z (mvr O m0 Z)), .bool true]) w
    ∨ (Instr.lookup 53 (.map (some b)) (.agg (ivs (ky O Z)).toArray) true).run Tryd.prog w = .ok (.tuple #[.int .i64 0, .bool false]) w := by
  obtain ⟨es, clock, hb, hk⟩ := h
  obtain ⟨kl, hkl⟩ := hB.key hO hlt
  have hc := fun em => key_keyed.check w em hkl
  have hz := Tryd.zeroValue3 w
  rcases key_keyed.find w hkl es.toList (fun x hx => by obtain ⟨Z', hB', hq, _⟩ := hk x hx; rw [hq]; exact hB'.key hO hlt) with ⟨h1, _⟩ | ⟨j, x, h1, h2, h3⟩
  · refine Or.inr ?_
    simp [Instr.lookup, run_underlying Tryd.underlying53, MapKept.run_getObj_map hb, hc, h1, hz, Result.andThen]
  · obtain ⟨Z', hB', hq, hv⟩ := hk x (List.mem_of_getElem? h2)
    have he : ky O Z' = ky O Z := by
      have : (ivs (ky O Z')).toArray = (ivs (ky O Z)).toArray := by simpa using hq.symm.trans h3
      exact ivs_inj (by simpa using congrArg Array.toList this)
    obtain rfl := ky_inj hB' hB he
    refine Or.inl ?_
    simp [Instr.lookup, run_underlying Tryd.underlying53, MapKept.run_getObj_map hb, hc, h1, hv, Result.andThen]

/-- 'm[k] = v'. -/
theorem Mp.put {w : World} {b : Nat} (h : Mp W H k O Z0 m0 w b) (hO : O.length ≤ 9) (hlt : ∀ p, p ∈ O → p < Z0.length) {Z : List Int} (hB : Rc O Z0 Z) :
    ∃ w', (Instr.mapUpdate 53 (.map (some b)) (.agg (ivs (ky O Z)).toArray) (.int .i64 (val W H k O (nE O Z) Z (mvr O m0 Z)))).run Tryd.prog w = .ok () w' ∧ Mp W H k O Z0 m0 w' b ∧ Keeps (fun k => k = b) w w' := by
  obtain ⟨es, clock, hb, hk⟩ := h
  obtain ⟨kl, hkl⟩ := hB.key hO hlt
  have hc := fun em => key_keyed.check w em hkl
  have hs := key_keyed.stays w hkl
  have hgr : ∀ o, Keeps (fun k => k = b) w (setBlock w b o) := fun o => ⟨rfl, rfl, rfl, by simp [setBlock], fun i _ hi => heap_setBlock_other hb _ (fun e => hi (by rw [e]))⟩
  rcases key_keyed.find w hkl es.toList (fun x hx => by obtain ⟨Z', hB', hq, _⟩ := hk x hx; rw [hq]; exact hB'.key hO hlt) with ⟨h1, _⟩ | ⟨j, x, h1, h2, h3⟩
  · refine ⟨setBlock w b (.map (es.push ⟨.agg (ivs (ky O Z)).toArray, .int .i64 (val W H k O (nE O Z) Z (mvr O m0 Z)), clock⟩) (clock + 1)), ?_, ⟨_, _, heap_setBlock_same hb _, ?_⟩, hgr _⟩
    · simp [Instr.mapUpdate, run_underlying Tryd.underlying53, MapKept.run_getObj_map hb, hc, h1, MapKept.run_setObj_map _ hb, Result.andThen, setBlock]
    · intro x hx
      simp only [Array.toList_push, List.mem_append, List.mem_singleton] at hx
      rcases hx with hx | rfl
      · exact hk x hx
      · exact ⟨Z, hB, rfl, rfl⟩
  · have hj : es[j]? = some x := by simpa using h2
    refine ⟨setBlock w b (.map (es.modify j fun e => { e with key := .agg (ivs (ky O Z)).toArray, val := .int .i64 (val W H k O (nE O Z) Z (mvr O m0 Z)) }) clock), ?_, ⟨_, _, heap_setBlock_same hb _, ?_⟩, hgr _⟩
    · simp [Instr.mapUpdate, run_underlying Tryd.underlying53, MapKept.run_getObj_map hb, hc, h1, hj, h3, hs, MapKept.run_setObj_map _ hb, Result.andThen, setBlock]
    · intro y hy
      rw [Array.toList_modify, modify_eq_set _ _ _ _ h2] at hy
      obtain ⟨i, hi, rfl⟩ := List.getElem_of_mem hy
      rw [List.getElem_set]
      split
      · exact ⟨Z, hB, rfl, rfl⟩
      · have hi' : i < es.toList.length := by simpa using hi
        exact hk _ (List.getElem_mem hi')
end

end Go.Proofs.YthdnbbjehcicbaaDoor
