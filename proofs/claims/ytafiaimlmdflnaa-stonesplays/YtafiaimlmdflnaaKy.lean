/-
  Boards' pictures as the keys of a map; sets of them. No conditions beyond those that each theorem bears.
-/
import Derived.Test.YtafiaimlmdflnaaPv
import Derived.DeepKeys4
import Derived.Maps.Keyed
import Derived.Maps.OwnSet
namespace Go.Proofs.Ytafiaimlmdflnaa
open Go.RowKit Go.Maps Go.WideMaps

theorem ky_laidOut : laidOutB Try.prog = true := by kernel_rfl
theorem ky_row : 86 < Try.prog.types.size := of_decide_eq_true (by kernel_rfl)
theorem ky_type : Try.prog.keyType 86 = true := by kernel_rfl
theorem ky_at : Try.prog.keyTypeAt 2 86 = true := by kernel_rfl
theorem ky_c3 : Try.prog.cellsOf 3 = 1 := by kernel_rfl
theorem ky_c86 : Try.prog.cellsOf 86 = 100 := by kernel_rfl
theorem ky_deep : ∃ d, Try.prog.types.size + 1 = d + 2 := ⟨Try.prog.types.size - 1, by have := ky_row; omega⟩

/-- What the laws on a map's block need of a picture. -/
theorem pic_keyed : Keyed Try.prog 86 := Keyed.of_law (deep_law_laid ky_laidOut (m := 2) (by omega) ky_row ky_at (by rw [Try.underlying86]))

theorem mapM_all {α β : Type} (f : α → Option β) (g : α → β) : ∀ l : List α, (∀ x ∈ l, f x = some (g x)) → l.mapM f = some (l.map g)
  | [], _ => rfl
  | x :: l, h => by
    rw [List.mapM_cons, h x List.mem_cons_self, mapM_all f g l (fun y hy => h y (List.mem_cons_of_mem _ hy))]
    rfl

abbrev ivz (S : List Int) : List Value := S.map (Value.int .i64)

theorem key_array (d : Nat) (S : List Int) (hl : S.length = 100) (hw : ∀ z ∈ S, (Lit.int .i64 z).wf = true) : Try.prog.keyLits (d + 2) 86 (ivz S) = some (((List.range 100).map fun i => [Lit.int .i64 (S.getD i 0)]).flatten) := by
  unfold Program.keyLits
  rw [Try.underlying86]
  simp only
  rw [if_pos (by rw [ky_c86, List.length_map, hl]), mapM_all _ (fun i => [Lit.int .i64 (S.getD i 0)]) _ (fun i hi => ?_)]
  · rfl
  · have hi' : i < S.length := by rw [hl]; simpa using hi
    rw [ky_c3, Nat.mul_one]
    have e : ((ivz S).drop i).take 1 = [.int .i64 (S.getD i 0)] := by
      simp [ivz, List.getD, hi', List.drop_eq_getElem_cons, List.take]
    rw [e]
    unfold Program.keyLits
    rw [Try.underlying3]
    simp only
    rw [if_pos ⟨by trivial, hw _ (by simp [List.getD, hi'])⟩]

abbrev sv (s : List Int) : Value := .agg (ivz s).toArray

theorem sv_inj {s t : List Int} (h : sv s = sv t) : s = t := by
  have : (ivz s).toArray = (ivz t).toArray := by simpa using h
  have h2 : ivz s = ivz t := by simpa using congrArg Array.toList this
  exact List.map_inj_right (fun a b e => by simpa using e) |>.1 h2

/-- A picture has a key. -/
theorem key_mk (S : List Int) (hl : S.length = 100) (hw : ∀ z ∈ S, (Lit.int .i64 z).wf = true) : ∃ kl, keyOf Try.prog 86 (sv S) = some kl := by
  obtain ⟨d, hd⟩ := ky_deep
  obtain ⟨L, hL⟩ : ∃ L, Try.prog.keyLits (d + 2) 86 (ivz S) = some L := ⟨_, key_array d S hl hw⟩
  refine ⟨.string (keyBytes L), ?_⟩
  unfold keyOf
  rw [Try.underlying86]
  simp only
  have hf : (Value.agg (ivz S).toArray).formed Try.prog 86 = true := by
    simp only [Value.formed, Try.underlying86, ky_c86]
    simp [hl]
  rw [ky_type, hf, hd]
  show (if (true && true) = true then (Try.prog.keyLits (d + 2) 86 (ivz S)).map _ else none) = _
  rw [hL]
  rfl

noncomputable def kof (s : List Int) : Lit := (keyOf Try.prog 86 (sv s)).getD (.bool false)

/-- A picture of signs. -/
structure Pic (s : List Int) : Prop where
  len : s.length = 100
  bd : ∀ z ∈ s, 0 ≤ z ∧ z ≤ 2

theorem Pic.key {s : List Int} (h : Pic s) : keyOf Try.prog 86 (sv s) = some (kof s) := by
  obtain ⟨kl, hkl⟩ := key_mk s h.len (fun z hz => by
    have := h.bd z hz
    simp [Lit.wf, IntKind.min, IntKind.max, IntKind.signed, IntKind.bits]
    omega)
  rw [kof, hkl]
  rfl

attribute [local irreducible] kof

theorem kof_inj {s t : List Int} (hs : Pic s) (ht : Pic t) (e : kof s = kof t) : s = t :=
  sv_inj (pic_keyed.inj hs.key (by rw [e]; exact ht.key))

/-- Block b is the set of the pictures in X; at most n were put. -/
structure St (w : World) (b n : Nat) (X : List (List Int)) : Prop where
  own : ∃ D, w.ownsMap (H := Unit) Try.prog 86 unitElem b n D ∧ ∀ kl, Maps.has D kl = true ↔ ∃ s, s ∈ X ∧ kof s = kl
  good : ∀ s ∈ X, Pic s

theorem St.lt {w : World} {b n : Nat} {X : List (List Int)} (h : St w b n X) : b < w.heap.size := by
  obtain ⟨D, hD, _⟩ := h.own
  exact hD.lt

theorem St.kept {w w' : World} {b n : Nat} {X : List (List Int)} {Z : Nat → Prop} (h : St w b n X) (hk : Keeps Z w w') (hb : ¬ Z b) : St w' b n X := by
  obtain ⟨D, hD, hh⟩ := h.own
  refine ⟨⟨D, ?_, hh⟩, h.good⟩
  have hlt := hD.lt
  obtain ⟨es, clock, hb', F, hs, hD'⟩ := hD
  exact ⟨es, clock, (hk.block b hlt hb).trans hb', F, hs, hD'⟩

theorem St.below {w w' : World} {b n B : Nat} {X : List (List Int)} (h : St w b n X) (hk : Below B w w') (hb : b < B) : St w' b n X :=
  h.kept (Keeps.of_below hk) (by omega)

theorem St.mono {w : World} {b n n' : Nat} {X : List (List Int)} (h : St w b n X) (hn : n ≤ n') : St w b n' X := by
  obtain ⟨D, hD, hh⟩ := h.own
  exact ⟨⟨D, hD.mono hn, hh⟩, h.good⟩

theorem St.made (w : World) : St (w.alloc (.map #[] 0)) w.heap.size 0 [] :=
  ⟨⟨_, World.ownsMap_made w _ _ _, fun kl => by simp [Maps.has]⟩, fun _ h => by cases h⟩

theorem keeps_turned {w w' : World} {b : Nat} (h : w.mapTurned w' b) : Keeps (fun k => k = b) w w' := by
  have g := h.grown
  exact ⟨g.os, g.tape, g.output, g.size, fun i hi hx => g.block i hi (fun e => hx (by simpa using e))⟩

/-- 'm[s] = struct{}{}'. -/
theorem St.put {w : World} {b n : Nat} {X : List (List Int)} (h : St w b n X) (hn : n < 1000000000) {s : List Int} (hs : Pic s) :
    ∃ w', (Instr.mapUpdate 68 (.map (some b)) (sv s) (.agg #[])).run Try.prog w = .ok () w' ∧ St w' b (n + 1) (s :: X) ∧ Keeps (fun k => k = b) w w' := by
  obtain ⟨D, hD, hh⟩ := h.own
  obtain ⟨w', hrun, hD', hT⟩ := hD.store pic_keyed Try.underlying68 (by unfold maxLen; omega) hs.key unitElem_mk
  refine ⟨w', hrun, ⟨⟨_, hD', fun kl => ?_⟩, fun x hx => ?_⟩, keeps_turned hT⟩
  · by_cases e : kl = kof s
    · subst e
      rw [Maps.has_put_same hD.isMap (pic_keyed.key hs.key)]
      exact ⟨fun _ => ⟨s, by simp, rfl⟩, fun _ => rfl⟩
    · rw [Maps.has_put_other e, hh]
      constructor
      · rintro ⟨x, hx, hk⟩
        exact ⟨x, List.mem_cons_of_mem _ hx, hk⟩
      · rintro ⟨x, hx, hk⟩
        rcases List.mem_cons.1 hx with rfl | hx
        · exact absurd hk.symm e
        · exact ⟨x, hx, hk⟩
  · rcases List.mem_cons.1 hx with rfl | hx
    · exact hs
    · exact h.good x hx

end Go.Proofs.Ytafiaimlmdflnaa
