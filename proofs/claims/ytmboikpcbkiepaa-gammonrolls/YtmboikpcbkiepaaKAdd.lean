/-
  The document's memory, with one side more. No conditions beyond those that each theorem bears.
-/
import Derived.Test.YtmboikpcbkiepaaRls
namespace Go.Proofs.Ytmboikpcbkiepaa
open Go.RowKit

theorem heap_set_kb {w : World} {kb : Nat} {a b v : Value} {t : Nat} (h : w.heap[kb]? = some (.cells #[a, b] t (0, 0))) : (w.setCell ⟨kb, 0, none⟩ v).heap[kb]? = some (.cells #[v, b] t (0, 0)) ∧ (w.setCell ⟨kb, 1, none⟩ v).heap[kb]? = some (.cells #[a, v] t (0, 0)) := by
  constructor <;> simp [World.setCell, Array.getElem?_modify, h]

theorem heap_set_ne {w : World} {kb i k : Nat} {v : Value} (hk : k ≠ kb) : (w.setCell ⟨kb, i, none⟩ v).heap[k]? = w.heap[k]? := by
  by_cases hl : k < w.heap.size
  · exact (Keeps.set1 w kb i v).block k hl hk
  · rw [Array.getElem?_eq_none (by simp; omega), Array.getElem?_eq_none (by omega)]

theorem size_setCell (w : World) (p : Addr) (v : Value) : (w.setCell p v).heap.size = w.heap.size := by simp

theorem heap_alloc_lt {w : World} {o : Obj} {k : Nat} (h : k < w.heap.size) : (w.alloc o).heap[k]? = w.heap[k]? := (Keeps.alloc (Keeps.refl (fun _ => False) w) o).block k h (fun e => e)

theorem own_some {w : World} {base e s n : Nat} {v : Value} {xs : List Value} (h : w.ownsRow base e s v n xs) : ∃ a c, v = .slice a n c ∧ n ≤ c ∧ c ≤ maxLen ∧ ∀ ad, a = some ad → ∃ g, ad = ⟨g, 0, none⟩ := by
  rcases h.2 with ⟨rfl, rfl⟩ | ⟨g, cap, cur, rfl, h1, h2, h3, h4, _⟩
  · exact ⟨none, 0, rfl, Nat.le_refl _, Nat.zero_le _, fun _ h => by cases h⟩
  · exact ⟨_, cap, rfl, h3, h4, fun ad e => ⟨g, (Option.some.inj e).symm⟩⟩

/-- One side more. -/
theorem Kn.add {w w1 w3 w6 : World} {kb g1 c1 : Nat} {F : Nat → Prop} {Ml : List (List Nat)} {mv vv v' v'' : Value} {sl : List Value} (h : Kn w kb F Ml mv vv sl) (m : List Nat) (hm : m ∈ Ms) (hnm : m ∉ Ml)
    (B1 : Below w.heap.size w w1) (R1 : Rd w1 (some ⟨g1, 0, none⟩) 6 c1 (cs m)) (hg1 : w.heap.size ≤ g1) (hg1' : g1 < w1.heap.size) (o2 : Obj)
    (G3 : (w1.alloc o2).grownBy w3 mv.ownBlock) (O3 : w3.ownsRow 0 22 1 v' (Ml.length + 1) (sl ++ [.slice (some ⟨g1, 0, none⟩) 6 c1])) (P3 : v'.ownBlock = mv.ownBlock ∨ v'.ownBlock = some (w1.alloc o2).heap.size) (o5 : Obj)
    (G6 : ((w3.setCell ⟨kb, 0, none⟩ v').alloc o5).grownBy w6 vv.ownBlock) (O6 : w6.ownsRow 0 3 1 v'' (Ml.length + 1) (((Ml.map fun m => (v7 m : Int)) ++ [((v7 m : Nat) : Int)]).map (Value.int .i64))) (P6 : v''.ownBlock = vv.ownBlock ∨ v''.ownBlock = some ((w3.setCell ⟨kb, 0, none⟩ v').alloc o5).heap.size) :
    Kn (w6.setCell ⟨kb, 1, none⟩ v'') kb (fun i => F i ∨ (w.heap.size ≤ i ∧ i < w6.heap.size)) (Ml ++ [m]) v' v'' (sl ++ [.slice (some ⟨g1, 0, none⟩) 6 c1]) ∧ Keeps F w (w6.setCell ⟨kb, 1, none⟩ v'') := by
  have s1 := B1.size
  have s2 : (w1.alloc o2).heap.size = w1.heap.size + 1 := World.size_alloc _ _
  have s3 := G3.size
  have s4 := size_setCell w3 ⟨kb, 0, none⟩ v'
  have s5 : ((w3.setCell ⟨kb, 0, none⟩ v').alloc o5).heap.size = (w3.setCell ⟨kb, 0, none⟩ v').heap.size + 1 := World.size_alloc _ _
  have s6 := G6.size
  have hkb : kb < w.heap.size := (Array.getElem?_eq_some_iff.1 h.both).1
  have lm : ∀ g, mv.ownBlock = some g → g < w.heap.size := fun g hg => ownsRow_lt h.men hg
  have lv : ∀ g, vv.ownBlock = some g → g < w.heap.size := fun g hg => ownsRow_lt h.means hg
  -- from w1 on
  have step : ∀ i, i < w1.heap.size → i ≠ kb → mv.ownBlock ≠ some i → vv.ownBlock ≠ some i → (w6.setCell ⟨kb, 1, none⟩ v'').heap[i]? = w1.heap[i]? := by
    intro i hi h1 h2 h3
    rw [heap_set_ne h1, G6.block i (by omega) (fun e => h3 e.symm), heap_alloc_lt (by omega), heap_set_ne h1, G3.block i (by omega) (fun e => h2 e.symm), heap_alloc_lt hi]
  have old : ∀ i, i < w.heap.size → i ≠ kb → mv.ownBlock ≠ some i → vv.ownBlock ≠ some i → (w6.setCell ⟨kb, 1, none⟩ v'').heap[i]? = w.heap[i]? := by
    intro i hi h1 h2 h3
    rw [step i (by omega) h1 h2 h3, B1.block i hi]
  have kmv : mv.ownBlock ≠ some kb := fun e => (h.fm kb e).2.1 rfl
  have kvv : vv.ownBlock ≠ some kb := fun e => (h.fv kb e).2 rfl
  have b3 : w3.heap[kb]? = some (.cells #[mv, vv] 76 (0, 0)) := by
    rw [G3.block kb (by omega) (fun e => kmv e.symm), heap_alloc_lt (by omega), B1.block kb hkb, h.both]
  have b6 : w6.heap[kb]? = some (.cells #[v', vv] 76 (0, 0)) := by
    rw [G6.block kb (by omega) (fun e => kvv e.symm), heap_alloc_lt (by omega)]
    exact (heap_set_kb b3).1
  have nb : ∀ g, v'.ownBlock = some g → g ≠ kb ∧ vv.ownBlock ≠ some g ∧ v''.ownBlock ≠ some g ∧ (F g ∨ w.heap.size ≤ g) ∧ g < w3.heap.size := by
    intro g hg
    have hlt : g < w3.heap.size := ownsRow_lt O3 hg
    rcases P3 with e | e
    · rw [e] at hg
      have f1 := h.fm g hg
      have f2 := lm g hg
      refine ⟨f1.2.1, f1.2.2, fun e2 => ?_, Or.inl f1.1, hlt⟩
      rcases P6 with e3 | e3
      · rw [e3] at e2; exact f1.2.2 e2
      · rw [e3] at e2; have := Option.some.inj e2; omega
    · rw [e] at hg
      have := Option.some.inj hg
      refine ⟨by omega, fun e2 => by have := lv g e2; omega, fun e2 => ?_, Or.inr (by omega), hlt⟩
      rcases P6 with e3 | e3
      · rw [e3] at e2; have := lv g e2; omega
      · rw [e3] at e2; have := Option.some.inj e2; omega
  have nb2 : ∀ g, v''.ownBlock = some g → g ≠ kb ∧ (F g ∨ w.heap.size ≤ g) ∧ g < w6.heap.size := by
    intro g hg
    have hlt : g < w6.heap.size := ownsRow_lt O6 hg
    rcases P6 with e | e
    · rw [e] at hg
      exact ⟨(h.fv g hg).2, Or.inl (h.fv g hg).1, hlt⟩
    · rw [e] at hg
      have := Option.some.inj hg
      exact ⟨by omega, Or.inr (by omega), hlt⟩
  refine ⟨⟨(heap_set_kb b6).2, ?_, ?_, ?_, Or.inl h.fk, ?_, ?_, ?_, ?_⟩, ?_⟩
  · rw [List.length_append, List.length_singleton]
    refine ownsRow_block O3 (fun g hg => ?_)
    obtain ⟨n1, n2, n3, n4, n5⟩ := nb g hg
    rw [heap_set_ne n1, G6.block g (by omega) (fun e => n2 e.symm), heap_alloc_lt (by omega), heap_set_ne n1]
  · rw [List.length_append, List.length_singleton, List.map_append, List.map_singleton]
    refine ownsRow_block O6 (fun g hg => ?_)
    rw [heap_set_ne (nb2 g hg).1]
  · intro j hj
    rw [List.length_append, List.length_singleton] at hj
    have hsl : sl.length = Ml.length := by have := h.men.1; omega
    by_cases hjl : j < Ml.length
    · obtain ⟨g, c, r1, r2, r3, r4, r5, r6, r7⟩ := h.rows j hjl
      refine ⟨g, c, ?_, ?_, Or.inl r3, by simp; omega, r5, fun e => ?_, fun e => ?_⟩
      · rw [List.getElem?_append_left (by omega)]; exact r1
      · rw [show (Ml ++ [m]).getD j [] = Ml.getD j [] by simp [List.getD, List.getElem?_append_left hjl]]
        exact r2.block (old g r4 r5 r6 r7)
      · rcases P3 with e3 | e3
        · rw [e3] at e; exact r6 e
        · rw [e3] at e; have := Option.some.inj e; omega
      · rcases P6 with e3 | e3
        · rw [e3] at e; exact r7 e
        · rw [e3] at e; have := Option.some.inj e; omega
    · have hje : j = Ml.length := by omega
      subst hje
      refine ⟨g1, c1, ?_, ?_, Or.inr ⟨hg1, by omega⟩, by simp; omega, by omega, fun e => ?_, fun e => ?_⟩
      · rw [List.getElem?_append_right (by omega), hsl, Nat.sub_self]; rfl
      · rw [show (Ml ++ [m]).getD Ml.length [] = m by simp [List.getD]]
        exact R1.block (step g1 hg1' (by omega) (fun e => by have := lm g1 e; omega) (fun e => by have := lv g1 e; omega))
      · rcases P3 with e3 | e3
        · rw [e3] at e; have := lm g1 e; omega
        · rw [e3] at e; have := Option.some.inj e; omega
      · rcases P6 with e3 | e3
        · rw [e3] at e; have := lv g1 e; omega
        · rw [e3] at e; have := Option.some.inj e; omega
  · intro g hg
    obtain ⟨n1, n2, n3, n4, n5⟩ := nb g hg
    exact ⟨by rcases n4 with n | n; exact Or.inl n; exact Or.inr ⟨n, by omega⟩, n1, n3⟩
  · intro g hg
    obtain ⟨n1, n2, n3⟩ := nb2 g hg
    exact ⟨by rcases n2 with n | n; exact Or.inl n; exact Or.inr ⟨n, n3⟩, n1⟩
  · intro z hz
    rcases List.mem_append.1 hz with hz | hz
    · exact h.mem z hz
    · rw [List.mem_singleton.1 hz]; exact hm
  · rw [List.nodup_append]
    refine ⟨h.nd, by simp, fun a ha b hb e => ?_⟩
    rw [List.mem_singleton.1 hb] at e
    exact hnm (e ▸ ha)
  · have os1 : (w6.setCell ⟨kb, 1, none⟩ v'').os = w.os := by
      rw [show (w6.setCell ⟨kb, 1, none⟩ v'').os = w6.os from rfl, G6.os]
      rw [show ((w3.setCell ⟨kb, 0, none⟩ v').alloc o5).os = w3.os from rfl, G3.os]
      exact B1.os
    have tp1 : (w6.setCell ⟨kb, 1, none⟩ v'').tape = w.tape := by
      rw [show (w6.setCell ⟨kb, 1, none⟩ v'').tape = w6.tape from rfl, G6.tape]
      rw [show ((w3.setCell ⟨kb, 0, none⟩ v').alloc o5).tape = w3.tape from rfl, G3.tape]
      exact B1.tape
    have ot1 : (w6.setCell ⟨kb, 1, none⟩ v'').output = w.output := by
      rw [show (w6.setCell ⟨kb, 1, none⟩ v'').output = w6.output from rfl, G6.output]
      rw [show ((w3.setCell ⟨kb, 0, none⟩ v').alloc o5).output = w3.output from rfl, G3.output]
      exact B1.output
    refine ⟨os1, tp1, ot1, by rw [size_setCell]; omega, fun i hi hF => old i hi (fun e => hF (e ▸ h.fk)) (fun e => hF (h.fm i e).1) (fun e => hF (h.fv i e).1)⟩

/-- What is needed on the way to it. -/
theorem Kn.way2 {w w2 : World} {kb : Nat} {F : Nat → Prop} {Ml : List (List Nat)} {mv vv : Value} {sl : List Value} (h : Kn w kb F Ml mv vv sl) (hl : ∀ i, F i → i < w.heap.size) (B2 : Below w.heap.size w w2) : w2.ownsRow 0 22 1 mv Ml.length sl :=
  (h.kept (Keeps.of_below B2) (fun i hi => by have := hl i hi; omega)).men

theorem Kn.way5 {w w2 w3 : World} {kb : Nat} {F : Nat → Prop} {Ml : List (List Nat)} {mv vv v' : Value} {sl : List Value} (h : Kn w kb F Ml mv vv sl) (B2 : Below w.heap.size w w2) (G3 : w2.grownBy w3 mv.ownBlock) (o5 : Obj) :
    w3.heap[kb]? = some (.cells #[mv, vv] 76 (0, 0)) ∧ (w3.setCell ⟨kb, 0, none⟩ v').heap[kb]? = some (.cells #[v', vv] 76 (0, 0)) ∧ ((w3.setCell ⟨kb, 0, none⟩ v').alloc o5).ownsRow 0 3 1 vv Ml.length ((Ml.map fun m => (v7 m : Int)).map (Value.int .i64)) := by
  have s2 := B2.size
  have s3 := G3.size
  have s4 := size_setCell w3 ⟨kb, 0, none⟩ v'
  have hkb : kb < w.heap.size := (Array.getElem?_eq_some_iff.1 h.both).1
  have b3 : w3.heap[kb]? = some (.cells #[mv, vv] 76 (0, 0)) := by
    rw [G3.block kb (by omega) (fun e => (h.fm kb e.symm).2.1 rfl), B2.block kb hkb, h.both]
  refine ⟨b3, (heap_set_kb b3).1, ownsRow_block h.means (fun g hg => ?_)⟩
  have lg := ownsRow_lt h.means hg
  rw [heap_alloc_lt (by omega), heap_set_ne (h.fv g hg).2, G3.block g (by omega) (fun e => (h.fm g e.symm).2.2 hg), B2.block g lg]

theorem Kn.way6 {w w2 w3 w6 : World} {kb : Nat} {F : Nat → Prop} {Ml : List (List Nat)} {mv vv v' : Value} {sl : List Value} (h : Kn w kb F Ml mv vv sl) (B2 : Below w.heap.size w w2) (G3 : w2.grownBy w3 mv.ownBlock) {o5 : Obj} (G6 : ((w3.setCell ⟨kb, 0, none⟩ v').alloc o5).grownBy w6 vv.ownBlock) : w6.heap[kb]? = some (.cells #[v', vv] 76 (0, 0)) := by
  have b4 := (h.way5 (v' := v') B2 G3 o5).2.1
  have hl : kb < (w3.setCell ⟨kb, 0, none⟩ v').heap.size := (Array.getElem?_eq_some_iff.1 b4).1
  rw [G6.block kb (by simp; simp at hl; omega) (fun e => (h.fv kb e.symm).2 rfl), heap_alloc_lt hl, b4]

/-- All together: what the call leaves. -/
theorem post_add {P kb : Nat} {w wr w7 : World} {F F1 : Nat → Prop} {Ml Ml1 : List (List Nat)} {m : List Nat} {s6 : Nat} {v' v'' : Value} {sl' : List Value} (hk1 : Keeps F w wr) (hs1 : ∀ i, i < w.heap.size → F1 i → F i) (he1 : ∀ z, z ∈ Ml1 → z ∈ Ml ∨ pip z < P) (hpm : pip m = P) (hl1 : ∀ i, F1 i → i < wr.heap.size) (hs6 : s6 ≤ w7.heap.size)
    (hA : Kn w7 kb (fun i => F1 i ∨ (wr.heap.size ≤ i ∧ i < s6)) (Ml1 ++ [m]) v' v'' sl') (hK : Keeps F1 wr w7) : Post (P + 1) kb w F Ml w7 := by
  refine ⟨_, _, ⟨⟨_, _, _, hA⟩, fun i hi => ?_⟩, ⟨hK.os.trans hk1.os, hK.tape.trans hk1.tape, hK.output.trans hk1.output, Nat.le_trans hk1.size hK.size, fun i hi hF => ?_⟩, fun i hi h => ?_, fun z hz => ?_⟩
  · rcases hi with h | h
    · exact Nat.lt_of_lt_of_le (hl1 i h) hK.size
    · omega
  · exact (hK.block i (Nat.lt_of_lt_of_le hi hk1.size) (fun e => hF (hs1 i hi e))).trans (hk1.block i hi hF)
  · have := hk1.size
    rcases h with h | h
    · exact hs1 i hi h
    · omega
  · rcases List.mem_append.1 hz with h | h
    · rcases he1 z h with h | h
      · exact Or.inl h
      · exact Or.inr (by omega)
    · rw [List.mem_singleton.1 h]
      exact Or.inr (by omega)

theorem kb_facts {w : World} {kb : Nat} {a b : Value} (h : w.heap[kb]? = some (.cells #[a, b] 76 (0, 0))) : w.cell? ⟨kb, 0, none⟩ = some a ∧ w.cell? ⟨kb, 1, none⟩ = some b ∧ w.frozen? ⟨kb, 0, none⟩ = false ∧ w.frozen? ⟨kb, 1, none⟩ = false := by
  simp [World.cell?, World.frozen?, h]

end Go.Proofs.Ytmboikpcbkiepaa
