/-
  A range over a function inside a round of another one: it may make whatever memory it likes, and writes to none that the rounds own; the rounds may return or break, and keep what they have made. No conditions beyond those that each theorem bears.
  A range over a function, as in Ro; the round's body is told besides that the loop's own record stands there: so that ranges may lie one in the other. No conditions beyond those that each theorem bears.
-/
import Derived.Test.YtdmlamnonbmboaaGreatDoorV09
import Derived.RangeFuncNested
namespace Go.Proofs.YtdmlamnonbmboaaGreatDoor
open Go.RowKit Go.Shelf

theorem wp_range_n {α : Type} {P : Program} {n l0 : Nat} {r0 : Loop} {g : Operand} {ps : Array Tmp} {assign body : Code} {Q : Exit → Act → World → Prop} {a : Act} {w : World}
    {gf : Nat} {lb : Array Value} (hl0 : w.heap[l0]? = some (.loop r0)) (hg : a.eval g = .func (.func gf) #[] lb) (eg : ∀ args w, (callFunc gf args).run P w = .ok (.enter gf args) w)
    {G : α → Array Value → World → Prop} {xs : List α} {R : World → Prop} {T : Nat → Prop} (hseq : SeqO P gf lb G xs R T)
    (hT : ∀ k, T k → k < w.heap.size) (hR : ∀ W1, Below w.heap.size w W1 → R W1) (hps : ∀ x args W, G x args W → args.size = ps.size)
    (I : (Nat → Prop) → List α → World → Prop) (Ix : Code → (Nat → Prop) → World → Prop) (O0 : Nat → Prop) (hC : ∀ d, Cons I (Ix d) w.heap.size T) (h0 : I O0 [] w)
    (hround : ∀ (l : Nat) (O : Nat → Prop) (pre : List α) (x : α) (args : Array Value) (W : World), l = w.heap.size → (∃ r, W.heap[l]? = some (.loop r)) → I O pre W → ¬ O l → Keeps O0 w W → (∀ k, k < w.heap.size → O k → O0 k) → (pre ++ [x]) <+: xs → G x args W → w.heap.size + 1 ≤ W.heap.size →
      assign.wpIn (Fence.wide.inRound l) n P (Exit.then (fun a' W' => Below W.heap.size W W' ∧ ∀ W'', Keeps (fun k => k = l) W' W'' → body.wpIn (Fence.wide.inRound l) n P (oPost O I Ix (pre ++ [x]) W'') a' W'') (fun _ _ _ => False))
        { tmps := (ps.zip args).foldl (fun t (p, v) => t.setIfInBounds p v) a.tmps, defers := [] } W)
    (hdone : ∀ (O : Nat → Prop) (W : World), I O xs W → Keeps O0 w W → (∀ k, k < w.heap.size + 1 → O k → O0 k) → Q .normal a W)
    (hstop : ∀ (d : Code) (O : Nat → Prop) (W : World), Ix d O W → Keeps O0 w W → (∀ k, k < w.heap.size + 1 → O k → O0 k) → d.wpIn (Fence.wide.inRound l0) n P Q a W) :
    (Code.rangeFunc g ps assign body).wpIn (Fence.wide.inRound l0) n P Q a w := by
  have hO0 := (hC .ret).lt _ _ _ h0
  refine wpIn_rangeFunc ?_
  intro fn hfn
  obtain ⟨rec, hrec⟩ : ∃ rec : LoopState → Option Code → Loop, rec = fun st pe => { state := st, pending := pe, fn, tmps := a.tmps, params := ps, assign, body, defers := r0.defers } := ⟨_, rfl⟩
  obtain ⟨W1, hW1⟩ : ∃ W1, w.alloc (.loop (rec .ready none)) = W1 := ⟨_, rfl⟩
  have hL1 : W1.heap[w.heap.size]? = some (.loop (rec .ready none)) := by
    rw [← hW1]; exact World.alloc_heap_new w _
  have hb1 : Below w.heap.size w W1 := by
    rw [← hW1]; exact (Below.refl _ w).alloc (Nat.le_refl _) _
  have hs1 : W1.heap.size = w.heap.size + 1 := by rw [← hW1]; simp
  refine ⟨w.heap.size, [], W1, { target := .fn (.func gf) lb, args := #[.func (.yield w.heap.size) #[] #[]] }, W1, gf,
    #[.func (.yield w.heap.size) #[] #[]] ++ lb, W1, ?_, ?_, ?_, ?_, (fun h => by cases h), ?_⟩
  · rw [← hW1, hrec]; exact run_enterLoop_inner hl0 _ _ _ _ _
  · simp only [resolve, hg]
    simp [go_sem]
  · intro f' _; trivial
  · simp [invoke, go_sem, eg]
  · show CallsIn Fence.wide (n - 1) P gf _ W1 _
    refine (CallsIn.anyD (m := 0) (hseq w.heap.size
      (fun Op pre W => ∃ O, (∀ k, Op k ↔ (O k ∨ k = w.heap.size)) ∧ I O pre W ∧ W.heap[w.heap.size]? = some (.loop (rec .ready none)) ∧ (∀ k, k < w.heap.size + 1 → O k → O0 k) ∧ Keeps O0 w W)
      (fun Op W => ∃ O d, (∀ k, Op k ↔ (O k ∨ k = w.heap.size)) ∧ Ix d O W ∧ W.heap[w.heap.size]? = some (.loop (rec .done (some d))) ∧ (∀ k, k < w.heap.size + 1 → O k → O0 k) ∧ Keeps O0 w W)
      (w.heap.size + 1) W1 (fun k => O0 k ∨ k = w.heap.size) (hR _ hb1) (by omega) ?cons ?rnd
      ⟨O0, fun _ => Iff.rfl, (hC .ret).keep _ _ _ _ h0 (Keeps.of_all hb1), hL1, fun _ _ h => h, Keeps.of_all hb1⟩)).mono ?_
    case cons =>
      refine ⟨?_, ?_, ?_, ?_⟩
      · rintro Op s A ⟨O, ho, hi, hl, hm, hk⟩ k hk2
        rcases (ho k).1 hk2 with h | rfl
        · exact (hC .ret).lt _ _ _ hi k h
        · exact ⟨(Array.getElem?_eq_some_iff.1 hl).1, fun ht => by have := hT _ ht; omega⟩
      · rintro Op A ⟨O, d, ho, hi, hl, hm, hk⟩ k hk2
        rcases (ho k).1 hk2 with h | rfl
        · exact (hC d).ltx _ _ hi k h
        · exact ⟨(Array.getElem?_eq_some_iff.1 hl).1, fun ht => by have := hT _ ht; omega⟩
      · rintro Op s A B ⟨O, ho, hi, hl, hm, hk⟩ hb
        refine ⟨O, ho, (hC .ret).keep _ _ _ _ hi (hb.mono (fun k _ e => ⟨by omega, fun h => e.2 ((ho k).2 (Or.inl h))⟩)), (hb.block _ (Array.getElem?_eq_some_iff.1 hl).1 (fun e => by omega)).trans hl, hm, ?_⟩
        exact ⟨hb.os.trans hk.os, hb.tape.trans hk.tape, hb.output.trans hk.output, Nat.le_trans hk.size hb.size, fun i hi2 hx => (hb.block i (Nat.lt_of_lt_of_le hi2 hk.size) (fun e => by omega)).trans (hk.block i hi2 hx)⟩
      · rintro Op A B ⟨O, d, ho, hi, hl, hm, hk⟩ hb
        refine ⟨O, d, ho, (hC d).keepx _ _ _ hi (hb.mono (fun k _ e => ⟨by omega, fun h => e.2 ((ho k).2 (Or.inl h))⟩)), (hb.block _ (Array.getElem?_eq_some_iff.1 hl).1 (fun e => by omega)).trans hl, hm, ?_⟩
        exact ⟨hb.os.trans hk.os, hb.tape.trans hk.tape, hb.output.trans hk.output, Nat.le_trans hk.size hb.size, fun i hi2 hx => (hb.block i (Nat.lt_of_lt_of_le hi2 hk.size) (fun e => by omega)).trans (hk.block i hi2 hx)⟩
    case rnd =>
      rintro Op pre x args W ⟨O, ho, hi, hl, hm, hkp⟩ hpre hG hsz0
      have hlt : w.heap.size < W.heap.size := (Array.getElem?_eq_some_iff.1 hl).1
      have hOl : ¬ O w.heap.size := fun h => by have := (hO0 _ (hm _ (by omega) h)).1; omega
      have hy := run_yield (P := P) (args := args) hl (by rw [hrec]; exact hps x args W hG)
      rw [hrec] at hy
      refine YieldAt.anyD (m := n) ⟨fn, _, assign, body, hy, roundIn_of_wpIn hfn (wpIn_mono (hround w.heap.size O pre x args W rfl ⟨_, hl⟩ hi hOl hkp (fun k hk2 h => hm k (by omega) h) hpre hG (by omega)) ?_)⟩
      rintro e a' Wa hp
      cases e with
      | normal =>
        obtain ⟨hka, hb⟩ := hp
        have hla := (hka.block _ hlt).trans hl
        have hlta : w.heap.size < Wa.heap.size := (Array.getElem?_eq_some_iff.1 hla).1
        refine ⟨_, run_beginRound hla (by rw [hrec]), ?_⟩
        obtain ⟨Wb, hWb⟩ : ∃ Wb, Wa.putObj w.heap.size (.loop { rec .ready none with state := .busy }) = Wb := ⟨_, rfl⟩
        have hl2 : Wb.heap[w.heap.size]? = some (.loop { rec .ready none with state := .busy }) := by rw [← hWb]; exact World.putObj_heap_same hlta
        have hkb : Keeps (fun k => k = w.heap.size) Wa Wb := by rw [← hWb]; exact Keeps.put (X := fun k => k = w.heap.size) (Keeps.refl _ Wa) (l := w.heap.size) rfl _
        have hsz := hkb.size
        have hszA := hka.size
        rw [hWb]
        refine wpIn_mono (hb _ hkb) ?_
        have fin : ∀ (W3 : World) (O' : Nat → Prop), Keeps O Wb W3 → (∀ k, k < Wb.heap.size → O' k → O k) → ∀ (st : LoopState) (pe : Option Code),
            (W3.heap[w.heap.size]? = some (.loop { rec .ready none with state := .busy })) ∧
            (∀ k, k < W.heap.size → (O' k ∨ k = w.heap.size) → Op k) ∧ (∀ k, k < w.heap.size + 1 → O' k → O0 k) ∧ ¬ O' w.heap.size ∧ Keeps O0 w (W3.putObj w.heap.size (.loop (rec st pe))) ∧ Keeps Op W (W3.putObj w.heap.size (.loop (rec st pe))) := by
          intro W3 O' hk3 hm3 st pe
          have hl3 := (hk3.block _ (by omega) hOl).trans hl2
          have kA : Keeps Op W Wa := Keeps.of_all hka
          have kB : Keeps Op W Wb := kA.trans (hkb.mono (fun k _ e => (ho k).2 (Or.inr e)))
          have k3 : Keeps Op W W3 := kB.trans (hk3.mono (fun k _ e => (ho k).2 (Or.inl e)))
          have kP : Keeps Op W (W3.putObj w.heap.size (.loop (rec st pe))) := k3.put ((ho _).2 (Or.inr rfl)) _
          refine ⟨hl3, ?_, ?_, ?_, ?_, kP⟩
          · rintro k hk4 (h | rfl)
            · exact (ho k).2 (Or.inl (hm3 k (by omega) h))
            · exact (ho _).2 (Or.inr rfl)
          · intro k hk4 h
            exact hm k hk4 (hm3 k (by omega) h)
          · intro h
            exact hOl (hm3 _ (by omega) h)
          · refine ⟨kP.os.trans hkp.os, kP.tape.trans hkp.tape, kP.output.trans hkp.output, Nat.le_trans hkp.size kP.size, fun i hi2 hx => (kP.block i (Nat.lt_of_lt_of_le hi2 hkp.size) (fun e => ?_)).trans (hkp.block i hi2 hx)⟩
            rcases (ho i).1 e with h | rfl
            · exact hx (hm i (by omega) h)
            · omega
        rintro e a3 W3 hp
        cases e with
        | normal =>
          obtain ⟨hk3, O', hm3, hi3⟩ := hp
          obtain ⟨hl3, g1, g2, g3, g4, g5⟩ := fin W3 O' hk3 hm3 .ready none
          have hr := run_endRound (P := P) none hl3
          have hlt3 : w.heap.size < W3.heap.size := (Array.getElem?_eq_some_iff.1 hl3).1
          rw [hrec] at hr
          rw [hrec] at g4 g5
          refine ⟨_, _, hr, g5, fun k => O' k ∨ k = w.heap.size, g1, .inl ⟨rfl, O', fun _ => Iff.rfl, (hC .ret).keep _ _ W3 _ hi3 ?_, ?_, g2, g4⟩⟩
          · exact Keeps.put (Keeps.refl _ W3) (l := w.heap.size) ⟨by omega, g3⟩ _
          · rw [hrec]; exact World.putObj_heap_same hlt3
        | ret =>
          obtain ⟨hk3, O', hm3, hi3⟩ := hp
          obtain ⟨hl3, g1, g2, g3, g4, g5⟩ := fin W3 O' hk3 hm3 .done (some .ret)
          have hr := run_endRound (P := P) (some .ret) hl3
          have hlt3 : w.heap.size < W3.heap.size := (Array.getElem?_eq_some_iff.1 hl3).1
          rw [hrec] at hr
          rw [hrec] at g4 g5
          refine ⟨_, _, hr, g5, fun k => O' k ∨ k = w.heap.size, g1, .inr ⟨rfl, O', .ret, fun _ => Iff.rfl, (hC .ret).keepx _ W3 _ hi3 ?_, ?_, g2, g4⟩⟩
          · exact Keeps.put (Keeps.refl _ W3) (l := w.heap.size) ⟨by omega, g3⟩ _
          · rw [hrec]; exact World.putObj_heap_same hlt3
        | exit id =>
          obtain ⟨hk3, O', hm3, hi3⟩ := hp
          obtain ⟨hl3, g1, g2, g3, g4, g5⟩ := fin W3 O' hk3 hm3 .done (some (.exit id))
          have hr := run_endRound (P := P) (some (.exit id)) hl3
          have hlt3 : w.heap.size < W3.heap.size := (Array.getElem?_eq_some_iff.1 hl3).1
          rw [hrec] at hr
          rw [hrec] at g4 g5
          refine ⟨_, _, hr, g5, fun k => O' k ∨ k = w.heap.size, g1, .inr ⟨rfl, O', .exit id, fun _ => Iff.rfl, (hC (.exit id)).keepx _ W3 _ hi3 ?_, ?_, g2, g4⟩⟩
          · exact Keeps.put (Keeps.refl _ W3) (l := w.heap.size) ⟨by omega, g3⟩ _
          · rw [hrec]; exact World.putObj_heap_same hlt3
        | goto t => exact hp.elim
        | panic ch => exact hp.elim
        | outgrown => exact hp.elim
      | ret => exact hp.elim
      | exit id => exact hp.elim
      | goto t => exact hp.elim
      | panic ch => exact hp.elim
      | outgrown => exact hp.elim
    · rintro e W2 ⟨⟨v, rfl⟩, _, Op, _, h2⟩
      rcases h2 with ⟨O, ho, hi, hl, hm, hkp⟩ | ⟨O, d, ho, hi, hl, hm, hkp⟩
      · have hOl : ¬ O w.heap.size := fun h => by have := (hO0 _ (hm _ (by omega) h)).1; omega
        have hlt2 : w.heap.size < W2.heap.size := (Array.getElem?_eq_some_iff.1 hl).1
        refine ⟨none, _, by have := run_endLoop (P := P) hl (by rw [hrec]; simp); rw [hrec] at this; exact this, hdone O _ ((hC .ret).keep _ _ W2 _ hi ?_) ?_ hm⟩
        · exact Keeps.put (Keeps.refl _ W2) (l := w.heap.size) ⟨by omega, hOl⟩ _
        · exact hkp.thenPut (by omega) _
      · have hOl : ¬ O w.heap.size := fun h => by have := (hO0 _ (hm _ (by omega) h)).1; omega
        have hlt2 : w.heap.size < W2.heap.size := (Array.getElem?_eq_some_iff.1 hl).1
        refine ⟨some d, _, by have := run_endLoop (P := P) hl (by rw [hrec]; simp); rw [hrec] at this; exact this, hstop d O _ ((hC d).keepx _ W2 _ hi ?_) ?_ hm⟩
        · exact Keeps.put (Keeps.refl _ W2) (l := w.heap.size) ⟨by omega, hOl⟩ _
        · exact hkp.thenPut (by omega) _

end Go.Proofs.YtdmlamnonbmboaaGreatDoor

namespace Go.Proofs.YtdmlamnonbmboaaGreatDoor
open Go.RowKit Go.Shelf

theorem wp_range_p {α : Type} {P : Program} {n : Nat} {g : Operand} {ps : Array Tmp} {assign body : Code} {Q : Exit → Act → World → Prop} {a : Act} {w : World}
    {gf : Nat} {lb : Array Value} (hg : a.eval g = .func (.func gf) #[] lb) (eg : ∀ args w, (callFunc gf args).run P w = .ok (.enter gf args) w)
    {G : α → Array Value → World → Prop} {xs : List α} {R : World → Prop} {T : Nat → Prop} (hseq : SeqO P gf lb G xs R T)
    (hT : ∀ k, T k → k < w.heap.size) (hR : ∀ W1, Below w.heap.size w W1 → R W1) (hps : ∀ x args W, G x args W → args.size = ps.size)
    (I : (Nat → Prop) → List α → World → Prop) (Ix : Code → (Nat → Prop) → World → Prop) (O0 : Nat → Prop) (hC : ∀ d, Cons I (Ix d) w.heap.size T) (h0 : I O0 [] w)
    (hround : ∀ (l : Nat) (O : Nat → Prop) (pre : List α) (x : α) (args : Array Value) (W : World), l = w.heap.size + 1 → (∃ r, W.heap[l]? = some (.loop r)) → I O pre W → ¬ O l → Keeps O0 w W → (∀ k, k < w.heap.size → O k → O0 k) → (pre ++ [x]) <+: xs → G x args W → w.heap.size + 2 ≤ W.heap.size →
      assign.wpIn (Fence.wide.inRound l) n P (Exit.then (fun a' W' => Below W.heap.size W W' ∧ ∀ W'', Keeps (fun k => k = l) W' W'' → (∃ r, W''.heap[l]? = some (.loop r)) → body.wpIn (Fence.wide.inRound l) n P (oPost O I Ix (pre ++ [x]) W'') a' W'') (fun _ _ _ => False))
        { tmps := (ps.zip args).foldl (fun t (p, v) => t.setIfInBounds p v) a.tmps, defers := [] } W)
    (hdone : ∀ (D : Nat) (O : Nat → Prop) (W : World), D = w.heap.size → I O xs W → Keeps O0 w W → (∀ k, k < w.heap.size + 2 → O k → O0 k) → W.heap[D]? = some (.deferred (some [])) → Q .normal { a with defers := { target := .collected D, args := #[] } :: a.defers } W)
    (hstop : ∀ (d : Code) (D : Nat) (O : Nat → Prop) (W : World), D = w.heap.size → Ix d O W → Keeps O0 w W → (∀ k, k < w.heap.size + 2 → O k → O0 k) → W.heap[D]? = some (.deferred (some [])) → d.wpIn Fence.wide n P Q { a with defers := { target := .collected D, args := #[] } :: a.defers } W) :
    (Code.rangeFunc g ps assign body).wpIn Fence.wide n P Q a w := by
  have hO0 := (hC .ret).lt _ _ _ h0
  refine wpIn_rangeFunc ?_
  intro fn hfn
  obtain ⟨rec, hrec⟩ : ∃ rec : LoopState → Option Code → Loop, rec = fun st pe => { state := st, pending := pe, fn, tmps := a.tmps, params := ps, assign, body, defers := w.heap.size } := ⟨_, rfl⟩
  obtain ⟨W1, hW1⟩ : ∃ W1, (w.alloc (.deferred (some []))).alloc (.loop (rec .ready none)) = W1 := ⟨_, rfl⟩
  have hL1 : W1.heap[w.heap.size + 1]? = some (.loop (rec .ready none)) := by
    rw [← hW1]; have := World.alloc_heap_new (w.alloc (.deferred (some []))) (.loop (rec .ready none)); rwa [World.size_alloc] at this
  have hK1 : W1.heap[w.heap.size]? = some (.deferred (some [])) := by
    rw [← hW1]; exact (Below.heap_alloc _ _ _ (by simp)).trans (World.alloc_heap_new w _)
  have hb1 : Below w.heap.size w W1 := by
    rw [← hW1]; exact ((Below.refl _ w).alloc (Nat.le_refl _) _).alloc (by simp) _
  have hs1 : W1.heap.size = w.heap.size + 2 := by rw [← hW1]; simp
  refine ⟨w.heap.size + 1, [{ target := .collected w.heap.size, args := #[] }], W1, { target := .fn (.func gf) lb, args := #[.func (.yield (w.heap.size + 1)) #[] #[]] }, W1, gf,
    #[.func (.yield (w.heap.size + 1)) #[] #[]] ++ lb, W1, ?_, ?_, ?_, ?_, (fun h => by cases h), ?_⟩
  · rw [← hW1, hrec]; exact run_enterLoop_outer _ _ _ _ _
  · simp only [resolve, hg]
    simp [go_sem]
  · intro f' _; trivial
  · simp [invoke, go_sem, eg]
  · refine (CallsIn.anyD (m := 0) (hseq (w.heap.size + 1)
      (fun Op pre W => ∃ O, (∀ k, Op k ↔ (O k ∨ k = w.heap.size + 1)) ∧ I O pre W ∧ W.heap[w.heap.size + 1]? = some (.loop (rec .ready none)) ∧ W.heap[w.heap.size]? = some (.deferred (some [])) ∧ (∀ k, k < w.heap.size + 2 → O k → O0 k) ∧ Keeps O0 w W)
      (fun Op W => ∃ O d, (∀ k, Op k ↔ (O k ∨ k = w.heap.size + 1)) ∧ Ix d O W ∧ W.heap[w.heap.size + 1]? = some (.loop (rec .done (some d))) ∧ W.heap[w.heap.size]? = some (.deferred (some [])) ∧ (∀ k, k < w.heap.size + 2 → O k → O0 k) ∧ Keeps O0 w W)
      (w.heap.size + 2) W1 (fun k => O0 k ∨ k = w.heap.size + 1) (hR _ hb1) (by omega) ?cons ?rnd
      ⟨O0, fun _ => Iff.rfl, (hC .ret).keep _ _ _ _ h0 (Keeps.of_all hb1), hL1, hK1, fun _ _ h => h, Keeps.of_all hb1⟩)).mono ?_
    case cons =>
      refine ⟨?_, ?_, ?_, ?_⟩
      · rintro Op s A ⟨O, ho, hi, hl, hd, hm, hk⟩ k hk2
        rcases (ho k).1 hk2 with h | rfl
        · exact (hC .ret).lt _ _ _ hi k h
        · exact ⟨(Array.getElem?_eq_some_iff.1 hl).1, fun ht => by have := hT _ ht; omega⟩
      · rintro Op A ⟨O, d, ho, hi, hl, hd, hm, hk⟩ k hk2
        rcases (ho k).1 hk2 with h | rfl
        · exact (hC d).ltx _ _ hi k h
        · exact ⟨(Array.getElem?_eq_some_iff.1 hl).1, fun ht => by have := hT _ ht; omega⟩
      · rintro Op s A B ⟨O, ho, hi, hl, hd, hm, hk⟩ hb
        refine ⟨O, ho, (hC .ret).keep _ _ _ _ hi (hb.mono (fun k _ e => ⟨by omega, fun h => e.2 ((ho k).2 (Or.inl h))⟩)), (hb.block _ (Array.getElem?_eq_some_iff.1 hl).1 (fun e => by omega)).trans hl, (hb.block _ (Array.getElem?_eq_some_iff.1 hd).1 (fun e => by omega)).trans hd, hm, ?_⟩
        exact ⟨hb.os.trans hk.os, hb.tape.trans hk.tape, hb.output.trans hk.output, Nat.le_trans hk.size hb.size, fun i hi2 hx => (hb.block i (Nat.lt_of_lt_of_le hi2 hk.size) (fun e => by omega)).trans (hk.block i hi2 hx)⟩
      · rintro Op A B ⟨O, d, ho, hi, hl, hd, hm, hk⟩ hb
        refine ⟨O, d, ho, (hC d).keepx _ _ _ hi (hb.mono (fun k _ e => ⟨by omega, fun h => e.2 ((ho k).2 (Or.inl h))⟩)), (hb.block _ (Array.getElem?_eq_some_iff.1 hl).1 (fun e => by omega)).trans hl, (hb.block _ (Array.getElem?_eq_some_iff.1 hd).1 (fun e => by omega)).trans hd, hm, ?_⟩
        exact ⟨hb.os.trans hk.os, hb.tape.trans hk.tape, hb.output.trans hk.output, Nat.le_trans hk.size hb.size, fun i hi2 hx => (hb.block i (Nat.lt_of_lt_of_le hi2 hk.size) (fun e => by omega)).trans (hk.block i hi2 hx)⟩
    case rnd =>
      rintro Op pre x args W ⟨O, ho, hi, hl, hk, hm, hkp⟩ hpre hG hsz0
      have hlt : w.heap.size + 1 < W.heap.size := (Array.getElem?_eq_some_iff.1 hl).1
      have hOl : ¬ O (w.heap.size + 1) := fun h => by have := (hO0 _ (hm _ (by omega) h)).1; omega
      have hOd : ¬ O w.heap.size := fun h => by have := (hO0 _ (hm _ (by omega) h)).1; omega
      have hy := run_yield (P := P) (args := args) hl (by rw [hrec]; exact hps x args W hG)
      rw [hrec] at hy
      refine YieldAt.anyD (m := n) ⟨fn, _, assign, body, hy, roundIn_of_wpIn hfn (wpIn_mono (hround (w.heap.size + 1) O pre x args W rfl ⟨_, hl⟩ hi hOl hkp (fun k hk2 h => hm k (by omega) h) hpre hG (by omega)) ?_)⟩
      rintro e a' Wa hp
      cases e with
      | normal =>
        obtain ⟨hka, hb⟩ := hp
        have hla := (hka.block _ hlt).trans hl
        have hda := (hka.block _ (by omega)).trans hk
        have hlta : w.heap.size + 1 < Wa.heap.size := (Array.getElem?_eq_some_iff.1 hla).1
        refine ⟨_, run_beginRound hla (by rw [hrec]), ?_⟩
        obtain ⟨Wb, hWb⟩ : ∃ Wb, Wa.putObj (w.heap.size + 1) (.loop { rec .ready none with state := .busy }) = Wb := ⟨_, rfl⟩
        have hl2 : Wb.heap[w.heap.size + 1]? = some (.loop { rec .ready none with state := .busy }) := by rw [← hWb]; exact World.putObj_heap_same hlta
        have hk2 : Wb.heap[w.heap.size]? = some (.deferred (some [])) := by rw [← hWb]; exact (World.putObj_heap_other (by omega)).trans hda
        have hkb : Keeps (fun k => k = w.heap.size + 1) Wa Wb := by rw [← hWb]; exact Keeps.put (X := fun k => k = w.heap.size + 1) (Keeps.refl _ Wa) (l := w.heap.size + 1) rfl _
        have hsz := hkb.size
        have hszA := hka.size
        rw [hWb]
        refine wpIn_mono (hb _ hkb ⟨_, hl2⟩) ?_
        have fin : ∀ (W3 : World) (O' : Nat → Prop), Keeps O Wb W3 → (∀ k, k < Wb.heap.size → O' k → O k) → ∀ (st : LoopState) (pe : Option Code),
            (W3.heap[w.heap.size + 1]? = some (.loop { rec .ready none with state := .busy })) ∧ (W3.heap[w.heap.size]? = some (.deferred (some []))) ∧
            (∀ k, k < W.heap.size → (O' k ∨ k = w.heap.size + 1) → Op k) ∧ (∀ k, k < w.heap.size + 2 → O' k → O0 k) ∧ ¬ O' (w.heap.size + 1) ∧ Keeps O0 w (W3.putObj (w.heap.size + 1) (.loop (rec st pe))) ∧ Keeps Op W (W3.putObj (w.heap.size + 1) (.loop (rec st pe))) := by
          intro W3 O' hk3 hm3 st pe
          have hl3 := (hk3.block _ (by omega) hOl).trans hl2
          have hd3 := (hk3.block _ (by omega) hOd).trans hk2
          have kA : Keeps Op W Wa := Keeps.of_all hka
          have kB : Keeps Op W Wb := kA.trans (hkb.mono (fun k _ e => (ho k).2 (Or.inr e)))
          have k3 : Keeps Op W W3 := kB.trans (hk3.mono (fun k _ e => (ho k).2 (Or.inl e)))
          have kP : Keeps Op W (W3.putObj (w.heap.size + 1) (.loop (rec st pe))) := k3.put ((ho _).2 (Or.inr rfl)) _
          refine ⟨hl3, hd3, ?_, ?_, ?_, ?_, kP⟩
          · rintro k hk4 (h | rfl)
            · exact (ho k).2 (Or.inl (hm3 k (by omega) h))
            · exact (ho _).2 (Or.inr rfl)
          · intro k hk4 h
            exact hm k hk4 (hm3 k (by omega) h)
          · intro h
            exact hOl (hm3 _ (by omega) h)
          · refine ⟨kP.os.trans hkp.os, kP.tape.trans hkp.tape, kP.output.trans hkp.output, Nat.le_trans hkp.size kP.size, fun i hi2 hx => (kP.block i (Nat.lt_of_lt_of_le hi2 hkp.size) (fun e => ?_)).trans (hkp.block i hi2 hx)⟩
            rcases (ho i).1 e with h | rfl
            · exact hx (hm i (by omega) h)
            · omega
        rintro e a3 W3 hp
        cases e with
        | normal =>
          obtain ⟨hk3, O', hm3, hi3⟩ := hp
          obtain ⟨hl3, hd3, g1, g2, g3, g4, g5⟩ := fin W3 O' hk3 hm3 .ready none
          have hr := run_endRound (P := P) none hl3
          have hlt3 : w.heap.size + 1 < W3.heap.size := (Array.getElem?_eq_some_iff.1 hl3).1
          rw [hrec] at hr
          rw [hrec] at g4 g5
          refine ⟨_, _, hr, g5, fun k => O' k ∨ k = w.heap.size + 1, g1, .inl ⟨rfl, O', fun _ => Iff.rfl, (hC .ret).keep _ _ W3 _ hi3 ?_, ?_, ?_, g2, g4⟩⟩
          · exact Keeps.put (Keeps.refl _ W3) (l := w.heap.size + 1) ⟨by omega, g3⟩ _
          · rw [hrec]; exact World.putObj_heap_same hlt3
          · exact (World.putObj_heap_other (by omega)).trans hd3
        | ret =>
          obtain ⟨hk3, O', hm3, hi3⟩ := hp
          obtain ⟨hl3, hd3, g1, g2, g3, g4, g5⟩ := fin W3 O' hk3 hm3 .done (some .ret)
          have hr := run_endRound (P := P) (some .ret) hl3
          have hlt3 : w.heap.size + 1 < W3.heap.size := (Array.getElem?_eq_some_iff.1 hl3).1
          rw [hrec] at hr
          rw [hrec] at g4 g5
          refine ⟨_, _, hr, g5, fun k => O' k ∨ k = w.heap.size + 1, g1, .inr ⟨rfl, O', .ret, fun _ => Iff.rfl, (hC .ret).keepx _ W3 _ hi3 ?_, ?_, ?_, g2, g4⟩⟩
          · exact Keeps.put (Keeps.refl _ W3) (l := w.heap.size + 1) ⟨by omega, g3⟩ _
          · rw [hrec]; exact World.putObj_heap_same hlt3
          · exact (World.putObj_heap_other (by omega)).trans hd3
        | exit id =>
          obtain ⟨hk3, O', hm3, hi3⟩ := hp
          obtain ⟨hl3, hd3, g1, g2, g3, g4, g5⟩ := fin W3 O' hk3 hm3 .done (some (.exit id))
          have hr := run_endRound (P := P) (some (.exit id)) hl3
          have hlt3 : w.heap.size + 1 < W3.heap.size := (Array.getElem?_eq_some_iff.1 hl3).1
          rw [hrec] at hr
          rw [hrec] at g4 g5
          refine ⟨_, _, hr, g5, fun k => O' k ∨ k = w.heap.size + 1, g1, .inr ⟨rfl, O', .exit id, fun _ => Iff.rfl, (hC (.exit id)).keepx _ W3 _ hi3 ?_, ?_, ?_, g2, g4⟩⟩
          · exact Keeps.put (Keeps.refl _ W3) (l := w.heap.size + 1) ⟨by omega, g3⟩ _
          · rw [hrec]; exact World.putObj_heap_same hlt3
          · exact (World.putObj_heap_other (by omega)).trans hd3
        | goto t => exact hp.elim
        | panic ch => exact hp.elim
        | outgrown => exact hp.elim
      | ret => exact hp.elim
      | exit id => exact hp.elim
      | goto t => exact hp.elim
      | panic ch => exact hp.elim
      | outgrown => exact hp.elim
    · rintro e W2 ⟨⟨v, rfl⟩, _, Op, _, h2⟩
      rcases h2 with ⟨O, ho, hi, hl, hk, hm, hkp⟩ | ⟨O, d, ho, hi, hl, hk, hm, hkp⟩
      · have hOl : ¬ O (w.heap.size + 1) := fun h => by have := (hO0 _ (hm _ (by omega) h)).1; omega
        have hlt2 : w.heap.size + 1 < W2.heap.size := (Array.getElem?_eq_some_iff.1 hl).1
        refine ⟨none, _, by have := run_endLoop (P := P) hl (by rw [hrec]; simp); rw [hrec] at this; exact this, hdone _ O _ rfl ((hC .ret).keep _ _ W2 _ hi ?_) ?_ hm ((World.putObj_heap_other (by omega)).trans hk)⟩
        · exact Keeps.put (Keeps.refl _ W2) (l := w.heap.size + 1) ⟨by omega, hOl⟩ _
        · exact hkp.thenPut (by omega) _
      · have hOl : ¬ O (w.heap.size + 1) := fun h => by have := (hO0 _ (hm _ (by omega) h)).1; omega
        have hlt2 : w.heap.size + 1 < W2.heap.size := (Array.getElem?_eq_some_iff.1 hl).1
        refine ⟨some d, _, by have := run_endLoop (P := P) hl (by rw [hrec]; simp); rw [hrec] at this; exact this, hstop d _ O _ rfl ((hC d).keepx _ W2 _ hi ?_) ?_ hm ((World.putObj_heap_other (by omega)).trans hk)⟩
        · exact Keeps.put (Keeps.refl _ W2) (l := w.heap.size + 1) ⟨by omega, hOl⟩ _
        · exact hkp.thenPut (by omega) _


end Go.Proofs.YtdmlamnonbmboaaGreatDoor
