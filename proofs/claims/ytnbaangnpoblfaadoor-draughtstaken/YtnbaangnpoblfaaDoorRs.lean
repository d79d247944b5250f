/-
  A range over a function that changes blocks of its caller's between the rounds and puts them back; its rounds may return. No conditions beyond those that each theorem bears.
-/
import Derived.Test.YtnbaangnpoblfaaDoorRound
namespace Go.Proofs.YtnbaangnpoblfaaDoor
open Go.RowKit Go.Shelf

/-- The iterator g, with what it has captured, hands out xs, one by one; a round may stop it. 'G x args W': these arguments, in that world, stand for x. 'R': what it reads and leaves, in the blocks T; between the rounds it changes the blocks Y. -/
def SeqSt {α : Type} (P : Program) (g : Nat) (lb : Array Value) (G : α → Array Value → World → Prop) (xs : List α) (R : World → Prop) (T Y : Nat → Prop) : Prop :=
  ∀ (l : Nat) (X : Nat → Prop) (J : List α → World → Prop) (Jx : World → Prop) (W : World), R W → (∀ k, X k → ¬ T k) →
    (∀ s A B, J s A → Keeps (fun k => Y k ∨ W.heap.size ≤ k) A B → J s B) → (∀ A B, Jx A → Keeps (fun k => Y k ∨ W.heap.size ≤ k) A B → Jx B) →
    (∀ pre x args W1, J pre W1 → (pre ++ [x]) <+: xs → G x args W1 → YieldAt Fence.wide 0 P l args W1 fun e W' => ((e = .returned (.bool true) ∧ J (pre ++ [x]) W') ∨ (e = .returned (.bool false) ∧ Jx W')) ∧ Keeps X W1 W') →
    J [] W →
    CallsIn Fence.wide 0 P g (#[.func (.yield l) #[] #[]] ++ lb) W fun e W' => (∃ v, e = .returned v) ∧ R W' ∧ (J xs W' ∨ Jx W')

/-- How the body of such a round is left: off its end, or by a return. -/
def stPost {α : Type} (X : Nat → Prop) (I : List α → World → Prop) (Ix : World → Prop) (xs : List α) (W : World) : Exit → Act → World → Prop
  | .normal, _, W' => Keeps X W W' ∧ I xs W'
  | .ret, _, W' => Keeps X W W' ∧ Ix W'
  | _, _, _ => False

theorem CallsIn.anyD {m m' : Nat} {P : Program} {f : FuncId} {args : Array Value} {W : World} {R : Ending → World → Prop} (h : CallsIn Fence.wide m P f args W R) : CallsIn Fence.wide m' P f args W R :=
  callsIn_wide.2 (callsIn_wide.1 h)

theorem wp_range_st {α : Type} {P : Program} {n : Nat} {g : Operand} {ps : Array Tmp} {assign body : Code} {Q : Exit → Act → World → Prop} {a : Act} {w : World}
    {gf : Nat} {lb : Array Value} (hg : a.eval g = .func (.func gf) #[] lb) (eg : ∀ args w, (callFunc gf args).run P w = .ok (.enter gf args) w)
    {G : α → Array Value → World → Prop} {xs : List α} {R : World → Prop} {T Y : Nat → Prop} (hseq : SeqSt P gf lb G xs R T Y)
    (hT : ∀ k, T k → k < w.heap.size) (hY : ∀ k, Y k → k < w.heap.size) (hRk : ∀ A B, R A → Keeps (fun k => ¬ T k) A B → R B) (hR : R w)
    (X : Nat → Prop) (hX : ∀ k, X k → k < w.heap.size ∧ ¬ T k) (hps : ∀ x args W, G x args W → args.size = ps.size)
    (I : List α → World → Prop) (Ix : World → Prop) (hI : ∀ s A B, I s A → Keeps (fun k => Y k ∨ w.heap.size ≤ k) A B → I s B) (hIx : ∀ A B, Ix A → Keeps (fun k => Y k ∨ w.heap.size ≤ k) A B → Ix B) (h0 : I [] w)
    (hround : ∀ (l : Nat) (pre : List α) (x : α) (args : Array Value) (W : World), w.heap.size ≤ l → (∃ r, W.heap[l]? = some (.loop r)) → I pre W → (pre ++ [x]) <+: xs → G x args W →
      assign.wpIn (Fence.wide.inRound l) n P (Exit.then (fun a' W' => Keeps X W W' ∧ ∀ W'', Keeps (fun k => k = l) W' W'' → body.wpIn (Fence.wide.inRound l) n P (stPost X I Ix (pre ++ [x]) W'') a' W'') (fun _ _ _ => False))
        { tmps := (ps.zip args).foldl (fun t (p, v) => t.setIfInBounds p v) a.tmps, defers := [] } W)
    (hdone : ∀ (D : Nat) (W : World), w.heap.size ≤ D → I xs W → R W → W.heap[D]? = some (.deferred (some [])) → Q .normal { a with defers := { target := .collected D, args := #[] } :: a.defers } W)
    (hstop : ∀ (D : Nat) (W : World), w.heap.size ≤ D → Ix W → R W → W.heap[D]? = some (.deferred (some [])) → Code.ret.wpIn Fence.wide n P Q { a with defers := { target := .collected D, args := #[] } :: a.defers } W) :
    (Code.rangeFunc g ps assign body).wpIn Fence.wide n P Q a w := by
  refine wpIn_rangeFunc ?_
  intro fn hfn
  obtain ⟨rec, hrec⟩ : ∃ rec : LoopState → Option Code → Loop, rec = fun st pe => { state := st, pending := pe, fn, tmps := a.tmps, params := ps, assign, body, defers := w.heap.size } := ⟨_, rfl⟩
  obtain ⟨W1, hW1⟩ : ∃ W1, (w.alloc (.deferred (some []))).alloc (.loop (rec .ready none)) = W1 := ⟨_, rfl⟩
  have hL1 : W1.heap[w.heap.size + 1]? = some (.loop (rec .ready none)) := by
    rw [← hW1]; have := World.alloc_heap_new (w.alloc (.deferred (some []))) (.loop (rec .ready none)); rwa [World.size_alloc] at this
  have hK1 : W1.heap[w.heap.size]? = some (.deferred (some [])) := by
    rw [← hW1]; exact (Below.heap_alloc _ _ _ (by simp)).trans (World.alloc_heap_new w _)
  have hb1 : Below w.heap.size w W1 := by
    rw [← hW1]; exact ((Below.refl _ w).alloc (Nat.le_refl _) _).alloc (by simp) _
  have hs1 : W1.heap.size = w.heap.size + 2 := by rw [← hW1]; simp
  refine ⟨w.heap.size + 1, [{ target := .collected w.heap.size, args := #[] }], W1, { target := .fn (.func gf) lb, args := #[.func (.yield (w.heap.size + 1)) #[] #[]] }, W1, gf,
    #[.func (.yield (w.heap.size + 1)) #[] #[]] ++ lb, W1, ?_, ?_, ?_, ?_, (fun h => by cases h), ?_⟩
  · rw [← hW1, hrec]; exact run_enterLoop_outer _ _ _ _ _
  · simp only [resolve, hg]
    simp [go_sem]
  · intro f' _; trivial
  · simp [invoke, go_sem, eg]
  · refine (CallsIn.anyD (m := 0) (hseq (w.heap.size + 1) (fun k => X k ∨ k = w.heap.size + 1)
      (fun pre W => I pre W ∧ W.heap[w.heap.size + 1]? = some (.loop (rec .ready none)) ∧ W.heap[w.heap.size]? = some (.deferred (some [])))
      (fun W => Ix W ∧ W.heap[w.heap.size + 1]? = some (.loop (rec .done (some .ret))) ∧ W.heap[w.heap.size]? = some (.deferred (some [])))
      W1 (hRk w W1 hR (Keeps.of_all hb1))
      (fun k hk => by
        rcases hk with hk | hk
        · exact (hX k hk).2
        · intro ht; have := hT k ht; omega)
      (fun s A B hs hb => ⟨hI s A B hs.1 (hb.mono (fun k _ e => Or.imp id (fun h => by omega) e)),
        (hb.block _ (Array.getElem?_eq_some_iff.1 hs.2.1).1 (fun e => Or.elim e (fun e => absurd (hY _ e) (by omega)) (fun e => by omega))).trans hs.2.1,
        (hb.block _ (Array.getElem?_eq_some_iff.1 hs.2.2).1 (fun e => Or.elim e (fun e => absurd (hY _ e) (by omega)) (fun e => by omega))).trans hs.2.2⟩)
      (fun A B hs hb => ⟨hIx A B hs.1 (hb.mono (fun k _ e => Or.imp id (fun h => by omega) e)),
        (hb.block _ (Array.getElem?_eq_some_iff.1 hs.2.1).1 (fun e => Or.elim e (fun e => absurd (hY _ e) (by omega)) (fun e => by omega))).trans hs.2.1,
        (hb.block _ (Array.getElem?_eq_some_iff.1 hs.2.2).1 (fun e => Or.elim e (fun e => absurd (hY _ e) (by omega)) (fun e => by omega))).trans hs.2.2⟩)
      ?_ ⟨hI _ _ _ h0 (Keeps.of_all hb1), hL1, hK1⟩)).mono ?_
    · rintro pre x args W ⟨hi, hl, hk⟩ hpre hG
      have hlt : w.heap.size + 1 < W.heap.size := (Array.getElem?_eq_some_iff.1 hl).1
      have hy := run_yield (P := P) (args := args) hl (by rw [hrec]; exact hps x args W hG)
      rw [hrec] at hy
      refine YieldAt.anyD (m := n) ⟨fn, _, assign, body, hy, roundIn_of_wpIn hfn (wpIn_mono (hround (w.heap.size + 1) pre x args W (by omega) ⟨_, hl⟩ hi hpre hG) ?_)⟩
      rintro e a' Wa hp
      cases e with
      | normal =>
        obtain ⟨hka, hb⟩ := hp
        have hla := (hka.block _ hlt (fun hx => by have := hX _ hx; omega)).trans hl
        have hda := (hka.block _ (by omega) (fun hx => by have := hX _ hx; omega)).trans hk
        have hlta : w.heap.size + 1 < Wa.heap.size := (Array.getElem?_eq_some_iff.1 hla).1
        refine ⟨_, run_beginRound hla (by rw [hrec]), ?_⟩
        obtain ⟨Wb, hWb⟩ : ∃ Wb, Wa.putObj (w.heap.size + 1) (.loop { rec .ready none with state := .busy }) = Wb := ⟨_, rfl⟩
        have hl2 : Wb.heap[w.heap.size + 1]? = some (.loop { rec .ready none with state := .busy }) := by rw [← hWb]; exact World.putObj_heap_same hlta
        have hk2 : Wb.heap[w.heap.size]? = some (.deferred (some [])) := by rw [← hWb]; exact (World.putObj_heap_other (by omega)).trans hda
        have hkb : Keeps (fun k => k = w.heap.size + 1) Wa Wb := by rw [← hWb]; exact Keeps.put (X := fun k => k = w.heap.size + 1) (Keeps.refl _ Wa) (l := w.heap.size + 1) rfl _
        have hsz := hkb.size
        rw [hWb]
        refine wpIn_mono (hb _ hkb) ?_
        rintro e a3 W3 hp
        cases e with
        | normal =>
          obtain ⟨hk3, hi3⟩ := hp
          have hl3 := (hk3.block _ (by omega) (fun hx => by have := hX _ hx; omega)).trans hl2
          have hd3 := (hk3.block _ (by omega) (fun hx => by have := hX _ hx; omega)).trans hk2
          have hr := run_endRound (P := P) none hl3
          have hlt3 : w.heap.size + 1 < W3.heap.size := (Array.getElem?_eq_some_iff.1 hl3).1
          rw [hrec] at hr
          refine ⟨_, _, hr, .inl ⟨rfl, hI _ W3 _ hi3 ?_, ?_, ?_⟩, ?_⟩
          · exact Keeps.put (Keeps.refl _ W3) (l := w.heap.size + 1) (.inr (by omega)) _
          · rw [hrec]; exact World.putObj_heap_same hlt3
          · exact (World.putObj_heap_other (by omega)).trans hd3
          · have k1 : Keeps (fun k => X k ∨ k = w.heap.size + 1) W Wa := hka.mono (fun _ _ h => .inl h)
            have k2 : Keeps (fun k => X k ∨ k = w.heap.size + 1) W Wb := k1.trans (hkb.mono (fun _ _ h => .inr h))
            have k3 : Keeps (fun k => X k ∨ k = w.heap.size + 1) Wb W3 := hk3.mono (fun _ _ h => .inl h)
            exact (k2.trans k3).put (.inr rfl) _
        | ret =>
          obtain ⟨hk3, hi3⟩ := hp
          have hl3 := (hk3.block _ (by omega) (fun hx => by have := hX _ hx; omega)).trans hl2
          have hd3 := (hk3.block _ (by omega) (fun hx => by have := hX _ hx; omega)).trans hk2
          have hr := run_endRound (P := P) (some .ret) hl3
          have hlt3 : w.heap.size + 1 < W3.heap.size := (Array.getElem?_eq_some_iff.1 hl3).1
          rw [hrec] at hr
          refine ⟨_, _, hr, .inr ⟨rfl, hIx W3 _ hi3 ?_, ?_, ?_⟩, ?_⟩
          · exact Keeps.put (Keeps.refl _ W3) (l := w.heap.size + 1) (.inr (by omega)) _
          · rw [hrec]; exact World.putObj_heap_same hlt3
          · exact (World.putObj_heap_other (by omega)).trans hd3
          · have k1 : Keeps (fun k => X k ∨ k = w.heap.size + 1) W Wa := hka.mono (fun _ _ h => .inl h)
            have k2 : Keeps (fun k => X k ∨ k = w.heap.size + 1) W Wb := k1.trans (hkb.mono (fun _ _ h => .inr h))
            have k3 : Keeps (fun k => X k ∨ k = w.heap.size + 1) Wb W3 := hk3.mono (fun _ _ h => .inl h)
            exact (k2.trans k3).put (.inr rfl) _
        | exit id => exact hp.elim
        | goto t => exact hp.elim
        | panic ch => exact hp.elim
        | outgrown => exact hp.elim
      | ret => exact hp.elim
      | exit id => exact hp.elim
      | goto t => exact hp.elim
      | panic ch => exact hp.elim
      | outgrown => exact hp.elim
    · rintro e W2 ⟨⟨v, rfl⟩, hr2, h2⟩
      rcases h2 with ⟨hi, hl, hk⟩ | ⟨hi, hl, hk⟩
      · have hlt2 : w.heap.size + 1 < W2.heap.size := (Array.getElem?_eq_some_iff.1 hl).1
        refine ⟨none, _, by have := run_endLoop (P := P) hl (by rw [hrec]; simp); rw [hrec] at this; exact this, hdone _ _ (Nat.le_refl _) (hI _ W2 _ hi ?_) (hRk _ _ hr2 ?_) ((World.putObj_heap_other (by omega)).trans hk)⟩
        · exact Keeps.put (Keeps.refl _ W2) (l := w.heap.size + 1) (.inr (by omega)) _
        · exact Keeps.put (Keeps.refl _ W2) (l := w.heap.size + 1) (fun ht => by have := hT _ ht; omega) _
      · have hlt2 : w.heap.size + 1 < W2.heap.size := (Array.getElem?_eq_some_iff.1 hl).1
        refine ⟨some .ret, _, by have := run_endLoop (P := P) hl (by rw [hrec]; simp); rw [hrec] at this; exact this, hstop _ _ (Nat.le_refl _) (hIx W2 _ hi ?_) (hRk _ _ hr2 ?_) ((World.putObj_heap_other (by omega)).trans hk)⟩
        · exact Keeps.put (Keeps.refl _ W2) (l := w.heap.size + 1) (.inr (by omega)) _
        · exact Keeps.put (Keeps.refl _ W2) (l := w.heap.size + 1) (fun ht => by have := hT _ ht; omega) _

end Go.Proofs.YtnbaangnpoblfaaDoor
