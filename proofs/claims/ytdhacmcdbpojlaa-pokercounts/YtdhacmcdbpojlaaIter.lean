/-
  A range over a function whose rounds never stop it: what the caller knows of its own cells goes from round to round; the iterator may hold memory of its own and hand out what lies in it. No conditions beyond those that each theorem bears.
-/
import Derived.Test.YtdhacmcdbpojlaaBase
import Derived.RangeFuncNested
import Derived.RangeFuncBound
import Derived.RangeFuncCalls
import Derived.RangeFuncLeaves
import Derived.Shelf.Abstract
import Derived.Shelf.RegionOpen
import Derived.WalkKit
import Derived.OwnWalkIn
import Derived.TacticsInMore
import Derived.LoopNIn
import Derived.LoopIn
namespace Go.Proofs.Ytdhacmcdbpojlaa
open Go.RowKit Go.Shelf

/-- Of the blocks that there were, those that X does not name are as they were. -/
structure Keeps (X : Nat → Prop) (w w' : World) : Prop where
  os : w'.os = w.os
  tape : w'.tape = w.tape
  output : w'.output = w.output
  size : w.heap.size ≤ w'.heap.size
  block : ∀ k, k < w.heap.size → ¬ X k → w'.heap[k]? = w.heap[k]?

theorem Keeps.refl (X : Nat → Prop) (w : World) : Keeps X w w := ⟨rfl, rfl, rfl, Nat.le_refl _, fun _ _ _ => rfl⟩

theorem Keeps.trans {X : Nat → Prop} {a b c : World} (h : Keeps X a b) (k : Keeps X b c) : Keeps X a c :=
  ⟨k.os.trans h.os, k.tape.trans h.tape, k.output.trans h.output, Nat.le_trans h.size k.size, fun i hi hx => (k.block i (Nat.lt_of_lt_of_le hi h.size) hx).trans (h.block i hi hx)⟩

theorem Keeps.mono {X Y : Nat → Prop} {a b : World} (h : Keeps X a b) (hs : ∀ k, k < a.heap.size → X k → Y k) : Keeps Y a b :=
  ⟨h.os, h.tape, h.output, h.size, fun i hi hx => h.block i hi (fun k => hx (hs i hi k))⟩

theorem Keeps.of_below {B : Nat} {a b : World} (h : Below B a b) : Keeps (fun k => B ≤ k) a b :=
  ⟨h.os, h.tape, h.output, h.size, fun i _ hx => h.block i (Nat.lt_of_not_le hx)⟩

theorem Keeps.below {X : Nat → Prop} {B : Nat} {a b : World} (h : Keeps X a b) (hB : B ≤ a.heap.size) (hX : ∀ k, k < B → ¬ X k) : Below B a b :=
  ⟨h.os, h.tape, h.output, h.size, fun i hi => h.block i (Nat.lt_of_lt_of_le hi hB) (hX i hi)⟩

theorem Keeps.of_all {X : Nat → Prop} {a b : World} (h : Below a.heap.size a b) : Keeps X a b :=
  ⟨h.os, h.tape, h.output, h.size, fun i hi _ => h.block i hi⟩

theorem Keeps.drew {X : Nat → Prop} {a b : World} (h : Keeps X a b) : Keeps X a b.drew := ⟨h.os, h.tape, h.output, h.size, h.block⟩

theorem Keeps.alloc {X : Nat → Prop} {a b : World} (h : Keeps X a b) (o : Obj) : Keeps X a (b.alloc o) :=
  h.trans (Keeps.of_all ((Below.refl _ b).alloc (Nat.le_refl _) o))

theorem Keeps.setCell {X : Nat → Prop} {a b : World} (h : Keeps X a b) {p : Addr} (hp : X p.block) (u : Value) : Keeps X a (b.setCell p u) :=
  h.trans ⟨rfl, rfl, rfl, by simp [World.setCell], fun k _ hx => Below.heap_setCell _ _ _ _ (fun e => hx (e ▸ hp))⟩

theorem Keeps.setNew {X : Nat → Prop} {a b : World} (h : Keeps X a b) {p : Addr} (hp : a.heap.size ≤ p.block) (u : Value) : Keeps X a (b.setCell p u) :=
  ⟨h.os, h.tape, h.output, Nat.le_trans h.size (by simp [World.setCell]), fun k hk hx => (Below.heap_setCell _ _ _ _ (by omega)).trans (h.block k hk hx)⟩

theorem Keeps.put {X : Nat → Prop} {a b : World} (h : Keeps X a b) {l : Nat} (hp : X l) (o : Obj) : Keeps X a (b.putObj l o) := by
  refine h.trans ⟨rfl, rfl, rfl, ?_, fun k _ hx => ?_⟩
  · exact (grownBy_putObj' b l o).size
  · exact World.putObj_heap_other (fun e => hx (e ▸ hp))

theorem Keeps.cell {X : Nat → Prop} {w w' : World} (h : Keeps X w w') {p : Addr} {v : Value} (hc : w.cell? p = some v) (hp : ¬ X p.block) : w'.cell? p = some v :=
  (World.cell?_of_block (w := w) (h.block p.block (World.block_lt_of_cell? w _ hc) hp)).trans hc

theorem Keeps.frozen {X : Nat → Prop} {w w' : World} (h : Keeps X w w') {p : Addr} (hlt : p.block < w.heap.size) (hp : ¬ X p.block) : w'.frozen? p = w.frozen? p :=
  World.frozen?_of_block (w := w) (h.block p.block hlt hp)

theorem cell_ne_loop {W : World} {l : Nat} {r : Loop} (hl : W.heap[l]? = some (.loop r)) {p : Addr} {v : Value} (hc : W.cell? p = some v) : ¬ p.block = l := by
  intro e
  simp [World.cell?, e, hl] at hc

/-- The iterator g, with what it has captured, hands out xs, one by one, to whatever rounds there are that do not stop it. 'G x args W': these arguments, in that world, stand for x. 'R': what it reads. -/
def SeqAll {α : Type} (P : Program) (g : Nat) (lb : Array Value) (G : α → Array Value → World → Prop) (xs : List α) (R : World → Prop) : Prop :=
  ∀ (l : Nat) (X : Nat → Prop) (J : List α → World → Prop) (W : World), R W → (∀ A B, R A → Keeps X A B → R B) → (∀ k, X k → k < W.heap.size) →
    (∀ s A B, J s A → Below W.heap.size A B → J s B) →
    (∀ pre x args W1, J pre W1 → (pre ++ [x]) <+: xs → G x args W1 → YieldAt Fence.wide 0 P l args W1 fun e W' => e = .returned (.bool true) ∧ J (pre ++ [x]) W' ∧ Keeps X W1 W') →
    J [] W →
    CallsIn Fence.wide 0 P g (#[.func (.yield l) #[] #[]] ++ lb) W fun e W' => (∃ v, e = .returned v) ∧ J xs W'

/-- How the body of such a round is left: off its end alone. -/
def allPost {α : Type} (X : Nat → Prop) (I : List α → World → Prop) (xs : List α) (W : World) : Exit → Act → World → Prop
  | .normal, _, W' => Keeps X W W' ∧ I xs W'
  | _, _, _ => False

theorem YieldAt.anyD {m m' : Nat} {P : Program} {l : Nat} {args : Array Value} {W : World} {R : Ending → World → Prop} (h : YieldAt Fence.wide m P l args W R) : YieldAt Fence.wide m' P l args W R := by
  obtain ⟨fn, tmps, assign, body, hy, hF, hR⟩ := h
  exact ⟨fn, tmps, assign, body, hy, hF, fun c cs _ => hR c cs (fun d hd => by cases hd)⟩

theorem CallsIn.anyD {m m' : Nat} {P : Program} {f : FuncId} {args : Array Value} {W : World} {R : Ending → World → Prop} (h : CallsIn Fence.wide m P f args W R) : CallsIn Fence.wide m' P f args W R :=
  callsIn_wide.2 (callsIn_wide.1 h)

/-- The law: outermost loops ('round = none') and loops within a round alike are laid by 'enterLoop'; here: outermost. -/
theorem wp_range_all {α : Type} {P : Program} {n : Nat} {g : Operand} {ps : Array Tmp} {assign body : Code} {Q : Exit → Act → World → Prop} {a : Act} {w : World}
    {gf : Nat} {lb : Array Value} (hg : a.eval g = .func (.func gf) #[] lb) (eg : ∀ args w, (callFunc gf args).run P w = .ok (.enter gf args) w)
    {G : α → Array Value → World → Prop} {xs : List α} {R : World → Prop} (hseq : SeqAll P gf lb G xs R)
    (X : Nat → Prop) (hX : ∀ k, X k → k < w.heap.size) (hR : R w) (hRk : ∀ l A B, w.heap.size ≤ l → R A → Keeps (fun k => X k ∨ k = l) A B → R B) (hps : ∀ x args W, G x args W → args.size = ps.size)
    (I : List α → World → Prop) (hI : ∀ s A B, I s A → Below w.heap.size A B → I s B) (h0 : I [] w)
    (hround : ∀ (l : Nat) (pre : List α) (x : α) (args : Array Value) (W : World), w.heap.size ≤ l → (∃ r, W.heap[l]? = some (.loop r)) → I pre W → (pre ++ [x]) <+: xs → G x args W →
      assign.wpIn (Fence.wide.inRound l) n P (Exit.then (fun a' W' => Keeps X W W' ∧ ∀ W'', Keeps (fun k => k = l) W' W'' → body.wpIn (Fence.wide.inRound l) n P (allPost X I (pre ++ [x]) W'') a' W'') (fun _ _ _ => False))
        { tmps := (ps.zip args).foldl (fun t (p, v) => t.setIfInBounds p v) a.tmps, defers := [] } W)
    (hdone : ∀ (D : Nat) (W : World), w.heap.size ≤ D → I xs W → W.heap[D]? = some (.deferred (some [])) → Q .normal { a with defers := { target := .collected D, args := #[] } :: a.defers } W) :
    (Code.rangeFunc g ps assign body).wpIn Fence.wide n P Q a w := by
  refine wpIn_rangeFunc ?_
  intro fn hfn
  obtain ⟨rec, hrec⟩ : ∃ rec : LoopState → Option Code → Loop, rec = fun st pe => { state := st, pending := pe, fn, tmps := a.tmps, params := ps, assign, body, defers := w.heap.size } := ⟨_, rfl⟩
  obtain ⟨W1, hW1⟩ : ∃ W1, (w.alloc (.deferred (some []))).alloc (.loop (rec .ready none)) = W1 := ⟨_, rfl⟩
  have hL1 : W1.heap[w.heap.size + 1]? = some (.loop (rec .ready none)) := by
    rw [← hW1]; have := World.alloc_heap_new (w.alloc (.deferred (some []))) (.loop (rec .ready none)); rwa [World.size_alloc] at this
  have hK1 : W1.heap[w.heap.size]? = some (.deferred (some [])) := by
    rw [← hW1]; exact (Below.heap_alloc _ _ _ (by simp)).trans (World.alloc_heap_new w _)
  have hb1 : Below w.heap.size w W1 := by
    rw [← hW1]; exact ((Below.refl _ w).alloc (Nat.le_refl _) _).alloc (by simp) _
  have hs1 : W1.heap.size = w.heap.size + 2 := by rw [← hW1]; simp
  refine ⟨w.heap.size + 1, [{ target := .collected w.heap.size, args := #[] }], W1, { target := .fn (.func gf) lb, args := #[.func (.yield (w.heap.size + 1)) #[] #[]] }, W1, gf,
    #[.func (.yield (w.heap.size + 1)) #[] #[]] ++ lb, W1, ?_, ?_, ?_, ?_, (fun h => by cases h), ?_⟩
  · rw [← hW1, hrec]; exact run_enterLoop_outer _ _ _ _ _
  · simp only [resolve, hg]
    simp [go_sem]
  · intro f' _; trivial
  · simp [invoke, go_sem, eg]
  · refine (CallsIn.anyD (m := 0) (hseq (w.heap.size + 1) (fun k => X k ∨ k = w.heap.size + 1)
      (fun pre W => I pre W ∧ W.heap[w.heap.size + 1]? = some (.loop (rec .ready none)) ∧ W.heap[w.heap.size]? = some (.deferred (some [])))
      W1 (hRk (w.heap.size + 1) w W1 (by omega) hR (Keeps.of_all hb1)) (fun A B hA hk => hRk (w.heap.size + 1) A B (by omega) hA hk)
      (fun k hk => by rcases hk with hk | hk; · have := hX k hk; omega
                      · omega)
      (fun s A B hs hb => ⟨hI s A B hs.1 (hb.mono (by omega)), (hb.block _ (by omega)).trans hs.2.1, (hb.block _ (by omega)).trans hs.2.2⟩)
      ?_ ⟨hI _ _ _ h0 hb1, hL1, hK1⟩)).mono ?_
    · rintro pre x args W ⟨hi, hl, hk⟩ hpre hG
      have hlt : w.heap.size + 1 < W.heap.size := (Array.getElem?_eq_some_iff.1 hl).1
      have hy := run_yield (P := P) (args := args) hl (by rw [hrec]; exact hps x args W hG)
      rw [hrec] at hy
      refine YieldAt.anyD (m := n) ⟨fn, _, assign, body, hy, roundIn_of_wpIn hfn (wpIn_mono (hround (w.heap.size + 1) pre x args W (by omega) ⟨_, hl⟩ hi hpre hG) ?_)⟩
      rintro e a' Wa hp
      cases e with
      | normal =>
        obtain ⟨hka, hb⟩ := hp
        have hla := (hka.block _ hlt (fun hx => by have := hX _ hx; omega)).trans hl
        have hda := (hka.block _ (by omega) (fun hx => by have := hX _ hx; omega)).trans hk
        have hlta : w.heap.size + 1 < Wa.heap.size := (Array.getElem?_eq_some_iff.1 hla).1
        refine ⟨_, run_beginRound hla (by rw [hrec]), ?_⟩
        obtain ⟨Wb, hWb⟩ : ∃ Wb, Wa.putObj (w.heap.size + 1) (.loop { rec .ready none with state := .busy }) = Wb := ⟨_, rfl⟩
        have hl2 : Wb.heap[w.heap.size + 1]? = some (.loop { rec .ready none with state := .busy }) := by rw [← hWb]; exact World.putObj_heap_same hlta
        have hk2 : Wb.heap[w.heap.size]? = some (.deferred (some [])) := by rw [← hWb]; exact (World.putObj_heap_other (by omega)).trans hda
        have hkb : Keeps (fun k => k = w.heap.size + 1) Wa Wb := by rw [← hWb]; exact Keeps.put (X := fun k => k = w.heap.size + 1) (Keeps.refl _ Wa) (l := w.heap.size + 1) rfl _
        have hsz := hkb.size
        rw [hWb]
        refine wpIn_mono (hb _ hkb) ?_
        rintro e a3 W3 hp
        cases e with
        | normal =>
          obtain ⟨hk3, hi3⟩ := hp
          have hl3 := (hk3.block _ (by omega) (fun hx => by have := hX _ hx; omega)).trans hl2
          have hd3 := (hk3.block _ (by omega) (fun hx => by have := hX _ hx; omega)).trans hk2
          have hr := run_endRound (P := P) none hl3
          have hlt3 : w.heap.size + 1 < W3.heap.size := (Array.getElem?_eq_some_iff.1 hl3).1
          rw [hrec] at hr
          refine ⟨_, _, hr, rfl, ⟨hI _ W3 _ hi3 ?_, ?_, ?_⟩, ?_⟩
          · exact (Below.refl w.heap.size W3).grown (grownBy_putObj' W3 _ _) (by omega) (fun k e => by cases e; omega)
          · rw [hrec]; exact World.putObj_heap_same hlt3
          · exact (World.putObj_heap_other (by omega)).trans hd3
          · have k1 : Keeps (fun k => X k ∨ k = w.heap.size + 1) W Wa := hka.mono (fun _ _ h => .inl h)
            have k2 : Keeps (fun k => X k ∨ k = w.heap.size + 1) W Wb := k1.trans (hkb.mono (fun _ _ h => .inr h))
            have k3 : Keeps (fun k => X k ∨ k = w.heap.size + 1) Wb W3 := hk3.mono (fun _ _ h => .inl h)
            exact (k2.trans k3).put (.inr rfl) _
        | ret => exact hp.elim
        | exit id => exact hp.elim
        | goto t => exact hp.elim
        | panic ch => exact hp.elim
        | outgrown => exact hp.elim
      | ret => exact hp.elim
      | exit id => exact hp.elim
      | goto t => exact hp.elim
      | panic ch => exact hp.elim
      | outgrown => exact hp.elim
    · rintro e W2 ⟨⟨v, rfl⟩, hi, hl, hk⟩
      have hlt2 : w.heap.size + 1 < W2.heap.size := (Array.getElem?_eq_some_iff.1 hl).1
      refine ⟨none, _, by have := run_endLoop (P := P) hl (by rw [hrec]; simp); rw [hrec] at this; exact this, hdone _ _ (Nat.le_refl _) (hI _ W2 _ hi ?_) ((World.putObj_heap_other (by omega)).trans hk)⟩
      exact (Below.refl w.heap.size W2).grown (grownBy_putObj' W2 _ _) (by omega) (fun k e => by cases e; omega)

end Go.Proofs.Ytdhacmcdbpojlaa
