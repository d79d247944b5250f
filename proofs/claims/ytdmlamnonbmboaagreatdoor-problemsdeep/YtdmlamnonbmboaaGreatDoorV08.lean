/-
  A range over a function that changes of memory only so many blocks of its own; its rounds may return or break, and keep what they have made. No conditions beyond those that each theorem bears.
  A region that draws its order and holds a call of the loop's body among its operations: a walk in one order, of what stays through all that is carried out. No conditions beyond those that each theorem bears.
-/
import Derived.Test.YtdmlamnonbmboaaGreatDoorV07
namespace Go.Proofs.YtdmlamnonbmboaaGreatDoor
open Go.RowKit Go.Shelf

/-- The iterator g, with what it has captured, hands out xs, one by one; a round may stop it. 'G x args W': these arguments, in that world, stand for x. 'R': what it reads and leaves, in the blocks T; it has the first c blocks behind its beginning for its own, and changes no other. -/
def SeqQ {α : Type} (P : Program) (g : Nat) (lb : Array Value) (G : α → Array Value → World → Prop) (xs : List α) (R : World → Prop) (T : Nat → Prop) (c : Nat) : Prop :=
  ∀ (l : Nat) (X : Nat → Prop) (J : List α → World → Prop) (Jx : World → Prop) (W : World), R W → (∀ k, X k → ¬ T k ∧ ¬ (W.heap.size ≤ k ∧ k < W.heap.size + c)) →
    (∀ s A B, J s A → Keeps (fun k => W.heap.size ≤ k ∧ k < W.heap.size + c) A B → J s B) → (∀ A B, Jx A → Keeps (fun k => W.heap.size ≤ k ∧ k < W.heap.size + c) A B → Jx B) →
    (∀ pre x args W1, J pre W1 → (pre ++ [x]) <+: xs → G x args W1 → W.heap.size + c ≤ W1.heap.size → YieldAt Fence.wide 0 P l args W1 fun e W' => ((e = .returned (.bool true) ∧ J (pre ++ [x]) W') ∨ (e = .returned (.bool false) ∧ Jx W')) ∧ Keeps X W1 W') →
    J [] W →
    CallsIn Fence.wide 0 P g (#[.func (.yield l) #[] #[]] ++ lb) W fun e W' => (∃ v, e = .returned v) ∧ R W' ∧ (J xs W' ∨ Jx W')

/-- How the body of such a round is left: off its end, by a return, or by a break. -/
def qPost {α : Type} (X : Nat → Prop) (I : List α → World → Prop) (Ix : Code → World → Prop) (xs : List α) (W : World) : Exit → Act → World → Prop
  | .normal, _, W' => Keeps X W W' ∧ I xs W'
  | .ret, _, W' => Keeps X W W' ∧ Ix .ret W'
  | .exit id, _, W' => Keeps X W W' ∧ Ix (.exit id) W'
  | _, _, _ => False

theorem wp_range_q {α : Type} {P : Program} {n : Nat} {g : Operand} {ps : Array Tmp} {assign body : Code} {Q : Exit → Act → World → Prop} {a : Act} {w : World}
    {gf : Nat} {lb : Array Value} (hg : a.eval g = .func (.func gf) #[] lb) (eg : ∀ args w, (callFunc gf args).run P w = .ok (.enter gf args) w)
    {G : α → Array Value → World → Prop} {xs : List α} {R : World → Prop} {T : Nat → Prop} {c : Nat} (hseq : SeqQ P gf lb G xs R T c)
    (hT : ∀ k, T k → k < w.heap.size) (hRk : ∀ A B, R A → Keeps (fun k => ¬ T k) A B → R B) (hR : R w)
    (X : Nat → Prop) (hX : ∀ k, X k → ¬ T k ∧ ¬ (w.heap.size ≤ k ∧ k < w.heap.size + 2 + c)) (hps : ∀ x args W, G x args W → args.size = ps.size)
    (I : List α → World → Prop) (Ix : Code → World → Prop) (hI : ∀ s A B, I s A → Keeps (fun k => w.heap.size ≤ k ∧ k < w.heap.size + 2 + c) A B → I s B) (hIx : ∀ d A B, Ix d A → Keeps (fun k => w.heap.size ≤ k ∧ k < w.heap.size + 2 + c) A B → Ix d B) (h0 : I [] w)
    (hround : ∀ (l : Nat) (pre : List α) (x : α) (args : Array Value) (W : World), l = w.heap.size + 1 → (∃ r, W.heap[l]? = some (.loop r)) → I pre W → (pre ++ [x]) <+: xs → G x args W → w.heap.size + 2 + c ≤ W.heap.size →
      assign.wpIn (Fence.wide.inRound l) n P (Exit.then (fun a' W' => Keeps X W W' ∧ ∀ W'', Keeps (fun k => k = l) W' W'' → body.wpIn (Fence.wide.inRound l) n P (qPost X I Ix (pre ++ [x]) W'') a' W'') (fun _ _ _ => False))
        { tmps := (ps.zip args).foldl (fun t (p, v) => t.setIfInBounds p v) a.tmps, defers := [] } W)
    (hdone : ∀ (D : Nat) (W : World), D = w.heap.size → I xs W → R W → W.heap[D]? = some (.deferred (some [])) → Q .normal { a with defers := { target := .collected D, args := #[] } :: a.defers } W)
    (hstop : ∀ (d : Code) (D : Nat) (W : World), D = w.heap.size → Ix d W → R W → W.heap[D]? = some (.deferred (some [])) → d.wpIn Fence.wide n P Q { a with defers := { target := .collected D, args := #[] } :: a.defers } W) :
    (Code.rangeFunc g ps assign body).wpIn Fence.wide n P Q a w := by
  refine wpIn_rangeFunc ?_
  intro fn hfn
  obtain ⟨rec, hrec⟩ : ∃ rec : LoopState → Option Code → Loop, rec = fun st pe => { state := st, pending := pe, fn, tmps := a.tmps, params := ps, assign, body, defers := w.heap.size } := ⟨_, rfl⟩
  obtain ⟨W1, hW1⟩ : ∃ W1, (w.alloc (.deferred (some []))).alloc (.loop (rec .ready none)) = W1 := ⟨_, rfl⟩
  have hL1 : W1.heap[w.heap.size + 1]? = some (.loop (rec .ready none)) := by
    rw [← hW1]; have := World.alloc_heap_new (w.alloc (.deferred (some []))) (.loop (rec .ready none)); rwa [World.size_alloc] at this
  have hK1 : W1.heap[w.heap.size]? = some (.deferred (some [])) := by
    rw [← hW1]; exact (Below.heap_alloc _ _ _ (by simp)).trans (World.alloc_heap_new w _)
  have hb1 : Below w.heap.size w W1 := by
    rw [← hW1]; exact ((Below.refl _ w).alloc (Nat.le_refl _) _).alloc (by simp) _
  have hs1 : W1.heap.size = w.heap.size + 2 := by rw [← hW1]; simp
  refine ⟨w.heap.size + 1, [{ target := .collected w.heap.size, args := #[] }], W1, { target := .fn (.func gf) lb, args := #[.func (.yield (w.heap.size + 1)) #[] #[]] }, W1, gf,
    #[.func (.yield (w.heap.size + 1)) #[] #[]] ++ lb, W1, ?_, ?_, ?_, ?_, (fun h => by cases h), ?_⟩
  · rw [← hW1, hrec]; exact run_enterLoop_outer _ _ _ _ _
  · simp only [resolve, hg]
    simp [go_sem]
  · intro f' _; trivial
  · simp [invoke, go_sem, eg]
  · refine (CallsIn.anyD (m := 0) (hseq (w.heap.size + 1) (fun k => X k ∨ k = w.heap.size + 1)
      (fun pre W => I pre W ∧ W.heap[w.heap.size + 1]? = some (.loop (rec .ready none)) ∧ W.heap[w.heap.size]? = some (.deferred (some [])))
      (fun W => ∃ d, Ix d W ∧ W.heap[w.heap.size + 1]? = some (.loop (rec .done (some d))) ∧ W.heap[w.heap.size]? = some (.deferred (some [])))
      W1 (hRk w W1 hR (Keeps.of_all hb1))
      (fun k hk => by
        rcases hk with hk | hk
        · exact ⟨(hX k hk).1, fun e => (hX k hk).2 (by omega)⟩
        · exact ⟨fun ht => by have := hT k ht; omega, fun e => by omega⟩)
      (fun s A B hs hb => ⟨hI s A B hs.1 (hb.mono (fun k _ e => by omega)),
        (hb.block _ (Array.getElem?_eq_some_iff.1 hs.2.1).1 (fun e => by omega)).trans hs.2.1,
        (hb.block _ (Array.getElem?_eq_some_iff.1 hs.2.2).1 (fun e => by omega)).trans hs.2.2⟩)
      (fun A B ⟨d, hs⟩ hb => ⟨d, hIx d A B hs.1 (hb.mono (fun k _ e => by omega)),
        (hb.block _ (Array.getElem?_eq_some_iff.1 hs.2.1).1 (fun e => by omega)).trans hs.2.1,
        (hb.block _ (Array.getElem?_eq_some_iff.1 hs.2.2).1 (fun e => by omega)).trans hs.2.2⟩)
      ?_ ⟨hI _ _ _ h0 (Keeps.of_all hb1), hL1, hK1⟩)).mono ?_
    · rintro pre x args W ⟨hi, hl, hk⟩ hpre hG hsz0
      have hlt : w.heap.size + 1 < W.heap.size := (Array.getElem?_eq_some_iff.1 hl).1
      have hy := run_yield (P := P) (args := args) hl (by rw [hrec]; exact hps x args W hG)
      rw [hrec] at hy
      refine YieldAt.anyD (m := n) ⟨fn, _, assign, body, hy, roundIn_of_wpIn hfn (wpIn_mono (hround (w.heap.size + 1) pre x args W rfl ⟨_, hl⟩ hi hpre hG (by omega)) ?_)⟩
      rintro e a' Wa hp
      cases e with
      | normal =>
        obtain ⟨hka, hb⟩ := hp
        have hla := (hka.block _ hlt (fun hx => by have := (hX _ hx).2; omega)).trans hl
        have hda := (hka.block _ (by omega) (fun hx => by have := (hX _ hx).2; omega)).trans hk
        have hlta : w.heap.size + 1 < Wa.heap.size := (Array.getElem?_eq_some_iff.1 hla).1
        refine ⟨_, run_beginRound hla (by rw [hrec]), ?_⟩
        obtain ⟨Wb, hWb⟩ : ∃ Wb, Wa.putObj (w.heap.size + 1) (.loop { rec .ready none with state := .busy }) = Wb := ⟨_, rfl⟩
        have hl2 : Wb.heap[w.heap.size + 1]? = some (.loop { rec .ready none with state := .busy }) := by rw [← hWb]; exact World.putObj_heap_same hlta
        have hk2 : Wb.heap[w.heap.size]? = some (.deferred (some [])) := by rw [← hWb]; exact (World.putObj_heap_other (by omega)).trans hda
        have hkb : Keeps (fun k => k = w.heap.size + 1) Wa Wb := by rw [← hWb]; exact Keeps.put (X := fun k => k = w.heap.size + 1) (Keeps.refl _ Wa) (l := w.heap.size + 1) rfl _
        have hsz := hkb.size
        rw [hWb]
        refine wpIn_mono (hb _ hkb) ?_
        rintro e a3 W3 hp
        cases e with
        | normal =>
          obtain ⟨hk3, hi3⟩ := hp
          have hl3 := (hk3.block _ (by omega) (fun hx => by have := (hX _ hx).2; omega)).trans hl2
          have hd3 := (hk3.block _ (by omega) (fun hx => by have := (hX _ hx).2; omega)).trans hk2
          have hr := run_endRound (P := P) none hl3
          have hlt3 : w.heap.size + 1 < W3.heap.size := (Array.getElem?_eq_some_iff.1 hl3).1
          rw [hrec] at hr
          refine ⟨_, _, hr, .inl ⟨rfl, hI _ W3 _ hi3 ?_, ?_, ?_⟩, ?_⟩
          · exact Keeps.put (Keeps.refl _ W3) (l := w.heap.size + 1) ⟨by omega, by omega⟩ _
          · rw [hrec]; exact World.putObj_heap_same hlt3
          · exact (World.putObj_heap_other (by omega)).trans hd3
          · have k1 : Keeps (fun k => X k ∨ k = w.heap.size + 1) W Wa := hka.mono (fun _ _ h => .inl h)
            have k2 : Keeps (fun k => X k ∨ k = w.heap.size + 1) W Wb := k1.trans (hkb.mono (fun _ _ h => .inr h))
            have k3 : Keeps (fun k => X k ∨ k = w.heap.size + 1) Wb W3 := hk3.mono (fun _ _ h => .inl h)
            exact (k2.trans k3).put (.inr rfl) _
        | ret =>
          obtain ⟨hk3, hi3⟩ := hp
          have hl3 := (hk3.block _ (by omega) (fun hx => by have := (hX _ hx).2; omega)).trans hl2
          have hd3 := (hk3.block _ (by omega) (fun hx => by have := (hX _ hx).2; omega)).trans hk2
          have hr := run_endRound (P := P) (some .ret) hl3
          have hlt3 : w.heap.size + 1 < W3.heap.size := (Array.getElem?_eq_some_iff.1 hl3).1
          rw [hrec] at hr
          refine ⟨_, _, hr, .inr ⟨rfl, Code.ret, hIx _ W3 _ hi3 ?_, ?_, ?_⟩, ?_⟩
          · exact Keeps.put (Keeps.refl _ W3) (l := w.heap.size + 1) ⟨by omega, by omega⟩ _
          · rw [hrec]; exact World.putObj_heap_same hlt3
          · exact (World.putObj_heap_other (by omega)).trans hd3
          · have k1 : Keeps (fun k => X k ∨ k = w.heap.size + 1) W Wa := hka.mono (fun _ _ h => .inl h)
            have k2 : Keeps (fun k => X k ∨ k = w.heap.size + 1) W Wb := k1.trans (hkb.mono (fun _ _ h => .inr h))
            have k3 : Keeps (fun k => X k ∨ k = w.heap.size + 1) Wb W3 := hk3.mono (fun _ _ h => .inl h)
            exact (k2.trans k3).put (.inr rfl) _
        | exit id =>
          obtain ⟨hk3, hi3⟩ := hp
          have hl3 := (hk3.block _ (by omega) (fun hx => by have := (hX _ hx).2; omega)).trans hl2
          have hd3 := (hk3.block _ (by omega) (fun hx => by have := (hX _ hx).2; omega)).trans hk2
          have hr := run_endRound (P := P) (some (.exit id)) hl3
          have hlt3 : w.heap.size + 1 < W3.heap.size := (Array.getElem?_eq_some_iff.1 hl3).1
          rw [hrec] at hr
          refine ⟨_, _, hr, .inr ⟨rfl, Code.exit id, hIx _ W3 _ hi3 ?_, ?_, ?_⟩, ?_⟩
          · exact Keeps.put (Keeps.refl _ W3) (l := w.heap.size + 1) ⟨by omega, by omega⟩ _
          · rw [hrec]; exact World.putObj_heap_same hlt3
          · exact (World.putObj_heap_other (by omega)).trans hd3
          · have k1 : Keeps (fun k => X k ∨ k = w.heap.size + 1) W Wa := hka.mono (fun _ _ h => .inl h)
            have k2 : Keeps (fun k => X k ∨ k = w.heap.size + 1) W Wb := k1.trans (hkb.mono (fun _ _ h => .inr h))
            have k3 : Keeps (fun k => X k ∨ k = w.heap.size + 1) Wb W3 := hk3.mono (fun _ _ h => .inl h)
            exact (k2.trans k3).put (.inr rfl) _
        | goto t => exact hp.elim
        | panic ch => exact hp.elim
        | outgrown => exact hp.elim
      | ret => exact hp.elim
      | exit id => exact hp.elim
      | goto t => exact hp.elim
      | panic ch => exact hp.elim
      | outgrown => exact hp.elim
    · rintro e W2 ⟨⟨v, rfl⟩, hr2, h2⟩
      rcases h2 with ⟨hi, hl, hk⟩ | ⟨d, hi, hl, hk⟩
      · have hlt2 : w.heap.size + 1 < W2.heap.size := (Array.getElem?_eq_some_iff.1 hl).1
        refine ⟨none, _, by have := run_endLoop (P := P) hl (by rw [hrec]; simp); rw [hrec] at this; exact this, hdone _ _ rfl (hI _ W2 _ hi ?_) (hRk _ _ hr2 ?_) ((World.putObj_heap_other (by omega)).trans hk)⟩
        · exact Keeps.put (Keeps.refl _ W2) (l := w.heap.size + 1) ⟨by omega, by omega⟩ _
        · exact Keeps.put (Keeps.refl _ W2) (l := w.heap.size + 1) (fun ht => by have := hT _ ht; omega) _
      · have hlt2 : w.heap.size + 1 < W2.heap.size := (Array.getElem?_eq_some_iff.1 hl).1
        refine ⟨some d, _, by have := run_endLoop (P := P) hl (by rw [hrec]; simp); rw [hrec] at this; exact this, hstop d _ _ rfl (hIx d W2 _ hi ?_) (hRk _ _ hr2 ?_) ((World.putObj_heap_other (by omega)).trans hk)⟩
        · exact Keeps.put (Keeps.refl _ W2) (l := w.heap.size + 1) ⟨by omega, by omega⟩ _
        · exact Keeps.put (Keeps.refl _ W2) (l := w.heap.size + 1) (fun ht => by have := hT _ ht; omega) _

end Go.Proofs.YtdmlamnonbmboaaGreatDoor

namespace Go.Proofs.YtdmlamnonbmboaaGreatDoor
open Go.RowKit

section
variable {l0 n : Nat} {P : Program} {ops : Array Oper} {Q : Exit → Act → World → Prop} {md : Region.Mode} {S : World → Prop}

/-- Whatever order is drawn; S holds behind each operation. -/
def AnyR (l0 n : Nat) (P : Program) (md : Region.Mode) (ops : Array Oper) (Q : Exit → Act → World → Prop) (S : World → Prop) : Nat → Array Bool → Act → World → Prop
  | 0, l, a, w => Region.ready md ops l = [] ∧ Q .normal a w
  | f + 1, l, a, w => (Region.ready md ops l = [] → Q .normal a w) ∧ ∀ i, i ∈ Region.ready md ops l → wpOpIn (Fence.wide.inRound l0) n P ops Q i (fun a' w' => S w' ∧ AnyR l0 n P md ops Q S f (l.setIfInBounds i true) a' w') a w

theorem AnyR.any : ∀ (f : Nat) (l : Array Bool) (a : Act) (w : World), AnyR l0 n P md ops Q S f l a w → wpAnyIn (Fence.wide.inRound l0) n P md ops Q f l a w
  | 0, _, _, _, h => h
  | f + 1, _, _, _, h => ⟨h.1, fun i hi => wpOpIn_mono (fun _ _ h' => AnyR.any f _ _ _ h'.2) (h.2 i hi)⟩

theorem AnyR.region {id : Nat} {a : Act} {w : World} (hm : P.follows .mixedOrders = true) (h : AnyR l0 n P .any ops Q S ops.size (Array.replicate ops.size false) a w.drew) : (Code.region id ops true).wpIn (Fence.wide.inRound l0) n P Q a w :=
  wpIn_region_any hm (AnyR.any _ _ _ _ h)

theorem AnyR.done {l : Array Bool} {a : Act} {w : World} (hr : Region.ready md ops l = []) (h : Q .normal a w) (f : Nat) : AnyR l0 n P md ops Q S f l a w := by
  cases f with
  | zero => exact ⟨hr, h⟩
  | succ f => exact ⟨fun _ => h, fun i hi => by rw [hr] at hi; cases hi⟩

theorem AnyR.one {l : Array Bool} {a : Act} {w : World} {i f : Nat} {o : Oper} (hr : Region.ready md ops l = [i]) (ho : ops[i]? = some o) (hw : Region.wanted o (yielded ops a.tmps) = true)
    (h : ∀ K : Act → World → Prop, Hid (∀ a' w', S w' → (S w' → AnyR l0 n P md ops Q S f (l.setIfInBounds i true) a' w') → K a' w') → o.wpIn (Fence.wide.inRound l0) n P a w K Q) : AnyR l0 n P md ops Q S (f + 1) l a w := by
  refine ⟨(fun e => by rw [hr] at e; cases e), fun j hj => ?_⟩
  rw [hr] at hj
  obtain rfl := List.mem_singleton.1 hj
  unfold wpOpIn
  simp only [ho, hw, if_true]
  exact h _ (fun a' w' hS hA => ⟨hS, hA hS⟩)

/-- What an operation does to a state into which another's value is laid ahead of it. -/
theorem AnyR.swap {j : Nat} {oi oj : Oper} {v : Value} (hj : ops[j]? = some oj) (hap : oi.apart ops oj = true) (hdj : ∀ c, oj.op ≠ .defer c) (hsi : ∀ cs b, oi.op ≠ .select cs b) (hsj : ∀ cs b, oj.op ≠ .select cs b)
    (hQ : ∀ c a w, Q (.panic c) (a.put oi.dst v) w → Q (.panic c) a w) {K : Act → World → Prop} {a : Act} {w : World} (hy : YieldsIf P ops S oi v a) (h : wpOpIn (Fence.wide.inRound l0) n P ops Q j K (a.put oi.dst v) w) :
    wpOpIn (Fence.wide.inRound l0) n P ops Q j (fun a' w' => YieldsIf P ops S oi v a' ∧ K (a'.put oi.dst v) w') a w := by
  obtain ⟨e1, e2, e3⟩ := Oper.apart_spec hap
  have stays : ∀ (b : Act) (u : Value), YieldsIf P ops S oi v b → YieldsIf P ops S oi v (b.put oj.dst u) ∧ (b.put oj.dst u).put oi.dst v = (b.put oi.dst v).put oj.dst u := fun b u hb =>
    ⟨hb.of_same (execOp_put oi hsi b oj.dst u e3) (wanted_put oi b oj.dst u e3), (Act.put_comm b v u e2).symm⟩
  have fin : ∀ (b : Act) (u : Value) (w' : World), YieldsIf P ops S oi v b → K ((b.put oi.dst v).put oj.dst u) w' → YieldsIf P ops S oi v (b.put oj.dst u) ∧ K ((b.put oj.dst u).put oi.dst v) w' := fun b u w' hb hk =>
    ⟨(stays b u hb).1, by rw [(stays b u hb).2]; exact hk⟩
  unfold wpOpIn at h ⊢
  simp only [hj] at h ⊢
  rw [wanted_put oj a oi.dst v e1] at h
  by_cases hw : Region.wanted oj (yielded ops a.tmps) = true
  · rw [if_pos hw] at h ⊢
    have h' := h.2
    refine ⟨fun _ _ => trivial, ?_⟩
    rw [Oper.semAt_eq _ _ _ hdj] at h' ⊢
    rw [execOp_put oj hsj a oi.dst v e1] at h'
    cases hrun : (execOp a.eval oj).run P w with
    | ok x w' =>
      rw [hrun] at h'
      cases x <;> simp only [Oper.uponIn] at h' ⊢
      case value u => exact fin a u w' hy h'
      case skip => exact fin a undef w' hy h'
      case defer d => exact fin { a with defers := d :: a.defers } undef w' (hy.of_same rfl rfl) (by rw [← Act.put_defers]; exact h')
      case enter f args => exact ⟨h'.1, h'.2.mono fun e w2 he => by
        cases e with
        | returned u => exact fin a u w2 hy he
        | panicked c => exact hQ _ _ _ he
        | outgrown => exact he⟩
      case row row args => exact ⟨h'.1, RowsIn.mono h'.2 fun u w2 he => fin a u w2 hy he⟩
      case round l f tmps assign body => exact ⟨h'.1, RoundIn.mono h'.2 fun e w2 he => by
        cases e with
        | returned u => exact fin a u w2 hy he
        | panicked c => exact hQ _ _ _ he
        | outgrown => exact he⟩
    | halt x w' =>
      rw [hrun] at h'
      cases x <;> simp only [Oper.uponIn] at h' ⊢
      case panic u => exact hQ _ _ _ h'
  · rw [if_neg hw] at h ⊢
    exact ⟨fun _ _ => trivial, fin a undef w hy h.2⟩

theorem AnyR.now {i : Nat} {o : Oper} (hdo : ∀ c, o.op ≠ .defer c) {v : Value} {a : Act} {w : World} {K : Act → World → Prop} (hi : ops[i]? = some o) (hy : YieldsIf P ops S o v a) (hS : S w) (h : K (a.put o.dst v) w) : wpOpIn (Fence.wide.inRound l0) n P ops Q i K a w := by
  unfold wpOpIn
  simp only [hi]
  rcases hy with ⟨hw, hv⟩ | ⟨hw, rfl⟩
  · rw [if_pos hw]
    refine ⟨fun _ _ => trivial, ?_⟩
    rw [Oper.semAt_eq _ _ _ hdo, hv w hS]
    exact h
  · rw [if_neg (by rw [hw]; simp)]
    exact ⟨fun _ _ => trivial, h⟩

theorem AnyR.ahead (hnd : noDefer ops = true) {i : Nat} {oi : Oper} {v : Value} (hi : ops[i]? = some oi) (hsel : Region.noSelect ops = true) (hQ : ∀ c a w, Q (.panic c) (a.put oi.dst v) w → Q (.panic c) a w) :
    ∀ (f : Nat) (l : Array Bool) (a : Act) (w : World), (∀ j oj, ops[j]? = some oj → j ≠ i → l.getD j true = false → (∀ e ∈ oj.after, Region.binds md e = true → e.on ≠ i) → oi.apart ops oj = true) →
      i ∈ Region.ready md ops l → YieldsIf P ops S oi v a → S w → AnyR l0 n P md ops Q S f (l.setIfInBounds i true) (a.put oi.dst v) w → AnyR l0 n P md ops Q S (f + 1) l a w := by
  have hs := Region.noSelect_spec hsel
  intro f
  induction f with
  | zero =>
    intro l a w _ hr hy hS H
    refine ⟨(fun e => by rw [e] at hr; cases hr), fun j hj => ?_⟩
    rcases Nat.decEq j i with hne | rfl
    · have := ready_mono hj hne
      rw [H.1] at this
      cases this
    · exact AnyR.now (noDefer_spec hnd _ oi · hi) hi hy hS ⟨hS, H⟩
  | succ f ih =>
    intro l a w hfree hr hy hS H
    refine ⟨(fun e => by rw [e] at hr; cases hr), fun j hj => ?_⟩
    rcases Nat.decEq j i with hne | rfl
    · obtain ⟨hun, oj, hoj, hall⟩ := mem_ready.1 hj
      have hno : ∀ e ∈ oj.after, Region.binds md e = true → e.on ≠ i := by
        intro e he hb heq
        have t1 := hall e he hb
        have t0 := (mem_ready.1 hr).1
        rw [heq] at t1
        by_cases hl : i < l.size
        · simp only [Array.getD_eq_getD_getElem?, Array.getElem?_eq_getElem hl, Option.getD_some] at t0
          simp [hl, t0] at t1
        · simp [Array.getElem?_eq_none (Nat.le_of_not_lt hl)] at t1
      refine wpOpIn_mono ?_ (AnyR.swap hoj (hfree j oj hoj hne hun hno) (noDefer_spec hnd j oj · hoj) (hs i oi · · hi) (hs j oj · · hoj) hQ hy (H.2 j (ready_mono hj hne)))
      rintro b w' ⟨hyb, hSb, hA⟩
      refine ⟨hSb, ih _ b w' ?_ (ready_mono hr (Ne.symm hne)) hyb hSb (by rw [Array.setIfInBounds_comm _ _ hne]; exact hA)⟩
      intro k ok hk hki hku hkn
      refine hfree k ok hk hki ?_ hkn
      rcases Nat.decEq j k with hjk | rfl
      · rwa [getD_set_ne true hjk] at hku
      · exact hun
    · exact AnyR.now (noDefer_spec hnd _ oi · hi) hi hy hS ⟨hS, H⟩

theorem AnyR.take (hnd : noDefer ops = true) {i : Nat} {oi : Oper} {v : Value} {f : Nat} {l : Array Bool} {a : Act} {w : World} (hi : ops[i]? = some oi) (hs : Region.noSelect ops = true) (hf : Region.free md ops l i = true) (hr : (Region.ready md ops l).contains i = true)
    (hQ : ∀ c a w, Q (.panic c) (a.put oi.dst v) w → Q (.panic c) a w) (hy : YieldsIf P ops S oi v a) (hS : S w) (h : AnyR l0 n P md ops Q S f (l.setIfInBounds i true) (a.put oi.dst v) w) : AnyR l0 n P md ops Q S (f + 1) l a w :=
  AnyR.ahead hnd hi hs hQ f l a w (Region.free_spec hi hf) (by simpa using hr) hy hS h

theorem AnyR.plain {o : Oper} {a : Act} {w : World} {K : Act → World → Prop} (hd : ∀ c, o.op ≠ .defer c) (h : o.wp P a w K Q) : o.wpIn (Fence.wide.inRound l0) n P a w K Q := oper_round hd h

/-- A call of an outer loop's body. -/
theorem AnyR.yields {o : Oper} {a : Act} {w : World} {K : Act → World → Prop} {l : Nat} {x f : Operand} {u : Value} {ts : Array TypeId} {R : Ending → World → Prop} (ho : o.op = .call { callee := .value f, args := #[x], argTypes := ts })
    (hf : a.eval f = .func (.yield l) #[] #[]) (hx : a.eval x = u) (h : YieldAt Fence.wide 0 P l #[u] w R) (hK : ∀ e w', R e w' → ∃ r, e = .returned r ∧ K (a.put o.dst r) w') : o.wpIn (Fence.wide.inRound l0) 1 P a w K Q := by
  obtain ⟨fn, tmps, assign, body, hrun, hR⟩ := h
  refine ⟨fun _ _ => trivial, ?_⟩
  rw [Oper.semAt_eq _ _ _ (fun c e => by rw [ho] at e; cases e)]
  have he : (execOp a.eval o).run P w = .ok (.round l fn tmps assign body) w := by
    clear hK
    generalize a.eval = ρ at *
    simp [execOp, ho, resolve, invoke, hf, hx, hrun, go_sem]
  rw [he]
  refine ⟨(fun e => by cases e), RoundIn.mono (F := Fence.wide.inRound l0) hR fun e w2 h2 => ?_⟩
  obtain ⟨r, rfl, hk⟩ := hK e w2 h2
  exact hk

end

end Go.Proofs.YtdmlamnonbmboaaGreatDoor
