/-
  A range over a function, as in Ro; the round's body is told besides that the loop's own record stands there: so that ranges may lie one in the other. No conditions beyond those that each theorem bears.
  Chess: a position as numbers; what a move makes of it; the moves; rows of moves counted. No conditions beyond those that each theorem bears.
-/
import Derived.Test.YtdmlamnonbmboaaDoorQ25
import Derived.Test.YtdmlamnonbmboaaDoorQ27
namespace Go.Proofs.YtdmlamnonbmboaaDoor
open Go.RowKit Go.Shelf

theorem wp_range_p {α : Type} {P : Program} {n : Nat} {g : Operand} {ps : Array Tmp} {assign body : Code} {Q : Exit → Act → World → Prop} {a : Act} {w : World}
    {gf : Nat} {lb : Array Value} (hg : a.eval g = .func (.func gf) #[] lb) (eg : ∀ args w, (callFunc gf args).run P w = .ok (.enter gf args) w)
    {G : α → Array Value → World → Prop} {xs : List α} {R : World → Prop} {T : Nat → Prop} (hseq : SeqO P gf lb G xs R T)
    (hT : ∀ k, T k → k < w.heap.size) (hR : ∀ W1, Below w.heap.size w W1 → R W1) (hps : ∀ x args W, G x args W → args.size = ps.size)
    (I : (Nat → Prop) → List α → World → Prop) (Ix : Code → (Nat → Prop) → World → Prop) (O0 : Nat → Prop) (hC : ∀ d, Cons I (Ix d) w.heap.size T) (h0 : I O0 [] w)
    (hround : ∀ (l : Nat) (O : Nat → Prop) (pre : List α) (x : α) (args : Array Value) (W : World), l = w.heap.size + 1 → (∃ r, W.heap[l]? = some (.loop r)) → I O pre W → ¬ O l → Keeps O0 w W → (∀ k, k < w.heap.size → O k → O0 k) → (pre ++ [x]) <+: xs → G x args W → w.heap.size + 2 ≤ W.heap.size →
      assign.wpIn (Fence.wide.inRound l) n P (Exit.then (fun a' W' => Below W.heap.size W W' ∧ ∀ W'', Keeps (fun k => k = l) W' W'' → (∃ r, W''.heap[l]? = some (.loop r)) → body.wpIn (Fence.wide.inRound l) n P (oPost O I Ix (pre ++ [x]) W'') a' W'') (fun _ _ _ => False))
        { tmps := (ps.zip args).foldl (fun t (p, v) => t.setIfInBounds p v) a.tmps, defers := [] } W)
    (hdone : ∀ (D : Nat) (O : Nat → Prop) (W : World), D = w.heap.size → I O xs W → Keeps O0 w W → (∀ k, k < w.heap.size + 2 → O k → O0 k) → W.heap[D]? = some (.deferred (some [])) → Q .normal { a with defers := { target := .collected D, args := #[] } :: a.defers } W)
    (hstop : ∀ (d : Code) (D : Nat) (O : Nat → Prop) (W : World), D = w.heap.size → Ix d O W → Keeps O0 w W → (∀ k, k < w.heap.size + 2 → O k → O0 k) → W.heap[D]? = some (.deferred (some [])) → d.wpIn Fence.wide n P Q { a with defers := { target := .collected D, args := #[] } :: a.defers } W) :
    (Code.rangeFunc g ps assign body).wpIn Fence.wide n P Q a w := by
  have hO0 := (hC .ret).lt _ _ _ h0
  refine wpIn_rangeFunc ?_
  intro fn hfn
  obtain ⟨rec, hrec⟩ : ∃ rec : LoopState → Option Code → Loop, rec = fun st pe => { state := st, pending := pe, fn, tmps := a.tmps, params := ps, assign, body, defers := w.heap.size } := ⟨_, rfl⟩
  obtain ⟨W1, hW1⟩ : ∃ W1, (w.alloc (.deferred (some []))).alloc (.loop (rec .ready none)) = W1 := ⟨_, rfl⟩
  have hL1 : W1.heap[w.heap.size + 1]? = some (.loop (rec .ready none)) := by
    rw [← hW1]; have := World.alloc_heap_new (w.alloc (.deferred (some []))) (.loop (rec .ready none)); rwa [World.size_alloc] at this
  have hK1 : W1.heap[w.heap.size]? = some (.deferred (some [])) := by
    rw [← hW1]; exact (Below.heap_alloc _ _ _ (by simp)).trans (World.alloc_heap_new w _)
  have hb1 : Below w.heap.size w W1 := by
    rw [← hW1]; exact ((Below.refl _ w).alloc (Nat.le_refl _) _).alloc (by simp) _
  have hs1 : W1.heap.size = w.heap.size + 2 := by rw [← hW1]; simp
  refine ⟨w.heap.size + 1, [{ target := .collected w.heap.size, args := #[] }], W1, { target := .fn (.func gf) lb, args := #[.func (.yield (w.heap.size + 1)) #[] #[]] }, W1, gf,
    #[.func (.yield (w.heap.size + 1)) #[] #[]] ++ lb, W1, ?_, ?_, ?_, ?_, (fun h => by cases h), ?_⟩
  · rw [← hW1, hrec]; exact run_enterLoop_outer _ _ _ _ _
  · simp only [resolve, hg]
    simp [go_sem]
  · intro f' _; trivial
  · simp [invoke, go_sem, eg]
  · refine (CallsIn.anyD (m := 0) (hseq (w.heap.size + 1)
      (fun Op pre W => ∃ O, (∀ k, Op k ↔ (O k ∨ k = w.heap.size + 1)) ∧ I O pre W ∧ W.heap[w.heap.size + 1]? = some (.loop (rec .ready none)) ∧ W.heap[w.heap.size]? = some (.deferred (some [])) ∧ (∀ k, k < w.heap.size + 2 → O k → O0 k) ∧ Keeps O0 w W)
      (fun Op W => ∃ O d, (∀ k, Op k ↔ (O k ∨ k = w.heap.size + 1)) ∧ Ix d O W ∧ W.heap[w.heap.size + 1]? = some (.loop (rec .done (some d))) ∧ W.heap[w.heap.size]? = some (.deferred (some [])) ∧ (∀ k, k < w.heap.size + 2 → O k → O0 k) ∧ Keeps O0 w W)
      (w.heap.size + 2) W1 (fun k => O0 k ∨ k = w.heap.size + 1) (hR _ hb1) (by omega) ?cons ?rnd
      ⟨O0, fun _ => Iff.rfl, (hC .ret).keep _ _ _ _ h0 (Keeps.of_all hb1), hL1, hK1, fun _ _ h => h, Keeps.of_all hb1⟩)).mono ?_
    case cons =>
      refine ⟨?_, ?_, ?_, ?_⟩
      · rintro Op s A ⟨O, ho, hi, hl, hd, hm, hk⟩ k hk2
        rcases (ho k).1 hk2 with h | rfl
        · exact (hC .ret).lt _ _ _ hi k h
        · exact ⟨(Array.getElem?_eq_some_iff.1 hl).1, fun ht => by have := hT _ ht; omega⟩
      · rintro Op A ⟨O, d, ho, hi, hl, hd, hm, hk⟩ k hk2
        rcases (ho k).1 hk2 with h | rfl
        · exact (hC d).ltx _ _ hi k h
        · exact ⟨(Array.getElem?_eq_some_iff.1 hl).1, fun ht => by have := hT _ ht; omega⟩
      · rintro Op s A B ⟨O, ho, hi, hl, hd, hm, hk⟩ hb
        refine ⟨O, ho, (hC .ret).keep _ _ _ _ hi (hb.mono (fun k _ e => ⟨by omega, fun h => e.2 ((ho k).2 (Or.inl h))⟩)), (hb.block _ (Array.getElem?_eq_some_iff.1 hl).1 (fun e => by omega)).trans hl, (hb.block _ (Array.getElem?_eq_some_iff.1 hd).1 (fun e => by omega)).trans hd, hm, ?_⟩
        exact ⟨hb.os.trans hk.os, hb.tape.trans hk.tape, hb.output.trans hk.output, Nat.le_trans hk.size hb.size, fun i hi2 hx => (hb.block i (Nat.lt_of_lt_of_le hi2 hk.size) (fun e => by omega)).trans (hk.block i hi2 hx)⟩
      · rintro Op A B ⟨O, d, ho, hi, hl, hd, hm, hk⟩ hb
        refine ⟨O, d, ho, (hC d).keepx _ _ _ hi (hb.mono (fun k _ e => ⟨by omega, fun h => e.2 ((ho k).2 (Or.inl h))⟩)), (hb.block _ (Array.getElem?_eq_some_iff.1 hl).1 (fun e => by omega)).trans hl, (hb.block _ (Array.getElem?_eq_some_iff.1 hd).1 (fun e => by omega)).trans hd, hm, ?_⟩
        exact ⟨hb.os.trans hk.os, hb.tape.trans hk.tape, hb.output.trans hk.output, Nat.le_trans hk.size hb.size, fun i hi2 hx => (hb.block i (Nat.lt_of_lt_of_le hi2 hk.size) (fun e => by omega)).trans (hk.block i hi2 hx)⟩
    case rnd =>
      rintro Op pre x args W ⟨O, ho, hi, hl, hk, hm, hkp⟩ hpre hG hsz0
      have hlt : w.heap.size + 1 < W.heap.size := (Array.getElem?_eq_some_iff.1 hl).1
      have hOl : ¬ O (w.heap.size + 1) := fun h => by have := (hO0 _ (hm _ (by omega) h)).1; omega
      have hOd : ¬ O w.heap.size := fun h => by have := (hO0 _ (hm _ (by omega) h)).1; omega
      have hy := run_yield (P := P) (args := args) hl (by rw [hrec]; exact hps x args W hG)
      rw [hrec] at hy
      refine YieldAt.anyD (m := n) ⟨fn, _, assign, body, hy, roundIn_of_wpIn hfn (wpIn_mono (hround (w.heap.size + 1) O pre x args W rfl ⟨_, hl⟩ hi hOl hkp (fun k hk2 h => hm k (by omega) h) hpre hG (by omega)) ?_)⟩
      rintro e a' Wa hp
      cases e with
      | normal =>
        obtain ⟨hka, hb⟩ := hp
        have hla := (hka.block _ hlt).trans hl
        have hda := (hka.block _ (by omega)).trans hk
        have hlta : w.heap.size + 1 < Wa.heap.size := (Array.getElem?_eq_some_iff.1 hla).1
        refine ⟨_, run_beginRound hla (by rw [hrec]), ?_⟩
        obtain ⟨Wb, hWb⟩ : ∃ Wb, Wa.putObj (w.heap.size + 1) (.loop { rec .ready none with state := .busy }) = Wb := ⟨_, rfl⟩
        have hl2 : Wb.heap[w.heap.size + 1]? = some (.loop { rec .ready none with state := .busy }) := by rw [← hWb]; exact World.putObj_heap_same hlta
        have hk2 : Wb.heap[w.heap.size]? = some (.deferred (some [])) := by rw [← hWb]; exact (World.putObj_heap_other (by omega)).trans hda
        have hkb : Keeps (fun k => k = w.heap.size + 1) Wa Wb := by rw [← hWb]; exact Keeps.put (X := fun k => k = w.heap.size + 1) (Keeps.refl _ Wa) (l := w.heap.size + 1) rfl _
        have hsz := hkb.size
        have hszA := hka.size
        rw [hWb]
        refine wpIn_mono (hb _ hkb ⟨_, hl2⟩) ?_
        have fin : ∀ (W3 : World) (O' : Nat → Prop), Keeps O Wb W3 → (∀ k, k < Wb.heap.size → O' k → O k) → ∀ (st : LoopState) (pe : Option Code),
            (W3.heap[w.heap.size + 1]? = some (.loop { rec .ready none with state := .busy })) ∧ (W3.heap[w.heap.size]? = some (.deferred (some []))) ∧
            (∀ k, k < W.heap.size → (O' k ∨ k = w.heap.size + 1) → Op k) ∧ (∀ k, k < w.heap.size + 2 → O' k → O0 k) ∧ ¬ O' (w.heap.size + 1) ∧ Keeps O0 w (W3.putObj (w.heap.size + 1) (.loop (rec st pe))) ∧ Keeps Op W (W3.putObj (w.heap.size + 1) (.loop (rec st pe))) := by
          intro W3 O' hk3 hm3 st pe
          have hl3 := (hk3.block _ (by omega) hOl).trans hl2
          have hd3 := (hk3.block _ (by omega) hOd).trans hk2
          have kA : Keeps Op W Wa := Keeps.of_all hka
          have kB : Keeps Op W Wb := kA.trans (hkb.mono (fun k _ e => (ho k).2 (Or.inr e)))
          have k3 : Keeps Op W W3 := kB.trans (hk3.mono (fun k _ e => (ho k).2 (Or.inl e)))
          have kP : Keeps Op W (W3.putObj (w.heap.size + 1) (.loop (rec st pe))) := k3.put ((ho _).2 (Or.inr rfl)) _
          refine ⟨hl3, hd3, ?_, ?_, ?_, ?_, kP⟩
          · rintro k hk4 (h | rfl)
            · exact (ho k).2 (Or.inl (hm3 k (by omega) h))
            · exact (ho _).2 (Or.inr rfl)
          · intro k hk4 h
            exact hm k hk4 (hm3 k (by omega) h)
          · intro h
            exact hOl (hm3 _ (by omega) h)
          · refine ⟨kP.os.trans hkp.os, kP.tape.trans hkp.tape, kP.output.trans hkp.output, Nat.le_trans hkp.size kP.size, fun i hi2 hx => (kP.block i (Nat.lt_of_lt_of_le hi2 hkp.size) (fun e => ?_)).trans (hkp.block i hi2 hx)⟩
            rcases (ho i).1 e with h | rfl
            · exact hx (hm i (by omega) h)
            · omega
        rintro e a3 W3 hp
        cases e with
        | normal =>
          obtain ⟨hk3, O', hm3, hi3⟩ := hp
          obtain ⟨hl3, hd3, g1, g2, g3, g4, g5⟩ := fin W3 O' hk3 hm3 .ready none
          have hr := run_endRound (P := P) none hl3
          have hlt3 : w.heap.size + 1 < W3.heap.size := (Array.getElem?_eq_some_iff.1 hl3).1
          rw [hrec] at hr
          rw [hrec] at g4 g5
          refine ⟨_, _, hr, g5, fun k => O' k ∨ k = w.heap.size + 1, g1, .inl ⟨rfl, O', fun _ => Iff.rfl, (hC .ret).keep _ _ W3 _ hi3 ?_, ?_, ?_, g2, g4⟩⟩
          · exact Keeps.put (Keeps.refl _ W3) (l := w.heap.size + 1) ⟨by omega, g3⟩ _
          · rw [hrec]; exact World.putObj_heap_same hlt3
          · exact (World.putObj_heap_other (by omega)).trans hd3
        | ret =>
          obtain ⟨hk3, O', hm3, hi3⟩ := hp
          obtain ⟨hl3, hd3, g1, g2, g3, g4, g5⟩ := fin W3 O' hk3 hm3 .done (some .ret)
          have hr := run_endRound (P := P) (some .ret) hl3
          have hlt3 : w.heap.size + 1 < W3.heap.size := (Array.getElem?_eq_some_iff.1 hl3).1
          rw [hrec] at hr
          rw [hrec] at g4 g5
          refine ⟨_, _, hr, g5, fun k => O' k ∨ k = w.heap.size + 1, g1, .inr ⟨rfl, O', .ret, fun _ => Iff.rfl, (hC .ret).keepx _ W3 _ hi3 ?_, ?_, ?_, g2, g4⟩⟩
          · exact Keeps.put (Keeps.refl _ W3) (l := w.heap.size + 1) ⟨by omega, g3⟩ _
          · rw [hrec]; exact World.putObj_heap_same hlt3
          · exact (World.putObj_heap_other (by omega)).trans hd3
        | exit id =>
          obtain ⟨hk3, O', hm3, hi3⟩ := hp
          obtain ⟨hl3, hd3, g1, g2, g3, g4, g5⟩ := fin W3 O' hk3 hm3 .done (some (.exit id))
          have hr := run_endRound (P := P) (some (.exit id)) hl3
          have hlt3 : w.heap.size + 1 < W3.heap.size := (Array.getElem?_eq_some_iff.1 hl3).1
          rw [hrec] at hr
          rw [hrec] at g4 g5
          refine ⟨_, _, hr, g5, fun k => O' k ∨ k = w.heap.size + 1, g1, .inr ⟨rfl, O', .exit id, fun _ => Iff.rfl, (hC (.exit id)).keepx _ W3 _ hi3 ?_, ?_, ?_, g2, g4⟩⟩
          · exact Keeps.put (Keeps.refl _ W3) (l := w.heap.size + 1) ⟨by omega, g3⟩ _
          · rw [hrec]; exact World.putObj_heap_same hlt3
          · exact (World.putObj_heap_other (by omega)).trans hd3
        | goto t => exact hp.elim
        | panic ch => exact hp.elim
        | outgrown => exact hp.elim
      | ret => exact hp.elim
      | exit id => exact hp.elim
      | goto t => exact hp.elim
      | panic ch => exact hp.elim
      | outgrown => exact hp.elim
    · rintro e W2 ⟨⟨v, rfl⟩, _, Op, _, h2⟩
      rcases h2 with ⟨O, ho, hi, hl, hk, hm, hkp⟩ | ⟨O, d, ho, hi, hl, hk, hm, hkp⟩
      · have hOl : ¬ O (w.heap.size + 1) := fun h => by have := (hO0 _ (hm _ (by omega) h)).1; omega
        have hlt2 : w.heap.size + 1 < W2.heap.size := (Array.getElem?_eq_some_iff.1 hl).1
        refine ⟨none, _, by have := run_endLoop (P := P) hl (by rw [hrec]; simp); rw [hrec] at this; exact this, hdone _ O _ rfl ((hC .ret).keep _ _ W2 _ hi ?_) ?_ hm ((World.putObj_heap_other (by omega)).trans hk)⟩
        · exact Keeps.put (Keeps.refl _ W2) (l := w.heap.size + 1) ⟨by omega, hOl⟩ _
        · exact hkp.thenPut (by omega) _
      · have hOl : ¬ O (w.heap.size + 1) := fun h => by have := (hO0 _ (hm _ (by omega) h)).1; omega
        have hlt2 : w.heap.size + 1 < W2.heap.size := (Array.getElem?_eq_some_iff.1 hl).1
        refine ⟨some d, _, by have := run_endLoop (P := P) hl (by rw [hrec]; simp); rw [hrec] at this; exact this, hstop d _ O _ rfl ((hC d).keepx _ W2 _ hi ?_) ?_ hm ((World.putObj_heap_other (by omega)).trans hk)⟩
        · exact Keeps.put (Keeps.refl _ W2) (l := w.heap.size + 1) ⟨by omega, hOl⟩ _
        · exact hkp.thenPut (by omega) _


end Go.Proofs.YtdmlamnonbmboaaDoor

namespace Go.Proofs.YtdmlamnonbmboaaDoor
open Go.RowKit Go.Shelf
set_option maxRecDepth 20000

/-- A position, as numbers. -/
structure Ps where
  Z : List Int
  t : Nat
  k : Nat
  e : Int
  h : Nat
  f : Nat
def MayP (p : Ps) : Prop := MayC p.Z (p.t : Nat) (p.k : Nat) p.e (p.h : Nat) (p.f : Nat)

def anN (a b : Nat) : Nat := a &&& (15 ^^^ b)
theorem tab_an : ((List.range 16).all fun a => (List.range 16).all fun b => bits BinOp.andNot IntKind.i64 (a : Int) (b : Int) == ((anN a b : Nat) : Int)) = true := by decide +kernel
theorem bits_an {a b : Nat} (ha : a < 16) (hb : b < 16) : bits BinOp.andNot IntKind.i64 (a : Int) (b : Int) = ((anN a b : Nat) : Int) := beq_iff_eq.1 (allN (allN tab_an ha) hb)
theorem tab_anb : ((List.range 16).all fun a => (List.range 16).all fun b => decide (anN a b < 16) && (List.range 4).all fun i => bitB ((anN a b : Nat) : Int) i == (bitB ((a : Nat) : Int) i && !(b.testBit i))) = true := by decide +kernel
theorem an_lt {a b : Nat} (ha : a < 16) (hb : b < 16) : anN a b < 16 := by
  have := allN (allN tab_anb ha) hb
  simp only [Bool.and_eq_true, decide_eq_true_eq] at this
  exact this.1
theorem an_bit {a b i : Nat} (ha : a < 16) (hb : b < 16) (hi : i < 4) : bitB ((anN a b : Nat) : Int) i = (bitB ((a : Nat) : Int) i && !(b.testBit i)) := by
  have := allN (allN tab_anb ha) hb
  simp only [Bool.and_eq_true, decide_eq_true_eq] at this
  exact beq_iff_eq.1 (allN this.2 hi)

theorem lsN_bit (x q : Nat) : ∀ n i, i < n → (lsN x q n).testBit i = lsB x q i
  | 0, i, h => by omega
  | n + 1, i, h => by
    rw [lsN, Nat.testBit_or]
    by_cases e : i = n
    · subst e
      have h1 := lsN_lt x q i
      rw [Nat.testBit_lt_two_pow h1]
      cases lsB x q i with
      | true => simp [Nat.testBit_two_pow_self]
      | false => simp
    · rw [lsN_bit x q n i (by omega)]
      have : (if lsB x q n = true then 2 ^ n else 0).testBit i = false := by
        split
        · rw [Nat.testBit_two_pow]; simp; omega
        · simp
      rw [this, Bool.or_false]
theorem ls_lt (x q : Nat) : lsN x q 4 < 16 := lsN_lt x q 4

/-- Half moves and full moves behind a move. -/
def hfN (Z : List Int) (h x q : Nat) : Nat := if (zg Z x).natAbs = 1 ∨ zg Z q ≠ 0 then 0 else min (h + 1) 999
def fuN (t f : Nat) : Nat := if t = 1 then min (f + 1) 999 else f
/-- What a move makes of a position. -/
def nxP (p : Ps) (m : Nat × Nat × Nat) : Ps := ⟨mvZ p.Z p.t p.e m.1 m.2.1 m.2.2, 1 - p.t, anN p.k (lsN m.1 m.2.1 4), psI p.Z p.t m.1 m.2.1, hfN p.Z p.h m.1 m.2.1, fuN p.t p.f⟩
/-- The place of a side's king. -/
def kf (Z : List Int) (t : Nat) : Nat := ((List.range 64).find? fun q => zg Z q == pc t 6).getD 0
theorem kf_at {Z : List Int} {t K : Nat} (h : KgAt Z t K) : kf Z t = K := by
  have hx : (List.range 64).find? (fun q => zg Z q == pc t 6) = some K := by
    rw [List.find?_eq_some_iff_getElem]
    refine ⟨beq_iff_eq.2 ((h.2 K h.1).2 rfl), K, by simpa using h.1, by simp, ?_⟩
    intro j hj
    simp only [List.getElem_range, Bool.not_eq_true', beq_eq_false_iff_ne, ne_eq]
    intro e
    have := (h.2 j (by have := h.1; omega)).1 e
    omega
  unfold kf; rw [hx]; rfl
theorem kf_kg {Z : List Int} (hS : Std Z) (t : Nat) : KgAt Z t (kf Z t) := by
  obtain ⟨K, hK⟩ := hS.kgAt t
  rw [kf_at hK]; exact hK
def mvs (p : Ps) : List (Nat × Nat × Nat) := mvP p.Z p.t (p.k : Nat) p.e (kf p.Z p.t)

theorem MayP.t1 {p : Ps} (h : MayP p) : p.t ≤ 1 := by have := h.2.1; omega
theorem MayP.k15 {p : Ps} (h : MayP p) : p.k ≤ 15 := by have := h.2.2.1.2.1; omega
theorem MayP.h9 {p : Ps} (h : MayP p) : p.h ≤ 999 := by have := h.2.2.2.2.2.1; omega
theorem MayP.f9 {p : Ps} (h : MayP p) : 1 ≤ p.f ∧ p.f ≤ 999 := by have := h.2.2.2.2.2.2; omega
theorem MayP.st {p : Ps} (h : MayP p) : Std p.Z := h.1
theorem MayP.cas {p : Ps} (h : MayP p) : Cas p.Z (p.k : Nat) := h.2.2.1
theorem MayP.pas {p : Ps} (h : MayP p) : Pas p.Z (p.t : Nat) p.e := h.2.2.2.1

/-- What is known of a move. -/
structure MvOk (p : Ps) (m : Nat × Nat × Nat) : Prop where
  f : m.1 < 64
  q : m.2.1 < 64
  own : ownB p.Z p.t m.1 = true
  tg : tgB p.Z p.t (p.k : Nat) p.e m.1 m.2.1 = true
  inn : m.2.2 ∈ inB p.Z m.1 m.2.1

theorem mfL_ok {Z : List Int} {t : Nat} {k e : Int} {x : Nat} {m : Nat × Nat × Nat} (h : m ∈ mfL Z t k e x) : m.1 = x ∧ m.2.1 < 64 ∧ tgB Z t k e x m.2.1 = true ∧ m.2.2 ∈ inB Z x m.2.1 := by
  unfold mfL at h
  rw [List.mem_flatMap] at h
  obtain ⟨q, hq, hm⟩ := h
  rw [List.mem_map] at hm
  obtain ⟨n, hn, rfl⟩ := hm
  rw [List.mem_filter, List.mem_range] at hq
  exact ⟨rfl, hq.1, hq.2, hn⟩
theorem mvs_ok {p : Ps} {m : Nat × Nat × Nat} (hM : MayP p) (h : m ∈ mvs p) : MvOk p m ∧ exB p.Z p.t p.e (kf p.Z p.t) m.1 m.2.1 m.2.2 = false := by
  unfold mvs mvP at h
  rw [List.mem_flatMap] at h
  obtain ⟨f, hf, hm⟩ := h
  rw [List.mem_filter] at hm hf
  obtain ⟨h1, h2, h3, h4⟩ := mfL_ok hm.1
  have hfl := List.mem_range.1 hf.1
  have hk := hm.2
  rw [← h1] at hf h3 h4 hfl
  refine ⟨⟨hfl, h2, hf.2, h3, h4⟩, ?_⟩
  unfold keepB at hk
  rw [Bool.or_eq_true] at hk
  rcases hk with hk | hk
  · exact fr_ok hM.t1 hM.st hM.pas (kf_kg hM.st p.t) hfl h2 hf.2 h3 h4 hk
  · simpa using hk

/-- BEHIND EACH MOVE THE POSITION MAY BE. -/
theorem may_nx {p : Ps} {m : Nat × Nat × Nat} (hM : MayP p) (h : m ∈ mvs p) : MayP (nxP p m) := by
  obtain ⟨hO, hx⟩ := mvs_ok hM h
  have k16 : p.k < 16 := by have := hM.k15; omega
  refine may_after (k' := ((anN p.k (lsN m.1 m.2.1 4) : Nat) : Int)) (h' := ((hfN p.Z p.h m.1 m.2.1 : Nat) : Int)) (fl' := ((fuN p.t p.f : Nat) : Int)) hM (kf_kg hM.st p.t) hO.f hO.q hO.own hO.tg hO.inn hx (by omega) ?_ ?_ ?_ ?_
  · have := an_lt k16 (ls_lt m.1 m.2.1); omega
  · intro i hi hb
    rw [an_bit k16 (ls_lt m.1 m.2.1) hi, lsN_bit _ _ _ _ hi] at hb
    simp only [Bool.and_eq_true, Bool.not_eq_true', lsB, Bool.or_eq_false_iff, beq_eq_false_iff_ne] at hb
    exact ⟨hb.1, hb.2.1.1, hb.2.1.2, hb.2.2⟩
  · refine ⟨by omega, ?_⟩
    unfold hfN; split <;> omega
  · have := hM.f9
    unfold fuN; split <;> omega

theorem inB_len (Z : List Int) (f q : Nat) : (inB Z f q).length ≤ 4 := by unfold inB; split <;> simp
theorem flat_len {α β : Type} (g : α → List β) (n : Nat) : ∀ L : List α, (∀ a ∈ L, (g a).length ≤ n) → (L.flatMap g).length ≤ L.length * n
  | [], _ => by simp
  | a :: r, h => by
    have h1 := flat_len g n r (fun b hb => h b (by simp [hb]))
    have h2 := h a (by simp)
    rw [List.flatMap_cons, List.length_append, List.length_cons, Nat.succ_mul]
    omega
theorem range_filter_len (p : Nat → Bool) (n : Nat) : ((List.range n).filter p).length ≤ n := Nat.le_trans (List.length_filter_le _ _) (by simp)
theorem mfL_len (Z : List Int) (t : Nat) (k e : Int) (x : Nat) : (mfL Z t k e x).length ≤ 256 := by
  have := flat_len (fun q => (inB Z x q).map fun n => (x, q, n)) 4 ((List.range 64).filter (tgB Z t k e x)) (fun q _ => by rw [List.length_map]; exact inB_len Z x q)
  have h2 := range_filter_len (tgB Z t k e x) 64
  unfold mfL
  omega
theorem mvs_len (p : Ps) : (mvs p).length ≤ 16384 := by
  have := flat_len (fun f => (mfL p.Z p.t (p.k : Nat) p.e f).filter (keepB p.Z p.t p.e (kf p.Z p.t))) 256 ((List.range 64).filter (ownB p.Z p.t)) (fun f _ => Nat.le_trans (List.length_filter_le _ _) (mfL_len _ _ _ _ _))
  have h2 := range_filter_len (ownB p.Z p.t) 64
  unfold mvs mvP
  omega

/-- How many rows of so many moves there are; sums wrap around. -/
def cnP : Nat → Ps → Int
  | 0, _ => 1
  | n + 1, p => (mvs p).foldl (fun s m => IntKind.i64.wrap (s + cnP n (nxP p m))) 0

end Go.Proofs.YtdmlamnonbmboaaDoor
