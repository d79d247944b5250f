/-
  A range over a function inside a round of another one: it may make whatever memory it likes, and writes to none that the rounds own; the rounds may return or break, and keep what they have made. No conditions beyond those that each theorem bears.
  Chess: no move takes a king. No conditions beyond those that each theorem bears.
  Chess: rights and the place gone over, behind a move. No conditions beyond those that each theorem bears.
  Chess: behind each move the position may be. No conditions beyond those that each theorem bears.
-/
import Derived.Test.YtdmlamnonbmboaaDoorQ05
import Derived.RangeFuncNested
import Derived.Test.YtdmlamnonbmboaaDoorQ17
namespace Go.Proofs.YtdmlamnonbmboaaDoor
open Go.RowKit Go.Shelf

theorem wp_range_n {α : Type} {P : Program} {n l0 : Nat} {r0 : Loop} {g : Operand} {ps : Array Tmp} {assign body : Code} {Q : Exit → Act → World → Prop} {a : Act} {w : World}
    {gf : Nat} {lb : Array Value} (hl0 : w.heap[l0]? = some (.loop r0)) (hg : a.eval g = .func (.func gf) #[] lb) (eg : ∀ args w, (callFunc gf args).run P w = .ok (.enter gf args) w)
    {G : α → Array Value → World → Prop} {xs : List α} {R : World → Prop} {T : Nat → Prop} (hseq : SeqO P gf lb G xs R T)
    (hT : ∀ k, T k → k < w.heap.size) (hR : ∀ W1, Below w.heap.size w W1 → R W1) (hps : ∀ x args W, G x args W → args.size = ps.size)
    (I : (Nat → Prop) → List α → World → Prop) (Ix : Code → (Nat → Prop) → World → Prop) (O0 : Nat → Prop) (hC : ∀ d, Cons I (Ix d) w.heap.size T) (h0 : I O0 [] w)
    (hround : ∀ (l : Nat) (O : Nat → Prop) (pre : List α) (x : α) (args : Array Value) (W : World), l = w.heap.size → (∃ r, W.heap[l]? = some (.loop r)) → I O pre W → ¬ O l → Keeps O0 w W → (∀ k, k < w.heap.size → O k → O0 k) → (pre ++ [x]) <+: xs → G x args W → w.heap.size + 1 ≤ W.heap.size →
      assign.wpIn (Fence.wide.inRound l) n P (Exit.then (fun a' W' => Below W.heap.size W W' ∧ ∀ W'', Keeps (fun k => k = l) W' W'' → body.wpIn (Fence.wide.inRound l) n P (oPost O I Ix (pre ++ [x]) W'') a' W'') (fun _ _ _ => False))
        { tmps := (ps.zip args).foldl (fun t (p, v) => t.setIfInBounds p v) a.tmps, defers := [] } W)
    (hdone : ∀ (O : Nat → Prop) (W : World), I O xs W → Keeps O0 w W → (∀ k, k < w.heap.size + 1 → O k → O0 k) → Q .normal a W)
    (hstop : ∀ (d : Code) (O : Nat → Prop) (W : World), Ix d O W → Keeps O0 w W → (∀ k, k < w.heap.size + 1 → O k → O0 k) → d.wpIn (Fence.wide.inRound l0) n P Q a W) :
    (Code.rangeFunc g ps assign body).wpIn (Fence.wide.inRound l0) n P Q a w := by
  have hO0 := (hC .ret).lt _ _ _ h0
  refine wpIn_rangeFunc ?_
  intro fn hfn
  obtain ⟨rec, hrec⟩ : ∃ rec : LoopState → Option Code → Loop, rec = fun st pe => { state := st, pending := pe, fn, tmps := a.tmps, params := ps, assign, body, defers := r0.defers } := ⟨_, rfl⟩
  obtain ⟨W1, hW1⟩ : ∃ W1, w.alloc (.loop (rec .ready none)) = W1 := ⟨_, rfl⟩
  have hL1 : W1.heap[w.heap.size]? = some (.loop (rec .ready none)) := by
    rw [← hW1]; exact World.alloc_heap_new w _
  have hb1 : Below w.heap.size w W1 := by
    rw [← hW1]; exact (Below.refl _ w).alloc (Nat.le_refl _) _
  have hs1 : W1.heap.size = w.heap.size + 1 := by rw [← hW1]; simp
  refine ⟨w.heap.size, [], W1, { target := .fn (.func gf) lb, args := #[.func (.yield w.heap.size) #[] #[]] }, W1, gf,
    #[.func (.yield w.heap.size) #[] #[]] ++ lb, W1, ?_, ?_, ?_, ?_, (fun h => by cases h), ?_⟩
  · rw [← hW1, hrec]; exact run_enterLoop_inner hl0 _ _ _ _ _
  · simp only [resolve, hg]
    simp [go_sem]
  · intro f' _; trivial
  · simp [invoke, go_sem, eg]
  · show CallsIn Fence.wide (n - 1) P gf _ W1 _
    refine (CallsIn.anyD (m := 0) (hseq w.heap.size
      (fun Op pre W => ∃ O, (∀ k, Op k ↔ (O k ∨ k = w.heap.size)) ∧ I O pre W ∧ W.heap[w.heap.size]? = some (.loop (rec .ready none)) ∧ (∀ k, k < w.heap.size + 1 → O k → O0 k) ∧ Keeps O0 w W)
      (fun Op W => ∃ O d, (∀ k, Op k ↔ (O k ∨ k = w.heap.size)) ∧ Ix d O W ∧ W.heap[w.heap.size]? = some (.loop (rec .done (some d))) ∧ (∀ k, k < w.heap.size + 1 → O k → O0 k) ∧ Keeps O0 w W)
      (w.heap.size + 1) W1 (fun k => O0 k ∨ k = w.heap.size) (hR _ hb1) (by omega) ?cons ?rnd
      ⟨O0, fun _ => Iff.rfl, (hC .ret).keep _ _ _ _ h0 (Keeps.of_all hb1), hL1, fun _ _ h => h, Keeps.of_all hb1⟩)).mono ?_
    case cons =>
      refine ⟨?_, ?_, ?_, ?_⟩
      · rintro Op s A ⟨O, ho, hi, hl, hm, hk⟩ k hk2
        rcases (ho k).1 hk2 with h | rfl
        · exact (hC .ret).lt _ _ _ hi k h
        · exact ⟨(Array.getElem?_eq_some_iff.1 hl).1, fun ht => by have := hT _ ht; omega⟩
      · rintro Op A ⟨O, d, ho, hi, hl, hm, hk⟩ k hk2
        rcases (ho k).1 hk2 with h | rfl
        · exact (hC d).ltx _ _ hi k h
        · exact ⟨(Array.getElem?_eq_some_iff.1 hl).1, fun ht => by have := hT _ ht; omega⟩
      · rintro Op s A B ⟨O, ho, hi, hl, hm, hk⟩ hb
        refine ⟨O, ho, (hC .ret).keep _ _ _ _ hi (hb.mono (fun k _ e => ⟨by omega, fun h => e.2 ((ho k).2 (Or.inl h))⟩)), (hb.block _ (Array.getElem?_eq_some_iff.1 hl).1 (fun e => by omega)).trans hl, hm, ?_⟩
        exact ⟨hb.os.trans hk.os, hb.tape.trans hk.tape, hb.output.trans hk.output, Nat.le_trans hk.size hb.size, fun i hi2 hx => (hb.block i (Nat.lt_of_lt_of_le hi2 hk.size) (fun e => by omega)).trans (hk.block i hi2 hx)⟩
      · rintro Op A B ⟨O, d, ho, hi, hl, hm, hk⟩ hb
        refine ⟨O, d, ho, (hC d).keepx _ _ _ hi (hb.mono (fun k _ e => ⟨by omega, fun h => e.2 ((ho k).2 (Or.inl h))⟩)), (hb.block _ (Array.getElem?_eq_some_iff.1 hl).1 (fun e => by omega)).trans hl, hm, ?_⟩
        exact ⟨hb.os.trans hk.os, hb.tape.trans hk.tape, hb.output.trans hk.output, Nat.le_trans hk.size hb.size, fun i hi2 hx => (hb.block i (Nat.lt_of_lt_of_le hi2 hk.size) (fun e => by omega)).trans (hk.block i hi2 hx)⟩
    case rnd =>
      rintro Op pre x args W ⟨O, ho, hi, hl, hm, hkp⟩ hpre hG hsz0
      have hlt : w.heap.size < W.heap.size := (Array.getElem?_eq_some_iff.1 hl).1
      have hOl : ¬ O w.heap.size := fun h => by have := (hO0 _ (hm _ (by omega) h)).1; omega
      have hy := run_yield (P := P) (args := args) hl (by rw [hrec]; exact hps x args W hG)
      rw [hrec] at hy
      refine YieldAt.anyD (m := n) ⟨fn, _, assign, body, hy, roundIn_of_wpIn hfn (wpIn_mono (hround w.heap.size O pre x args W rfl ⟨_, hl⟩ hi hOl hkp (fun k hk2 h => hm k (by omega) h) hpre hG (by omega)) ?_)⟩
      rintro e a' Wa hp
      cases e with
      | normal =>
        obtain ⟨hka, hb⟩ := hp
        have hla := (hka.block _ hlt).trans hl
        have hlta : w.heap.size < Wa.heap.size := (Array.getElem?_eq_some_iff.1 hla).1
        refine ⟨_, run_beginRound hla (by rw [hrec]), ?_⟩
        obtain ⟨Wb, hWb⟩ : ∃ Wb, Wa.putObj w.heap.size (.loop { rec .ready none with state := .busy }) = Wb := ⟨_, rfl⟩
        have hl2 : Wb.heap[w.heap.size]? = some (.loop { rec .ready none with state := .busy }) := by rw [← hWb]; exact World.putObj_heap_same hlta
        have hkb : Keeps (fun k => k = w.heap.size) Wa Wb := by rw [← hWb]; exact Keeps.put (X := fun k => k = w.heap.size) (Keeps.refl _ Wa) (l := w.heap.size) rfl _
        have hsz := hkb.size
        have hszA := hka.size
        rw [hWb]
        refine wpIn_mono (hb _ hkb) ?_
        have fin : ∀ (W3 : World) (O' : Nat → Prop), Keeps O Wb W3 → (∀ k, k < Wb.heap.size → O' k → O k) → ∀ (st : LoopState) (pe : Option Code),
            (W3.heap[w.heap.size]? = some (.loop { rec .ready none with state := .busy })) ∧
            (∀ k, k < W.heap.size → (O' k ∨ k = w.heap.size) → Op k) ∧ (∀ k, k < w.heap.size + 1 → O' k → O0 k) ∧ ¬ O' w.heap.size ∧ Keeps O0 w (W3.putObj w.heap.size (.loop (rec st pe))) ∧ Keeps Op W (W3.putObj w.heap.size (.loop (rec st pe))) := by
          intro W3 O' hk3 hm3 st pe
          have hl3 := (hk3.block _ (by omega) hOl).trans hl2
          have kA : Keeps Op W Wa := Keeps.of_all hka
          have kB : Keeps Op W Wb := kA.trans (hkb.mono (fun k _ e => (ho k).2 (Or.inr e)))
          have k3 : Keeps Op W W3 := kB.trans (hk3.mono (fun k _ e => (ho k).2 (Or.inl e)))
          have kP : Keeps Op W (W3.putObj w.heap.size (.loop (rec st pe))) := k3.put ((ho _).2 (Or.inr rfl)) _
          refine ⟨hl3, ?_, ?_, ?_, ?_, kP⟩
          · rintro k hk4 (h | rfl)
            · exact (ho k).2 (Or.inl (hm3 k (by omega) h))
            · exact (ho _).2 (Or.inr rfl)
          · intro k hk4 h
            exact hm k hk4 (hm3 k (by omega) h)
          · intro h
            exact hOl (hm3 _ (by omega) h)
          · refine ⟨kP.os.trans hkp.os, kP.tape.trans hkp.tape, kP.output.trans hkp.output, Nat.le_trans hkp.size kP.size, fun i hi2 hx => (kP.block i (Nat.lt_of_lt_of_le hi2 hkp.size) (fun e => ?_)).trans (hkp.block i hi2 hx)⟩
            rcases (ho i).1 e with h | rfl
            · exact hx (hm i (by omega) h)
            · omega
        rintro e a3 W3 hp
        cases e with
        | normal =>
          obtain ⟨hk3, O', hm3, hi3⟩ := hp
          obtain ⟨hl3, g1, g2, g3, g4, g5⟩ := fin W3 O' hk3 hm3 .ready none
          have hr := run_endRound (P := P) none hl3
          have hlt3 : w.heap.size < W3.heap.size := (Array.getElem?_eq_some_iff.1 hl3).1
          rw [hrec] at hr
          rw [hrec] at g4 g5
          refine ⟨_, _, hr, g5, fun k => O' k ∨ k = w.heap.size, g1, .inl ⟨rfl, O', fun _ => Iff.rfl, (hC .ret).keep _ _ W3 _ hi3 ?_, ?_, g2, g4⟩⟩
          · exact Keeps.put (Keeps.refl _ W3) (l := w.heap.size) ⟨by omega, g3⟩ _
          · rw [hrec]; exact World.putObj_heap_same hlt3
        | ret =>
          obtain ⟨hk3, O', hm3, hi3⟩ := hp
          obtain ⟨hl3, g1, g2, g3, g4, g5⟩ := fin W3 O' hk3 hm3 .done (some .ret)
          have hr := run_endRound (P := P) (some .ret) hl3
          have hlt3 : w.heap.size < W3.heap.size := (Array.getElem?_eq_some_iff.1 hl3).1
          rw [hrec] at hr
          rw [hrec] at g4 g5
          refine ⟨_, _, hr, g5, fun k => O' k ∨ k = w.heap.size, g1, .inr ⟨rfl, O', .ret, fun _ => Iff.rfl, (hC .ret).keepx _ W3 _ hi3 ?_, ?_, g2, g4⟩⟩
          · exact Keeps.put (Keeps.refl _ W3) (l := w.heap.size) ⟨by omega, g3⟩ _
          · rw [hrec]; exact World.putObj_heap_same hlt3
        | exit id =>
          obtain ⟨hk3, O', hm3, hi3⟩ := hp
          obtain ⟨hl3, g1, g2, g3, g4, g5⟩ := fin W3 O' hk3 hm3 .done (some (.exit id))
          have hr := run_endRound (P := P) (some (.exit id)) hl3
          have hlt3 : w.heap.size < W3.heap.size := (Array.getElem?_eq_some_iff.1 hl3).1
          rw [hrec] at hr
          rw [hrec] at g4 g5
          refine ⟨_, _, hr, g5, fun k => O' k ∨ k = w.heap.size, g1, .inr ⟨rfl, O', .exit id, fun _ => Iff.rfl, (hC (.exit id)).keepx _ W3 _ hi3 ?_, ?_, g2, g4⟩⟩
          · exact Keeps.put (Keeps.refl _ W3) (l := w.heap.size) ⟨by omega, g3⟩ _
          · rw [hrec]; exact World.putObj_heap_same hlt3
        | goto t => exact hp.elim
        | panic ch => exact hp.elim
        | outgrown => exact hp.elim
      | ret => exact hp.elim
      | exit id => exact hp.elim
      | goto t => exact hp.elim
      | panic ch => exact hp.elim
      | outgrown => exact hp.elim
    · rintro e W2 ⟨⟨v, rfl⟩, _, Op, _, h2⟩
      rcases h2 with ⟨O, ho, hi, hl, hm, hkp⟩ | ⟨O, d, ho, hi, hl, hm, hkp⟩
      · have hOl : ¬ O w.heap.size := fun h => by have := (hO0 _ (hm _ (by omega) h)).1; omega
        have hlt2 : w.heap.size < W2.heap.size := (Array.getElem?_eq_some_iff.1 hl).1
        refine ⟨none, _, by have := run_endLoop (P := P) hl (by rw [hrec]; simp); rw [hrec] at this; exact this, hdone O _ ((hC .ret).keep _ _ W2 _ hi ?_) ?_ hm⟩
        · exact Keeps.put (Keeps.refl _ W2) (l := w.heap.size) ⟨by omega, hOl⟩ _
        · exact hkp.thenPut (by omega) _
      · have hOl : ¬ O w.heap.size := fun h => by have := (hO0 _ (hm _ (by omega) h)).1; omega
        have hlt2 : w.heap.size < W2.heap.size := (Array.getElem?_eq_some_iff.1 hl).1
        refine ⟨some d, _, by have := run_endLoop (P := P) hl (by rw [hrec]; simp); rw [hrec] at this; exact this, hstop d O _ ((hC d).keepx _ W2 _ hi ?_) ?_ hm⟩
        · exact Keeps.put (Keeps.refl _ W2) (l := w.heap.size) ⟨by omega, hOl⟩ _
        · exact hkp.thenPut (by omega) _

end Go.Proofs.YtdmlamnonbmboaaDoor

namespace Go.Proofs.YtdmlamnonbmboaaDoor
set_option maxRecDepth 20000

theorem own_sd {Z : List Int} {t f : Nat} (ht : t ≤ 1) (h : ownB Z t f = true) : sd (zg Z f) = (t : Int) := by
  have h1 := of_decide_eq_true h
  unfold pci at h1
  unfold sd
  have : t = 0 ∨ t = 1 := by omega
  rcases this with rfl | rfl
  · simp at h1; rw [if_pos h1]; rfl
  · simp at h1; rw [if_neg (by omega), if_pos h1]; rfl

/-- NO MOVE TAKES A KING. -/
theorem tg_nok {Z : List Int} {t : Nat} {k e : Int} {f q Ko : Nat} (ht : t ≤ 1) (hS : Std Z) (hKo : KgAt Z (1 - t) Ko) (hch : chk Z (1 - t) = false) (hf : f < 64) (hq : q < 64) (ho : ownB Z t f = true) (h : tgB Z t k e f q = true) : q ≠ Ko := fun e0 => by
  have hz := (hKo.2 Ko hKo.1).2 rfl
  have hz0 : zg Z q ≠ 0 := by rw [e0, hz]; unfold pc; split <;> omega
  have hno : f ∉ atL Z Ko t := fun hm => by
    unfold chk at hch
    rw [hKo.kg] at hch
    have := of_decide_eq_false hch
    rw [show 1 - (1 - t) = t by omega] at this
    have h2 : atL Z Ko t = [] := Classical.byContradiction this
    rw [h2] at hm
    cases hm
  have hb := hS.2.1 f hf
  have hx : KX (zg Z f) := KX_of hb.1 hb.2.1 (fun e1 => by have := of_decide_eq_true ho; rw [e1] at this; unfold pci at this; split at this <;> omega)
  unfold tgB at h
  simp only [Bool.or_eq_true, Bool.and_eq_true, decide_eq_true_eq, beq_iff_eq] at h
  rcases h with (h | h) | h
  · apply hno
    unfold atL
    simp only [List.mem_filter, List.mem_range, Bool.and_eq_true, beq_iff_eq]
    exact ⟨hf, own_sd ht ho, by rw [← e0]; exact (rch_iff Z hf hq hx).2 h.1⟩
  · have h2 := h.2
    unfold ahB at h2
    simp only [Bool.or_eq_true, Bool.and_eq_true, beq_iff_eq] at h2
    rcases h2 with ⟨h3, h4 | h4⟩
    · exact hz0 (by rw [h4]; exact h3)
    · exact hz0 (by rw [h4.2]; exact h4.1.2)
  · have h2 := h.2
    unfold casB at h2
    simp only [List.any_eq_true, List.mem_range, Bool.and_eq_true, beq_iff_eq] at h2
    obtain ⟨i, hi, hcs, hqi⟩ := h2
    have hm : cTo i ∈ cBt i := by
      match i, hi with
      | 0, _ => decide
      | 1, _ => decide
      | 2, _ => decide
      | 3, _ => decide
    exact hz0 (by rw [hqi]; exact (csB_at hcs).2.2.1 _ hm)

/-- The other's king stays. -/
theorem king_other {Z : List Int} {t : Nat} {k e : Int} {f q n Ko : Nat} (ht : t ≤ 1) (hS : Std Z) (hC : Cas Z k) (hP : Pas Z t e) (hKo : KgAt Z (1 - t) Ko) (hch : chk Z (1 - t) = false) (hf : f < 64) (hq : q < 64) (ho : ownB Z t f = true) (h : tgB Z t k e f q = true) (hn : n ∈ inB Z f q) : KgAt (mvZ Z t e f q n) (1 - t) Ko := by
  have hqK := tg_nok ht hS hKo hch hf hq ho h
  have hv := (pci_pos (vl_own ho hn)).2 5
  have hfv := (pci_pos (of_decide_eq_true ho)).2 5
  have hz := (hKo.2 Ko hKo.1).2 rfl
  have hfK : f ≠ Ko := fun e0 => hfv (by rw [e0]; exact hz)
  have hpc0 : (0 : Int) ≠ pc (1 - t) 6 := by unfold pc; split <;> omega
  refine ⟨hKo.1, fun p hp => ?_⟩
  rcases cI_of hS hC hf ho h with ⟨hc, _, _⟩ | ⟨i, hi, hc, hcs, hfk, hqk, h6, hrk⟩
  · cases htk : tkB Z e f q with
    | false =>
      rw [mvZ_plain hS.1 hf hq hc htk]
      by_cases e1 : p = q
      · rw [if_pos e1]; exact ⟨fun a => absurd a hv, fun a => absurd (e1.symm.trans a) hqK⟩
      · rw [if_neg e1]
        by_cases e2 : p = f
        · rw [if_pos e2]; exact ⟨fun a => absurd a hpc0, fun a => absurd (e2.symm.trans a) hfK⟩
        · rw [if_neg e2]; exact hKo.2 p hp
    | true =>
      have hta := tk_at ht hS hP hf hq ho h htk
      rw [mvZ_take hS.1 hf hq hc hta.2.2.1 htk]
      by_cases e0 : p = bk t q
      · rw [if_pos e0]
        refine ⟨fun a => absurd a hpc0, fun a => ?_⟩
        have h1 := (hKo.2 p hp).2 a
        rw [e0, hta.2.2.2.1] at h1
        unfold pc at h1
        split at h1 <;> omega
      · rw [if_neg e0]
        by_cases e1 : p = q
        · rw [if_pos e1]; exact ⟨fun a => absurd a hv, fun a => absurd (e1.symm.trans a) hqK⟩
        · rw [if_neg e1]
          by_cases e2 : p = f
          · rw [if_pos e2]; exact ⟨fun a => absurd a hpc0, fun a => absurd (e2.symm.trans a) hfK⟩
          · rw [if_neg e2]; exact hKo.2 p hp
  · have hcp := cas_pl hi
    rw [mvZ_cas hS.1 hi hc, hrk]
    have hr4 : pc t 4 ≠ pc (1 - t) 6 := by unfold pc; split <;> split <;> omega
    have hov : zg Z (cOv i) = 0 := (csB_at hcs).2.2.1 _ (by
      match i, hi with
      | 0, _ => decide
      | 1, _ => decide
      | 2, _ => decide
      | 3, _ => decide)
    by_cases e1 : p = cOv i
    · rw [if_pos e1]
      exact ⟨fun a => absurd a hr4, fun a => absurd ((hKo.2 p hp).2 a) (by rw [e1, hov]; exact hpc0)⟩
    · rw [if_neg e1]
      by_cases e2 : p = rkP i
      · rw [if_pos e2]
        exact ⟨fun a => absurd a hpc0, fun a => absurd ((hKo.2 p hp).2 a) (by rw [e2, hrk]; exact hr4)⟩
      · rw [if_neg e2]
        by_cases e4 : p = cTo i
        · rw [if_pos e4]; exact ⟨fun a => absurd a hv, fun a => absurd ((hqk.trans e4.symm).trans a) hqK⟩
        · rw [if_neg e4]
          by_cases e5 : p = kgP i
          · rw [if_pos e5]; exact ⟨fun a => absurd a hpc0, fun a => absurd ((hfk.trans e5.symm).trans a) hfK⟩
          · rw [if_neg e5]; exact hKo.2 p hp

theorem vl_edge {Z : List Int} {t f q n : Nat} (hq : q < 64) (hn : n ∈ inB Z f q) (h : (vl Z t f n).natAbs = 1) : 8 ≤ q ∧ q < 56 := by
  have h1 := inB_lt hn
  unfold vl at h
  by_cases h0 : n = 0
  · rw [if_pos h0] at h
    have h2 := h1.2.2 h0
    have h3 : ¬ edge (q : Int) = true := fun he => h2 ⟨h, he⟩
    unfold edge at h3
    simp at h3
    omega
  · rw [if_neg h0] at h
    have h2 := h1.2.1 h0
    unfold pci at h
    split at h <;> omega

/-- THE PIECES STAND BEHIND A MOVE AS THEY MAY. -/
theorem std_after {Z : List Int} {t : Nat} {k e : Int} {f q n K Ko : Nat} (ht : t ≤ 1) (hS : Std Z) (hC : Cas Z k) (hP : Pas Z t e) (hK : KgAt Z t K) (hKo : KgAt Z (1 - t) Ko) (hch : chk Z (1 - t) = false) (hf : f < 64) (hq : q < 64) (ho : ownB Z t f = true) (h : tgB Z t k e f q = true) (hn : n ∈ inB Z f q) : Std (mvZ Z t e f q n) := by
  have k1 := king_after ht hS hC hP hK hf hq ho h hn
  have k2 := king_other ht hS hC hP hKo hch hf hq ho h hn
  have hpz := pz_of (t := t) (e := e) (f := f) (q := q) (n := n) hS (inB_lt hn).1
  refine ⟨hpz.1, fun p hp => ⟨(hpz.2 p).1, (hpz.2 p).2, fun h1 => ?_⟩, ?_, ?_⟩
  · have hold : (zg Z p).natAbs = 1 → 8 ≤ p ∧ p < 56 := (hS.2.1 p hp).2.2
    rcases cI_of hS hC hf ho h with ⟨hc, _, _⟩ | ⟨i, hi, hc, hcs, hfk, hqk, h6, hrk⟩
    · cases htk : tkB Z e f q with
      | false =>
        rw [mvZ_plain hS.1 hf hq hc htk] at h1
        by_cases e1 : p = q
        · rw [if_pos e1] at h1; rw [e1]; exact vl_edge hq hn h1
        · rw [if_neg e1] at h1
          by_cases e2 : p = f
          · rw [if_pos e2] at h1; simp at h1
          · rw [if_neg e2] at h1; exact hold h1
      | true =>
        have hta := tk_at ht hS hP hf hq ho h htk
        rw [mvZ_take hS.1 hf hq hc hta.2.2.1 htk] at h1
        by_cases e0 : p = bk t q
        · rw [if_pos e0] at h1; simp at h1
        · rw [if_neg e0] at h1
          by_cases e1 : p = q
          · rw [if_pos e1] at h1; rw [e1]; exact vl_edge hq hn h1
          · rw [if_neg e1] at h1
            by_cases e2 : p = f
            · rw [if_pos e2] at h1; simp at h1
            · rw [if_neg e2] at h1; exact hold h1
    · rw [mvZ_cas hS.1 hi hc, hrk] at h1
      by_cases e1 : p = cOv i
      · rw [if_pos e1] at h1; unfold pc at h1; split at h1 <;> omega
      · rw [if_neg e1] at h1
        by_cases e2 : p = rkP i
        · rw [if_pos e2] at h1; simp at h1
        · rw [if_neg e2] at h1
          by_cases e4 : p = cTo i
          · rw [if_pos e4] at h1; rw [e4, ← hqk]; exact vl_edge hq hn h1
          · rw [if_neg e4] at h1
            by_cases e5 : p = kgP i
            · rw [if_pos e5] at h1; simp at h1
            · rw [if_neg e5] at h1; exact hold h1
  · have : t = 0 ∨ t = 1 := by omega
    rcases this with rfl | rfl
    · exact cnt_of k1.1 k1.2
    · exact cnt_of k2.1 k2.2
  · have : t = 0 ∨ t = 1 := by omega
    rcases this with rfl | rfl
    · exact cnt_of k2.1 k2.2
    · exact cnt_of k1.1 k1.2

end Go.Proofs.YtdmlamnonbmboaaDoor

namespace Go.Proofs.YtdmlamnonbmboaaDoor
set_option maxRecDepth 20000

/-- What a move leaves as it was. -/
theorem mvZ_old {Z : List Int} {t : Nat} {k e : Int} {f q n : Nat} (ht : t ≤ 1) (hS : Std Z) (hC : Cas Z k) (hP : Pas Z t e) (hf : f < 64) (hq : q < 64) (ho : ownB Z t f = true) (h : tgB Z t k e f q = true) {p : Nat} (hpf : p ≠ f) (hpq : p ≠ q) (hpb : zg Z p ≠ pc (1 - t) 1 ∨ tkB Z e f q = false) (hpc : ∀ i, i < 4 → sdP i = t → (zg Z f).natAbs = 6 → f = kgP i → q = cTo i → p ≠ rkP i ∧ p ≠ cOv i) : zg (mvZ Z t e f q n) p = zg Z p := by
  rcases cI_of hS hC hf ho h with ⟨hc, _, _⟩ | ⟨i, hi, hc, hcs, hfk, hqk, h6, hrk⟩
  · cases htk : tkB Z e f q with
    | false => rw [mvZ_plain hS.1 hf hq hc htk, if_neg hpq, if_neg hpf]
    | true =>
      have hta := tk_at ht hS hP hf hq ho h htk
      have hb : p ≠ bk t q := fun e0 => by
        rcases hpb with hb | hb
        · exact hb (by rw [e0]; exact hta.2.2.2.1)
        · rw [hb] at htk; cases htk
      rw [mvZ_take hS.1 hf hq hc hta.2.2.1 htk, if_neg hb, if_neg hpq, if_neg hpf]
  · have h1 := hpc i hi (csB_at hcs).1 h6 hfk hqk
    rw [mvZ_cas hS.1 hi hc, if_neg h1.2, if_neg h1.1, if_neg (by rw [← hqk]; exact hpq), if_neg (by rw [← hfk]; exact hpf)]

theorem cas_apart : ∀ i, i < 4 → ∀ j, j < 4 → (sdP i = sdP j → kgP i = kgP j) ∧ (sdP i ≠ sdP j → kgP i ≠ rkP j ∧ kgP i ≠ cOv j ∧ rkP i ≠ rkP j ∧ rkP i ≠ cOv j) := by decide

/-- RIGHTS THAT ARE LEFT STILL HAVE THEIR KINGS AND ROOKS. -/
theorem cas_after {Z : List Int} {t : Nat} {k k' e : Int} {f q n Ko : Nat} (ht : t ≤ 1) (hS : Std Z) (hC : Cas Z k) (hP : Pas Z t e) (hKo : KgAt Z (1 - t) Ko) (hch : chk Z (1 - t) = false) (hf : f < 64) (hq : q < 64) (ho : ownB Z t f = true) (h : tgB Z t k e f q = true)
    (h0 : 0 ≤ k') (h15 : k' ≤ 15) (hk : ∀ i, i < 4 → bitB k' i = true → bitB k i = true ∧ f ≠ kgP i ∧ f ≠ rkP i ∧ q ≠ rkP i) : Cas (mvZ Z t e f q n) k' := by
  refine ⟨h0, h15, fun i hi hb => ?_⟩
  obtain ⟨hbk, hfk, hfr, hqr⟩ := hk i hi hb
  obtain ⟨hzk, hzr⟩ := hC.2.2 i hi hbk
  have hqk : q ≠ kgP i := fun e0 => by
    by_cases hs : sdP i = t
    · have := tg_no ht hP h
      unfold ownB at this
      rw [e0, hzk, hs] at this
      have := of_decide_eq_false this
      unfold pci pc at this
      split at this <;> simp at this
    · have hsi : sdP i = 1 - t := by
        have : sdP i ≤ 1 := (kr_lt hi).2.2
        omega
      have := tg_nok ht hS hKo hch hf hq ho h
      apply this
      refine (hKo.2 q hq).1 ?_
      rw [e0, hzk, hsi]
  have hp1 : ∀ s, pc s 6 ≠ pc (1 - t) 1 := fun s => by unfold pc; split <;> split <;> omega
  have hp4 : ∀ s, pc s 4 ≠ pc (1 - t) 1 := fun s => by unfold pc; split <;> split <;> omega
  have hcas : ∀ j, j < 4 → sdP j = t → f = kgP j → sdP i ≠ sdP j := fun j hj hs hfj hij => hfk (by rw [hfj]; exact ((cas_apart i hi j hj).1 hij).symm)
  constructor
  · rw [mvZ_old ht hS hC hP hf hq ho h (fun e0 => hfk e0.symm) (fun e0 => hqk e0.symm) (Or.inl (by rw [hzk]; exact hp1 _)) (fun j hj hs _ hfj _ => ⟨((cas_apart i hi j hj).2 (hcas j hj hs hfj)).1, ((cas_apart i hi j hj).2 (hcas j hj hs hfj)).2.1⟩)]
    exact hzk
  · rw [mvZ_old ht hS hC hP hf hq ho h (fun e0 => hfr e0.symm) (fun e0 => hqr e0.symm) (Or.inl (by rw [hzr]; exact hp4 _)) (fun j hj hs _ hfj _ => ⟨((cas_apart i hi j hj).2 (hcas j hj hs hfj)).2.2.1, ((cas_apart i hi j hj).2 (hcas j hj hs hfj)).2.2.2⟩)]
    exact hzr

/-- THE PLACE THAT A PAWN HAS GONE OVER IS ONE. -/
theorem pas_after {Z : List Int} {t : Nat} {k e : Int} {f q n : Nat} (ht : t ≤ 1) (hS : Std Z) (hP : Pas Z t e) (hf : f < 64) (hq : q < 64) (ho : ownB Z t f = true) (h : tgB Z t k e f q = true) (hn : n ∈ inB Z f q) :
    Pas (mvZ Z t e f q n) ((1 - t : Nat) : Int) (if (zg Z f).natAbs = 1 ∧ (q : Int) = (f : Int) + pci t 8 + pci t 8 then (f : Int) + pci t 8 else -1) := by
  split
  · rename_i hh
    obtain ⟨hpw, hqq⟩ := hh
    have hb := hS.2.1 f hf
    have hin := hb.2.2 hpw
    have hzf := own_pc (of_decide_eq_true ho)
    rw [hpw] at hzf
    have hx : KX (zg Z f) := KX_of hb.1 hb.2.1 (fun e1 => by rw [e1] at hpw; simp at hpw)
    have hF : pci t 8 = 8 ∨ pci t 8 = -8 := by unfold pci; split <;> omega
    have hah : ahB Z t f q = true := by
      have h' := h
      unfold tgB at h'
      simp only [Bool.or_eq_true, Bool.and_eq_true, decide_eq_true_eq, beq_iff_eq] at h'
      rcases h' with (h1 | h1) | h1
      · exfalso
        have h2 := (rch_iff Z hf hq hx).2 h1.1
        rw [not_atR_file hpw (by unfold dX; omega)] at h2
        cases h2
      · exact h1.2
      · omega
    unfold ahB at hah
    simp only [Bool.and_eq_true, beq_iff_eq, Bool.or_eq_true] at hah
    obtain ⟨hz1, hz2⟩ := hah
    have ho1 : (on1 t f : Int) = (f : Int) + pci t 8 := by unfold on1 fw; omega
    have hne : q ≠ on1 t f := fun e0 => by omega
    have hed : edge ((f : Int) - fw t) = true := by
      rcases hz2 with h1 | h1
      · exact absurd h1 hne
      · exact h1.1.1
    have hc : cI Z f q = none := by unfold cI; rw [if_neg (by omega)]
    have hzq : zg Z q = 0 := by
      rcases hz2 with h1 | h1
      · exact absurd h1 hne
      · rw [h1.2]; exact h1.1.2
    have htk : tkB Z e f q = false := by
      cases htk : tkB Z e f q with
      | false => rfl
      | true =>
        have hta := tk_at ht hS hP hf hq ho h htk
        exfalso
        have hbk : bk t q = on1 t f := by unfold bk on1 fw; omega
        have h1 := hta.2.2.2.1
        rw [hbk, hz1] at h1
        unfold pc at h1
        split at h1 <;> omega
    have hn0 : n = 0 := by
      unfold inB at hn
      rw [if_neg (fun hh => by
        have h1 := hh.2
        unfold edge at h1 hed
        unfold fw at hed
        simp at h1 hed
        omega)] at hn
      simpa using hn
    have hpl := fun p => mvZ_plain (t := t) (e := e) (n := n) hS.1 hf hq hc htk p
    have hvq : zg (mvZ Z t e f q n) q = zg Z f := by rw [hpl q, if_pos rfl]; unfold vl; rw [if_pos hn0]
    have hvf : zg (mvZ Z t e f q n) f = 0 := by rw [hpl f, if_neg (by omega), if_pos rfl]
    have hv1 : zg (mvZ Z t e f q n) (on1 t f) = 0 := by rw [hpl, if_neg (Ne.symm hne), if_neg (by omega)]; exact hz1
    unfold Pas
    unfold edge fw at hed
    simp at hed
    have : t = 0 ∨ t = 1 := by omega
    rcases this with rfl | rfl
    · have hF8 : pci 0 8 = 8 := rfl
      rw [hF8] at hqq ho1 hed ⊢
      right; right
      refine ⟨rfl, by omega, by omega, ?_, ?_, ?_⟩
      · rw [show ((f : Int) + 8).toNat = on1 0 f by omega]; exact hv1
      · rw [show ((f : Int) + 8).toNat + 8 = q by omega, hvq, hzf]; rfl
      · rw [show ((f : Int) + 8).toNat - 8 = f by omega]; exact hvf
    · have hF8 : pci 1 8 = -8 := rfl
      rw [hF8] at hqq ho1 hed ⊢
      right; left
      refine ⟨rfl, by omega, by omega, ?_, ?_, ?_⟩
      · rw [show ((f : Int) + -8).toNat = on1 1 f by omega]; exact hv1
      · rw [show ((f : Int) + -8).toNat - 8 = q by omega, hvq, hzf]; rfl
      · rw [show ((f : Int) + -8).toNat + 8 = f by omega]; exact hvf
  · exact Or.inl rfl

end Go.Proofs.YtdmlamnonbmboaaDoor

namespace Go.Proofs.YtdmlamnonbmboaaDoor
set_option maxRecDepth 20000

/-- BEHIND EACH MOVE THE POSITION MAY BE. -/
theorem may_after {Z : List Int} {t : Nat} {k k' e h h' fl fl' : Int} {f q n K : Nat} (hM : MayC Z (t : Nat) k e h fl) (hK : KgAt Z t K) (hf : f < 64) (hq : q < 64) (ho : ownB Z t f = true) (hg : tgB Z t k e f q = true) (hn : n ∈ inB Z f q) (hx : exB Z t e K f q n = false)
    (h0 : 0 ≤ k') (h15 : k' ≤ 15) (hk : ∀ i, i < 4 → bitB k' i = true → bitB k i = true ∧ f ≠ kgP i ∧ f ≠ rkP i ∧ q ≠ rkP i) (hh : 0 ≤ h' ∧ h' ≤ 999) (hfl : 1 ≤ fl' ∧ fl' ≤ 999) :
    MayC (mvZ Z t e f q n) ((1 - t : Nat) : Int) k' (if (zg Z f).natAbs = 1 ∧ (q : Int) = (f : Int) + pci t 8 + pci t 8 then (f : Int) + pci t 8 else -1) h' fl' := by
  obtain ⟨hS, htt, hC, hP, _, _, _, _, hch⟩ := hM
  have ht : t ≤ 1 := by omega
  have hch' : chk Z (1 - t) = false := by
    have : (1 - ((t : Nat) : Int)).toNat = 1 - t := by omega
    rw [this] at hch; exact hch
  obtain ⟨Ko, hKo⟩ := hS.kgAt (1 - t)
  have hS' := std_after ht hS hC hP hK hKo hch' hf hq ho hg hn
  refine ⟨hS', by omega, cas_after ht hS hC hP hKo hch' hf hq ho hg h0 h15 hk, pas_after ht hS hP hf hq ho hg hn, hh.1, hh.2, hfl.1, hfl.2, ?_⟩
  have e1 : (1 - ((1 - t : Nat) : Int)).toNat = t := by omega
  rw [e1]
  have k1 := king_after ht hS hC hP hK hf hq ho hg hn
  unfold chk
  rw [k1.kg]
  have h1 : atk (mvZ Z t e f q n) (kgA K f q) (1 - t) = [] := by
    unfold exB at hx
    exact Classical.byContradiction (of_decide_eq_false hx)
  have h2 := (atk_nil hS'.pz k1.1 (show 1 - t = 0 ∨ 1 - t = 1 by omega)).1 h1
  exact decide_eq_false (fun hne => hne h2)

end Go.Proofs.YtdmlamnonbmboaaDoor
