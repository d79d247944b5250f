/-
  Chess: the small functions on pieces, sides and steps, walked. No conditions beyond those that each theorem bears.
  A region that draws its order, inside a round of a range over a function: by the held walk. No conditions beyond those that each theorem bears.
  A range over a function that changes blocks of its caller's between the rounds and puts them back; its rounds may return. No conditions beyond those that each theorem bears.
-/
import Derived.Test.YtdmlamnonbmboaaGreatDoorV03
import Derived.Test.YtdmlamnonbmboaaGreatDoorV06
import Derived.Test.YtdmlamnonbmboaaGreatDoorV05
import Derived.OrdersHeld
import Derived.OrdersIn
import Derived.Deep.RegionHeld3
namespace Go.Proofs.YtdmlamnonbmboaaGreatDoor
open Go.RowKit Go.Shelf

theorem pieceOf_any (b : Nat) (k : Nat) (hk : k ≤ 6) (w : World) : Calls Tryz.prog 47 #[.int .i64 b, .int .i64 k] w fun e w' => e = .returned (.int .i64 (pc b k)) ∧ w' = w := by
  unfold pc
  by_cases hb : b = 0
  · subst hb
    go_enter Tryz.func47, Tryz.ntmps47
    go_wp2
    go_ret
    exact ⟨rfl, rfl⟩
  · have hb' : ((b : Int) == 0) = false := by simp; omega
    rw [if_neg hb]
    have hw : wrap64 (-(k : Int)) = -(k : Int) := by unfold wrap64; omega
    go_enter Tryz.func47, Tryz.ntmps47
    go_wp2
    go_ret
    exact ⟨by rfl, rfl⟩

theorem other_any (b : Nat) (hb : b ≤ 1) (w : World) : Calls Tryz.prog 43 #[.int .i64 b] w fun e w' => e = .returned (.int .i64 ((1 - b : Nat) : Int)) ∧ w' = w := by
  have h : (1 : Int) - (b : Int) = ((1 - b : Nat) : Int) := by omega
  obtain ⟨q, hq⟩ : ∃ q, 1 - b = q := ⟨_, rfl⟩
  rw [hq] at h ⊢
  have hqb : q ≤ 1 := by omega
  clear hq
  go_enter Tryz.func43, Tryz.ntmps43
  go_wp2
  go_ret
  exact ⟨by rfl, rfl⟩

theorem isSide_any (t : Int) (w : World) : Calls Tryz.prog 39 #[.int .i64 t] w fun e w' => e = .returned (.bool (decide (t = 0 ∨ t = 1))) ∧ w' = w := by
  by_cases h0 : t = 0
  · subst h0
    go_enter Tryz.func39, Tryz.ntmps39
    go_wp2
    go_ret
    exact ⟨by simp, rfl⟩
  · have e0 : (t == 0) = false := by simp [h0]
    by_cases h1 : t = 1
    · subst h1
      go_enter Tryz.func39, Tryz.ntmps39
      go_wp2
      go_ret
      exact ⟨by simp, rfl⟩
    · have e1 : (t == 1) = false := by simp [h1]
      rw [show decide (t = 0 ∨ t = 1) = false by simp [h0, h1]]
      go_enter Tryz.func39, Tryz.ntmps39
      go_wp2
      go_ret
      exact ⟨by simp, rfl⟩

theorem kindOf_any (x : Int) (h1 : -6 ≤ x) (h2 : x ≤ 6) (w : World) : Calls Tryz.prog 74 #[.int .i64 x] w fun e w' => e = .returned (.int .i64 (x.natAbs : Nat)) ∧ w' = w := by
  by_cases h : x < -x
  · have hm : -x = ((x.natAbs : Nat) : Int) := by omega
    rw [← hm]
    clear hm
    go_enter Tryz.func74, Tryz.ntmps74
    go_wp2 <;> first | omega | (go_ret; exact ⟨rfl, rfl⟩)
  · have hm : x = ((x.natAbs : Nat) : Int) := by omega
    rw [show Calls Tryz.prog 74 #[.int .i64 x] w (fun e w' => e = .returned (.int .i64 (x.natAbs : Nat)) ∧ w' = w) ↔ Calls Tryz.prog 74 #[.int .i64 x] w (fun e w' => e = .returned (.int .i64 x) ∧ w' = w) by rw [← hm]]
    clear hm
    go_enter Tryz.func74, Tryz.ntmps74
    go_wp2 <;> first | omega | (go_ret; exact ⟨rfl, rfl⟩)

theorem goesFar_any (x : Int) (h1 : -6 ≤ x) (h2 : x ≤ 6) (w : World) : Calls Tryz.prog 114 #[.int .i64 x] w fun e w' => e = .returned (.bool (far x)) ∧ w' = w := by
  have hk := hide (kindOf_any x h1 h2 w)
  unfold far
  have hb : x.natAbs ≤ 6 := by omega
  generalize x.natAbs = k at *
  have hc : k = 0 ∨ k = 1 ∨ k = 2 ∨ k = 3 ∨ k = 4 ∨ k = 5 ∨ k = 6 := by omega
  clear hb
  rcases hc with rfl | rfl | rfl | rfl | rfl | rfl | rfl <;>
    (go_enter Tryz.func114, Tryz.ntmps114
     go_wp2_with (refine hk.out.mono ?_; rintro e w1 ⟨rfl, hw⟩; subst w1)
     go_ret
     exact ⟨rfl, rfl⟩)

theorem inside_any (x y : Int) (w : World) : Calls Tryz.prog 113 #[.int .i64 x, .int .i64 y] w fun e w' => e = .returned (.bool (ins x y)) ∧ w' = w := by
  by_cases h1 : 0 ≤ x
  · by_cases h2 : x < 8
    · by_cases h3 : 0 ≤ y
      · by_cases h4 : y < 8
        · rw [show ins x y = true by simp [ins, h1, h2, h3, h4]]
          go_enter Tryz.func113, Tryz.ntmps113
          go_wp2
          go_ret
          exact ⟨rfl, rfl⟩
        · rw [show ins x y = false by simp [ins, h1, h2, h3, h4]]
          go_enter Tryz.func113, Tryz.ntmps113
          go_wp2
          go_ret
          exact ⟨rfl, rfl⟩
      · rw [show ins x y = false by simp [ins, h1, h2, h3]]
        go_enter Tryz.func113, Tryz.ntmps113
        go_wp2
        go_ret
        exact ⟨rfl, rfl⟩
    · rw [show ins x y = false by simp [ins, h1, h2]]
      go_enter Tryz.func113, Tryz.ntmps113
      go_wp2
      go_ret
      exact ⟨rfl, rfl⟩
  · rw [show ins x y = false by simp [ins, h1]]
    go_enter Tryz.func113, Tryz.ntmps113
    go_wp2
    go_ret
    exact ⟨rfl, rfl⟩

theorem stretch_any (x : Int) (hx : KX x) (w : World) : Calls Tryz.prog 112 #[.int .i64 x] w fun e w' => e = .returned (.tuple #[.int .i64 (sB x : Nat), .int .i64 (sE x : Nat)]) ∧ w' = w := by
  have hk := hide (kindOf_any x (by unfold KX at hx; omega) (by unfold KX at hx; omega) w)
  rcases hx with rfl | rfl | rfl | rfl | rfl | rfl | rfl | rfl | rfl | rfl | rfl | rfl <;>
    (go_enter Tryz.func112, Tryz.ntmps112
     go_wp2_with (refine hk.out.mono ?_; rintro e w1 ⟨rfl, hw⟩; subst w1)
     go_ret2
     exact ⟨rfl, rfl⟩)

end Go.Proofs.YtdmlamnonbmboaaGreatDoor

namespace Go.Proofs.YtdmlamnonbmboaaGreatDoor
open Go.RowKit

theorem rowsIn_round {l n : Nat} {P : Program} {row : String} {args : Array Value} {w : World} {R : Value → World → Prop} (h : Rows P row args w R) : RowsIn (Fence.wide.inRound l) n P row args w R := fun c cs _ => by
  obtain ⟨v, w', r, s⟩ := h c cs
  exact ⟨v, w', r, stepsIn_wide.2 s⟩

theorem oper_round {l n : Nat} {P : Program} {o : Oper} {a : Act} {w : World} {K : Act → World → Prop} {Q : Exit → Act → World → Prop} (hd : ∀ c, o.op ≠ .defer c) (h : o.wp P a w K Q) : o.wpIn (Fence.wide.inRound l) n P a w K Q := by
  refine ⟨fun _ _ => trivial, ?_⟩
  rw [Oper.semAt_eq _ _ _ hd]
  unfold Oper.wp at h
  generalize (execOp a.eval o).run P w = r at *
  cases r with
  | ok x w' =>
    cases x <;> simp only [Oper.upon, Oper.uponIn] at h ⊢
    case value u => exact h
    case skip => exact h
    case defer d => exact h
    case enter f args => exact ⟨(fun e => by cases e), callsIn_wide.2 h⟩
    case row row args => exact ⟨(fun e => by cases e), rowsIn_round h⟩
  | halt x w' =>
    cases x <;> simp only [Oper.upon, Oper.uponIn] at h ⊢
    case panic u => exact h

theorem any_round {l n : Nat} {P : Program} {md : Region.Mode} {ops : Array Oper} {Q : Exit → Act → World → Prop} {S : World → Prop} (hd : ∀ (i : Nat) (o : Oper) c, ops[i]? = some o → o.op ≠ .defer c) (hlo : ¬ LetsOut Q) :
    ∀ (fuel : Nat) (listed : Array Bool) (a : Act) (w : World), wpAnyH P md ops Q S fuel listed a w → wpAnyIn (Fence.wide.inRound l) n P md ops Q fuel listed a w
  | 0, _, _, _, h => h
  | fuel + 1, listed, a, w, h => by
    refine ⟨h.1, fun i hi => ?_⟩
    have h2 := h.2 i hi
    unfold wpOp at h2
    unfold wpOpIn
    cases ho : ops[i]? with
    | none =>
      simp only [ho] at h2 ⊢
      exact any_round hd hlo fuel _ _ _ h2.2
    | some o =>
      simp only [ho] at h2 ⊢
      by_cases hw : Region.wanted o (yielded ops a.tmps) = true
      · rw [if_pos hw] at h2 ⊢
        rcases h2 with h2 | h2
        · exact oper_round (hd i o · ho) (Oper.wp_mono (fun a' w' h3 => any_round hd hlo fuel _ a' w' h3.2) h2)
        · exact absurd h2.2 hlo
      · rw [if_neg hw] at h2 ⊢
        exact ⟨fun _ _ => trivial, any_round hd hlo fuel _ _ _ h2.2⟩

/-- No deferred call among them. -/
def noDefer (ops : Array Oper) : Bool := ops.all (fun o => match o.op with | .defer _ => false | _ => true)

theorem noDefer_spec {ops : Array Oper} (h : noDefer ops = true) : ∀ (i : Nat) (o : Oper) c, ops[i]? = some o → o.op ≠ .defer c := by
  intro i o c hi e
  unfold noDefer at h
  rw [Array.all_eq_true_iff_forall_mem] at h
  have := h o (Array.mem_of_getElem? hi)
  rw [e] at this
  cases this

theorem wp_region_round {l n id : Nat} {P : Program} {ops : Array Oper} {Q : Exit → Act → World → Prop} {a : Act} {w : World} {S : World → Prop} (hm : P.follows .mixedOrders = true) (hd : noDefer ops = true) (hlo : ¬ LetsOut Q)
    (h : wpAnyH P .any ops Q S ops.size (Array.replicate ops.size false) a w.drew) : (Code.region id ops true).wpIn (Fence.wide.inRound l) n P Q a w :=
  wpIn_region_any hm (any_round (noDefer_spec hd) hlo _ _ _ _ h)

end Go.Proofs.YtdmlamnonbmboaaGreatDoor

namespace Go.Proofs.YtdmlamnonbmboaaGreatDoor
open Go.RowKit Go.Shelf

/-- The iterator g, with what it has captured, hands out xs, one by one; a round may stop it. 'G x args W': these arguments, in that world, stand for x. 'R': what it reads and leaves, in the blocks T; between the rounds it changes the blocks Y. -/
def SeqSt {α : Type} (P : Program) (g : Nat) (lb : Array Value) (G : α → Array Value → World → Prop) (xs : List α) (R : World → Prop) (T Y : Nat → Prop) : Prop :=
  ∀ (l : Nat) (X : Nat → Prop) (J : List α → World → Prop) (Jx : World → Prop) (W : World), R W → (∀ k, X k → ¬ T k) →
    (∀ s A B, J s A → Keeps (fun k => Y k ∨ W.heap.size ≤ k) A B → J s B) → (∀ A B, Jx A → Keeps (fun k => Y k ∨ W.heap.size ≤ k) A B → Jx B) →
    (∀ pre x args W1, J pre W1 → (pre ++ [x]) <+: xs → G x args W1 → YieldAt Fence.wide 0 P l args W1 fun e W' => ((e = .returned (.bool true) ∧ J (pre ++ [x]) W') ∨ (e = .returned (.bool false) ∧ Jx W')) ∧ Keeps X W1 W') →
    J [] W →
    CallsIn Fence.wide 0 P g (#[.func (.yield l) #[] #[]] ++ lb) W fun e W' => (∃ v, e = .returned v) ∧ R W' ∧ (J xs W' ∨ Jx W')

/-- How the body of such a round is left: off its end, or by a return. -/
def stPost {α : Type} (X : Nat → Prop) (I : List α → World → Prop) (Ix : World → Prop) (xs : List α) (W : World) : Exit → Act → World → Prop
  | .normal, _, W' => Keeps X W W' ∧ I xs W'
  | .ret, _, W' => Keeps X W W' ∧ Ix W'
  | _, _, _ => False

theorem CallsIn.anyD {m m' : Nat} {P : Program} {f : FuncId} {args : Array Value} {W : World} {R : Ending → World → Prop} (h : CallsIn Fence.wide m P f args W R) : CallsIn Fence.wide m' P f args W R :=
  callsIn_wide.2 (callsIn_wide.1 h)

theorem wp_range_st {α : Type} {P : Program} {n : Nat} {g : Operand} {ps : Array Tmp} {assign body : Code} {Q : Exit → Act → World → Prop} {a : Act} {w : World}
    {gf : Nat} {lb : Array Value} (hg : a.eval g = .func (.func gf) #[] lb) (eg : ∀ args w, (callFunc gf args).run P w = .ok (.enter gf args) w)
    {G : α → Array Value → World → Prop} {xs : List α} {R : World → Prop} {T Y : Nat → Prop} (hseq : SeqSt P gf lb G xs R T Y)
    (hT : ∀ k, T k → k < w.heap.size) (hY : ∀ k, Y k → k < w.heap.size) (hRk : ∀ A B, R A → Keeps (fun k => ¬ T k) A B → R B) (hR : R w)
    (X : Nat → Prop) (hX : ∀ k, X k → k < w.heap.size ∧ ¬ T k) (hps : ∀ x args W, G x args W → args.size = ps.size)
    (I : List α → World → Prop) (Ix : World → Prop) (hI : ∀ s A B, I s A → Keeps (fun k => Y k ∨ w.heap.size ≤ k) A B → I s B) (hIx : ∀ A B, Ix A → Keeps (fun k => Y k ∨ w.heap.size ≤ k) A B → Ix B) (h0 : I [] w)
    (hround : ∀ (l : Nat) (pre : List α) (x : α) (args : Array Value) (W : World), w.heap.size ≤ l → (∃ r, W.heap[l]? = some (.loop r)) → I pre W → (pre ++ [x]) <+: xs → G x args W →
      assign.wpIn (Fence.wide.inRound l) n P (Exit.then (fun a' W' => Keeps X W W' ∧ ∀ W'', Keeps (fun k => k = l) W' W'' → body.wpIn (Fence.wide.inRound l) n P (stPost X I Ix (pre ++ [x]) W'') a' W'') (fun _ _ _ => False))
        { tmps := (ps.zip args).foldl (fun t (p, v) => t.setIfInBounds p v) a.tmps, defers := [] } W)
    (hdone : ∀ (D : Nat) (W : World), w.heap.size ≤ D → I xs W → R W → W.heap[D]? = some (.deferred (some [])) → Q .normal { a with defers := { target := .collected D, args := #[] } :: a.defers } W)
    (hstop : ∀ (D : Nat) (W : World), w.heap.size ≤ D → Ix W → R W → W.heap[D]? = some (.deferred (some [])) → Code.ret.wpIn Fence.wide n P Q { a with defers := { target := .collected D, args := #[] } :: a.defers } W) :
    (Code.rangeFunc g ps assign body).wpIn Fence.wide n P Q a w := by
  refine wpIn_rangeFunc ?_
  intro fn hfn
  obtain ⟨rec, hrec⟩ : ∃ rec : LoopState → Option Code → Loop, rec = fun st pe => { state := st, pending := pe, fn, tmps := a.tmps, params := ps, assign, body, defers := w.heap.size } := ⟨_, rfl⟩
  obtain ⟨W1, hW1⟩ : ∃ W1, (w.alloc (.deferred (some []))).alloc (.loop (rec .ready none)) = W1 := ⟨_, rfl⟩
  have hL1 : W1.heap[w.heap.size + 1]? = some (.loop (rec .ready none)) := by
    rw [← hW1]; have := World.alloc_heap_new (w.alloc (.deferred (some []))) (.loop (rec .ready none)); rwa [World.size_alloc] at this
  have hK1 : W1.heap[w.heap.size]? = some (.deferred (some [])) := by
    rw [← hW1]; exact (Below.heap_alloc _ _ _ (by simp)).trans (World.alloc_heap_new w _)
  have hb1 : Below w.heap.size w W1 := by
    rw [← hW1]; exact ((Below.refl _ w).alloc (Nat.le_refl _) _).alloc (by simp) _
  have hs1 : W1.heap.size = w.heap.size + 2 := by rw [← hW1]; simp
  refine ⟨w.heap.size + 1, [{ target := .collected w.heap.size, args := #[] }], W1, { target := .fn (.func gf) lb, args := #[.func (.yield (w.heap.size + 1)) #[] #[]] }, W1, gf,
    #[.func (.yield (w.heap.size + 1)) #[] #[]] ++ lb, W1, ?_, ?_, ?_, ?_, (fun h => by cases h), ?_⟩
  · rw [← hW1, hrec]; exact run_enterLoop_outer _ _ _ _ _
  · simp only [resolve, hg]
    simp [go_sem]
  · intro f' _; trivial
  · simp [invoke, go_sem, eg]
  · refine (CallsIn.anyD (m := 0) (hseq (w.heap.size + 1) (fun k => X k ∨ k = w.heap.size + 1)
      (fun pre W => I pre W ∧ W.heap[w.heap.size + 1]? = some (.loop (rec .ready none)) ∧ W.heap[w.heap.size]? = some (.deferred (some [])))
      (fun W => Ix W ∧ W.heap[w.heap.size + 1]? = some (.loop (rec .done (some .ret))) ∧ W.heap[w.heap.size]? = some (.deferred (some [])))
      W1 (hRk w W1 hR (Keeps.of_all hb1))
      (fun k hk => by
        rcases hk with hk | hk
        · exact (hX k hk).2
        · intro ht; have := hT k ht; omega)
      (fun s A B hs hb => ⟨hI s A B hs.1 (hb.mono (fun k _ e => Or.imp id (fun h => by omega) e)),
        (hb.block _ (Array.getElem?_eq_some_iff.1 hs.2.1).1 (fun e => Or.elim e (fun e => absurd (hY _ e) (by omega)) (fun e => by omega))).trans hs.2.1,
        (hb.block _ (Array.getElem?_eq_some_iff.1 hs.2.2).1 (fun e => Or.elim e (fun e => absurd (hY _ e) (by omega)) (fun e => by omega))).trans hs.2.2⟩)
      (fun A B hs hb => ⟨hIx A B hs.1 (hb.mono (fun k _ e => Or.imp id (fun h => by omega) e)),
        (hb.block _ (Array.getElem?_eq_some_iff.1 hs.2.1).1 (fun e => Or.elim e (fun e => absurd (hY _ e) (by omega)) (fun e => by omega))).trans hs.2.1,
        (hb.block _ (Array.getElem?_eq_some_iff.1 hs.2.2).1 (fun e => Or.elim e (fun e => absurd (hY _ e) (by omega)) (fun e => by omega))).trans hs.2.2⟩)
      ?_ ⟨hI _ _ _ h0 (Keeps.of_all hb1), hL1, hK1⟩)).mono ?_
    · rintro pre x args W ⟨hi, hl, hk⟩ hpre hG
      have hlt : w.heap.size + 1 < W.heap.size := (Array.getElem?_eq_some_iff.1 hl).1
      have hy := run_yield (P := P) (args := args) hl (by rw [hrec]; exact hps x args W hG)
      rw [hrec] at hy
      refine YieldAt.anyD (m := n) ⟨fn, _, assign, body, hy, roundIn_of_wpIn hfn (wpIn_mono (hround (w.heap.size + 1) pre x args W (by omega) ⟨_, hl⟩ hi hpre hG) ?_)⟩
      rintro e a' Wa hp
      cases e with
      | normal =>
        obtain ⟨hka, hb⟩ := hp
        have hla := (hka.block _ hlt (fun hx => by have := hX _ hx; omega)).trans hl
        have hda := (hka.block _ (by omega) (fun hx => by have := hX _ hx; omega)).trans hk
        have hlta : w.heap.size + 1 < Wa.heap.size := (Array.getElem?_eq_some_iff.1 hla).1
        refine ⟨_, run_beginRound hla (by rw [hrec]), ?_⟩
        obtain ⟨Wb, hWb⟩ : ∃ Wb, Wa.putObj (w.heap.size + 1) (.loop { rec .ready none with state := .busy }) = Wb := ⟨_, rfl⟩
        have hl2 : Wb.heap[w.heap.size + 1]? = some (.loop { rec .ready none with state := .busy }) := by rw [← hWb]; exact World.putObj_heap_same hlta
        have hk2 : Wb.heap[w.heap.size]? = some (.deferred (some [])) := by rw [← hWb]; exact (World.putObj_heap_other (by omega)).trans hda
        have hkb : Keeps (fun k => k = w.heap.size + 1) Wa Wb := by rw [← hWb]; exact Keeps.put (X := fun k => k = w.heap.size + 1) (Keeps.refl _ Wa) (l := w.heap.size + 1) rfl _
        have hsz := hkb.size
        rw [hWb]
        refine wpIn_mono (hb _ hkb) ?_
        rintro e a3 W3 hp
        cases e with
        | normal =>
          obtain ⟨hk3, hi3⟩ := hp
          have hl3 := (hk3.block _ (by omega) (fun hx => by have := hX _ hx; omega)).trans hl2
          have hd3 := (hk3.block _ (by omega) (fun hx => by have := hX _ hx; omega)).trans hk2
          have hr := run_endRound (P := P) none hl3
          have hlt3 : w.heap.size + 1 < W3.heap.size := (Array.getElem?_eq_some_iff.1 hl3).1
          rw [hrec] at hr
          refine ⟨_, _, hr, .inl ⟨rfl, hI _ W3 _ hi3 ?_, ?_, ?_⟩, ?_⟩
          · exact Keeps.put (Keeps.refl _ W3) (l := w.heap.size + 1) (.inr (by omega)) _
          · rw [hrec]; exact World.putObj_heap_same hlt3
          · exact (World.putObj_heap_other (by omega)).trans hd3
          · have k1 : Keeps (fun k => X k ∨ k = w.heap.size + 1) W Wa := hka.mono (fun _ _ h => .inl h)
            have k2 : Keeps (fun k => X k ∨ k = w.heap.size + 1) W Wb := k1.trans (hkb.mono (fun _ _ h => .inr h))
            have k3 : Keeps (fun k => X k ∨ k = w.heap.size + 1) Wb W3 := hk3.mono (fun _ _ h => .inl h)
            exact (k2.trans k3).put (.inr rfl) _
        | ret =>
          obtain ⟨hk3, hi3⟩ := hp
          have hl3 := (hk3.block _ (by omega) (fun hx => by have := hX _ hx; omega)).trans hl2
          have hd3 := (hk3.block _ (by omega) (fun hx => by have := hX _ hx; omega)).trans hk2
          have hr := run_endRound (P := P) (some .ret) hl3
          have hlt3 : w.heap.size + 1 < W3.heap.size := (Array.getElem?_eq_some_iff.1 hl3).1
          rw [hrec] at hr
          refine ⟨_, _, hr, .inr ⟨rfl, hIx W3 _ hi3 ?_, ?_, ?_⟩, ?_⟩
          · exact Keeps.put (Keeps.refl _ W3) (l := w.heap.size + 1) (.inr (by omega)) _
          · rw [hrec]; exact World.putObj_heap_same hlt3
          · exact (World.putObj_heap_other (by omega)).trans hd3
          · have k1 : Keeps (fun k => X k ∨ k = w.heap.size + 1) W Wa := hka.mono (fun _ _ h => .inl h)
            have k2 : Keeps (fun k => X k ∨ k = w.heap.size + 1) W Wb := k1.trans (hkb.mono (fun _ _ h => .inr h))
            have k3 : Keeps (fun k => X k ∨ k = w.heap.size + 1) Wb W3 := hk3.mono (fun _ _ h => .inl h)
            exact (k2.trans k3).put (.inr rfl) _
        | exit id => exact hp.elim
        | goto t => exact hp.elim
        | panic ch => exact hp.elim
        | outgrown => exact hp.elim
      | ret => exact hp.elim
      | exit id => exact hp.elim
      | goto t => exact hp.elim
      | panic ch => exact hp.elim
      | outgrown => exact hp.elim
    · rintro e W2 ⟨⟨v, rfl⟩, hr2, h2⟩
      rcases h2 with ⟨hi, hl, hk⟩ | ⟨hi, hl, hk⟩
      · have hlt2 : w.heap.size + 1 < W2.heap.size := (Array.getElem?_eq_some_iff.1 hl).1
        refine ⟨none, _, by have := run_endLoop (P := P) hl (by rw [hrec]; simp); rw [hrec] at this; exact this, hdone _ _ (Nat.le_refl _) (hI _ W2 _ hi ?_) (hRk _ _ hr2 ?_) ((World.putObj_heap_other (by omega)).trans hk)⟩
        · exact Keeps.put (Keeps.refl _ W2) (l := w.heap.size + 1) (.inr (by omega)) _
        · exact Keeps.put (Keeps.refl _ W2) (l := w.heap.size + 1) (fun ht => by have := hT _ ht; omega) _
      · have hlt2 : w.heap.size + 1 < W2.heap.size := (Array.getElem?_eq_some_iff.1 hl).1
        refine ⟨some .ret, _, by have := run_endLoop (P := P) hl (by rw [hrec]; simp); rw [hrec] at this; exact this, hstop _ _ (Nat.le_refl _) (hIx W2 _ hi ?_) (hRk _ _ hr2 ?_) ((World.putObj_heap_other (by omega)).trans hk)⟩
        · exact Keeps.put (Keeps.refl _ W2) (l := w.heap.size + 1) (.inr (by omega)) _
        · exact Keeps.put (Keeps.refl _ W2) (l := w.heap.size + 1) (fun ht => by have := hT _ ht; omega) _

end Go.Proofs.YtdmlamnonbmboaaGreatDoor
