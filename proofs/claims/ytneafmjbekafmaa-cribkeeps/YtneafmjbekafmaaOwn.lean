/-
  A range over a function that changes nothing of its caller's memory, what the rounds have made among it; and cards.Sets as such a function. No conditions beyond those that each theorem bears.
-/
import Derived.Test.YtneafmjbekafmaaSets
namespace Go.Proofs.Ytneafmjbekafmaa
open Go.RowKit Go.Shelf

/-- The iterator g, with what it has captured, hands out xs, one by one, to whatever rounds there are that do not stop it. 'G x args W': these arguments, in that world, stand for x. 'R': what it reads. Of the caller's memory it changes nothing, what the rounds have made among it: it has one block of its own. -/
def SeqOwn {α : Type} (P : Program) (g : Nat) (lb : Array Value) (G : α → Array Value → World → Prop) (xs : List α) (R : World → Prop) : Prop :=
  ∀ (l : Nat) (X : Nat → Prop) (J : List α → World → Prop) (W : World), R W → (∀ A B, R A → Keeps X A B → R B) → (∀ k, X k → k < W.heap.size) →
    (∀ s A B, J s A → Keeps (fun k => k = W.heap.size) A B → J s B) →
    (∀ pre x args W1, J pre W1 → (pre ++ [x]) <+: xs → G x args W1 → W.heap.size < W1.heap.size → YieldAt Fence.wide 0 P l args W1 fun e W' => e = .returned (.bool true) ∧ J (pre ++ [x]) W' ∧ Keeps X W1 W') →
    J [] W →
    CallsIn Fence.wide 0 P g (#[.func (.yield l) #[] #[]] ++ lb) W fun e W' => (∃ v, e = .returned v) ∧ J xs W'

/-- The law: outermost loops ('round = none') and loops within a round alike are laid by 'enterLoop'; here: outermost. -/
theorem wp_range_own {α : Type} {P : Program} {n : Nat} {g : Operand} {ps : Array Tmp} {assign body : Code} {Q : Exit → Act → World → Prop} {a : Act} {w : World}
    {gf : Nat} {lb : Array Value} (hg : a.eval g = .func (.func gf) #[] lb) (eg : ∀ args w, (callFunc gf args).run P w = .ok (.enter gf args) w)
    {G : α → Array Value → World → Prop} {xs : List α} {R : World → Prop} (hseq : SeqOwn P gf lb G xs R)
    (X : Nat → Prop) (hX : ∀ k, X k → k < w.heap.size) (hR : R w) (hRk : ∀ l A B, w.heap.size ≤ l → R A → Keeps (fun k => X k ∨ k = l) A B → R B) (hps : ∀ x args W, G x args W → args.size = ps.size)
    (I : List α → World → Prop) (hI : ∀ s A B, I s A → Keeps (fun k => w.heap.size ≤ k ∧ k < w.heap.size + 3) A B → I s B) (h0 : I [] w)
    (hround : ∀ (l : Nat) (pre : List α) (x : α) (args : Array Value) (W : World), w.heap.size ≤ l → (∃ r, W.heap[l]? = some (.loop r)) → I pre W → (pre ++ [x]) <+: xs → G x args W → w.heap.size + 2 < W.heap.size →
      assign.wpIn (Fence.wide.inRound l) n P (Exit.then (fun a' W' => Keeps X W W' ∧ ∀ W'', Keeps (fun k => k = l) W' W'' → body.wpIn (Fence.wide.inRound l) n P (allPost X I (pre ++ [x]) W'') a' W'') (fun _ _ _ => False))
        { tmps := (ps.zip args).foldl (fun t (p, v) => t.setIfInBounds p v) a.tmps, defers := [] } W)
    (hdone : ∀ (D : Nat) (W : World), w.heap.size ≤ D → I xs W → W.heap[D]? = some (.deferred (some [])) → Q .normal { a with defers := { target := .collected D, args := #[] } :: a.defers } W) :
    (Code.rangeFunc g ps assign body).wpIn Fence.wide n P Q a w := by
  refine wpIn_rangeFunc ?_
  intro fn hfn
  obtain ⟨rec, hrec⟩ : ∃ rec : LoopState → Option Code → Loop, rec = fun st pe => { state := st, pending := pe, fn, tmps := a.tmps, params := ps, assign, body, defers := w.heap.size } := ⟨_, rfl⟩
  obtain ⟨W1, hW1⟩ : ∃ W1, (w.alloc (.deferred (some []))).alloc (.loop (rec .ready none)) = W1 := ⟨_, rfl⟩
  have hL1 : W1.heap[w.heap.size + 1]? = some (.loop (rec .ready none)) := by
    rw [← hW1]; have := World.alloc_heap_new (w.alloc (.deferred (some []))) (.loop (rec .ready none)); rwa [World.size_alloc] at this
  have hK1 : W1.heap[w.heap.size]? = some (.deferred (some [])) := by
    rw [← hW1]; exact (Below.heap_alloc _ _ _ (by simp)).trans (World.alloc_heap_new w _)
  have hb1 : Below w.heap.size w W1 := by
    rw [← hW1]; exact ((Below.refl _ w).alloc (Nat.le_refl _) _).alloc (by simp) _
  have hs1 : W1.heap.size = w.heap.size + 2 := by rw [← hW1]; simp
  refine ⟨w.heap.size + 1, [{ target := .collected w.heap.size, args := #[] }], W1, { target := .fn (.func gf) lb, args := #[.func (.yield (w.heap.size + 1)) #[] #[]] }, W1, gf,
    #[.func (.yield (w.heap.size + 1)) #[] #[]] ++ lb, W1, ?_, ?_, ?_, ?_, (fun h => by cases h), ?_⟩
  · rw [← hW1, hrec]; exact run_enterLoop_outer _ _ _ _ _
  · simp only [resolve, hg]
    simp [go_sem]
  · intro f' _; trivial
  · simp [invoke, go_sem, eg]
  · refine (CallsIn.anyD (m := 0) (hseq (w.heap.size + 1) (fun k => X k ∨ k = w.heap.size + 1)
      (fun pre W => I pre W ∧ W.heap[w.heap.size + 1]? = some (.loop (rec .ready none)) ∧ W.heap[w.heap.size]? = some (.deferred (some [])))
      W1 (hRk (w.heap.size + 1) w W1 (by omega) hR (Keeps.of_all hb1)) (fun A B hA hk => hRk (w.heap.size + 1) A B (by omega) hA hk)
      (fun k hk => by rcases hk with hk | hk; · have := hX k hk; omega
                      · omega)
      (fun s A B hs hb => ⟨hI s A B hs.1 (hb.mono (fun k _ e => by omega)), (hb.block _ (Array.getElem?_eq_some_iff.1 hs.2.1).1 (by omega)).trans hs.2.1, (hb.block _ (Array.getElem?_eq_some_iff.1 hs.2.2).1 (by omega)).trans hs.2.2⟩)
      ?_ ⟨hI _ _ _ h0 (Keeps.of_all hb1), hL1, hK1⟩)).mono ?_
    · rintro pre x args W ⟨hi, hl, hk⟩ hpre hG hown
      have hlt : w.heap.size + 1 < W.heap.size := (Array.getElem?_eq_some_iff.1 hl).1
      have hy := run_yield (P := P) (args := args) hl (by rw [hrec]; exact hps x args W hG)
      rw [hrec] at hy
      refine YieldAt.anyD (m := n) ⟨fn, _, assign, body, hy, roundIn_of_wpIn hfn (wpIn_mono (hround (w.heap.size + 1) pre x args W (by omega) ⟨_, hl⟩ hi hpre hG (by omega)) ?_)⟩
      rintro e a' Wa hp
      cases e with
      | normal =>
        obtain ⟨hka, hb⟩ := hp
        have hla := (hka.block _ hlt (fun hx => by have := hX _ hx; omega)).trans hl
        have hda := (hka.block _ (by omega) (fun hx => by have := hX _ hx; omega)).trans hk
        have hlta : w.heap.size + 1 < Wa.heap.size := (Array.getElem?_eq_some_iff.1 hla).1
        refine ⟨_, run_beginRound hla (by rw [hrec]), ?_⟩
        obtain ⟨Wb, hWb⟩ : ∃ Wb, Wa.putObj (w.heap.size + 1) (.loop { rec .ready none with state := .busy }) = Wb := ⟨_, rfl⟩
        have hl2 : Wb.heap[w.heap.size + 1]? = some (.loop { rec .ready none with state := .busy }) := by rw [← hWb]; exact World.putObj_heap_same hlta
        have hk2 : Wb.heap[w.heap.size]? = some (.deferred (some [])) := by rw [← hWb]; exact (World.putObj_heap_other (by omega)).trans hda
        have hkb : Keeps (fun k => k = w.heap.size + 1) Wa Wb := by rw [← hWb]; exact Keeps.put (X := fun k => k = w.heap.size + 1) (Keeps.refl _ Wa) (l := w.heap.size + 1) rfl _
        have hsz := hkb.size
        rw [hWb]
        refine wpIn_mono (hb _ hkb) ?_
        rintro e a3 W3 hp
        cases e with
        | normal =>
          obtain ⟨hk3, hi3⟩ := hp
          have hl3 := (hk3.block _ (by omega) (fun hx => by have := hX _ hx; omega)).trans hl2
          have hd3 := (hk3.block _ (by omega) (fun hx => by have := hX _ hx; omega)).trans hk2
          have hr := run_endRound (P := P) none hl3
          have hlt3 : w.heap.size + 1 < W3.heap.size := (Array.getElem?_eq_some_iff.1 hl3).1
          rw [hrec] at hr
          refine ⟨_, _, hr, rfl, ⟨hI _ W3 _ hi3 ?_, ?_, ?_⟩, ?_⟩
          · exact Keeps.put (Keeps.refl _ W3) (l := w.heap.size + 1) ⟨by omega, by omega⟩ _
          · rw [hrec]; exact World.putObj_heap_same hlt3
          · exact (World.putObj_heap_other (by omega)).trans hd3
          · have k1 : Keeps (fun k => X k ∨ k = w.heap.size + 1) W Wa := hka.mono (fun _ _ h => .inl h)
            have k2 : Keeps (fun k => X k ∨ k = w.heap.size + 1) W Wb := k1.trans (hkb.mono (fun _ _ h => .inr h))
            have k3 : Keeps (fun k => X k ∨ k = w.heap.size + 1) Wb W3 := hk3.mono (fun _ _ h => .inl h)
            exact (k2.trans k3).put (.inr rfl) _
        | ret => exact hp.elim
        | exit id => exact hp.elim
        | goto t => exact hp.elim
        | panic ch => exact hp.elim
        | outgrown => exact hp.elim
      | ret => exact hp.elim
      | exit id => exact hp.elim
      | goto t => exact hp.elim
      | panic ch => exact hp.elim
      | outgrown => exact hp.elim
    · rintro e W2 ⟨⟨v, rfl⟩, hi, hl, hk⟩
      have hlt2 : w.heap.size + 1 < W2.heap.size := (Array.getElem?_eq_some_iff.1 hl).1
      refine ⟨none, _, by have := run_endLoop (P := P) hl (by rw [hrec]; simp); rw [hrec] at this; exact this, hdone _ _ (Nat.le_refl _) (hI _ W2 _ hi ?_) ((World.putObj_heap_other (by omega)).trans hk)⟩
      exact Keeps.put (Keeps.refl _ W2) (l := w.heap.size + 1) ⟨by omega, by omega⟩ _

attribute [local go_sem] Oper.semAt_some

set_option maxRecDepth 100000 in
set_option maxHeartbeats 2000000 in
theorem sets1_own (bk bn n k : Nat) (hk : k ≤ n) (hn : n ≤ 1000) (rest : List (List Nat)) (hrun : Run n k (List.range k) rest) (hlen : ∀ x ∈ (List.range k :: rest), x.length = k ∧ ∀ i, x.getD i 0 ≤ 2000) :
    SeqOwn Try.prog 49 #[.pointer (some ⟨bk, 0, none⟩), .pointer (some ⟨bn, 0, none⟩)] (GSet k) (List.range k :: rest) (RSet bk bn n k) := by
  intro l X J W hR hRk hX hJ hY h0
  obtain ⟨i0, hi, hz0, hz1, hz2⟩ := info_parts Try.info3
  obtain ⟨hbk, hbn⟩ := hR
  have hbkl : bk < W.heap.size := World.block_lt_of_cell? W _ hbk
  have hbnl : bn < W.heap.size := World.block_lt_of_cell? W _ hbn
  have hkk : (0 : Int) ≤ (k : Int) := by omega
  have hkn : ¬ (n : Int) < (k : Int) := by omega
  have hkz : decide ((k : Int) < 0) = false := by simp
  refine callsIn_of_wp Try.func49 rfl trivial ?_ rfl
  simp only [Try.ntmps49, List.size_toArray, List.length_cons, List.length_nil, Nat.reduceAdd, Nat.reduceSub, Array.replicate_succ, Array.replicate_zero, List.push_toArray, List.append_toArray, List.nil_append, List.cons_append]
  refine wpIn_wide.2 ?_
  have hmm : k ≤ maxLen := by unfold maxLen; omega
  have hby : i0.bytes * k ≤ 281474976710656 := by rw [hz2]; omega
  go_wp2_with (at_make; refine wpList_make_full W rfl _ _ 22 rfl W.heap.size 3 i0 (.int .i64 0) 1 Try.underlying22 hi hz0 hz1 _ _ _ _ k rfl rfl (by omega) (by omega) hby hmm (Nat.le_refl _) ?_)
  intro w1 hown hgrow
  have hb1 : Below W.heap.size W w1 := (Below.refl _ _).grown hgrow (Nat.le_refl _) (fun k hk => by simp at hk)
  rw [made_ints] at hown
  clear hgrow
  go_wp2
  go_loopw [19] (fun i wr => ∃ (j : Nat) (L : List Int), j ≤ k ∧ i = .int .i64 j ∧ wr.ownsRow W.heap.size 3 1 (.slice (some ⟨W.heap.size, 0, none⟩) k k) k (L.map (Value.int .i64)) ∧ Below W.heap.size W wr ∧ Hid (∀ p, p < j → L.getD p 0 = p)) (fun i _ => k - (intOf i).toNat)
  case atStart => exact ⟨0, _, by omega, rfl, hown, hb1, fun p hp => absurd hp (by omega)⟩
  case round =>
    clear hown hb1
    obtain ⟨j, L, hj, rfl, hown, hbel, HL⟩ := hrel
    have hLl : Hid (L.length = k) := hide (by simpa using hown.1)
    by_cases hlt : j < k
    · obtain ⟨c1, f1⟩ := own_cell hown j hlt
      have HO := hide (own_set hown j j)
      have HB := hide hbel
      have hlt' : (j : Int) < (k : Int) := by omega
      clear hown hbel
      go_wp2
      go_roundw
      case rel =>
        refine ⟨j + 1, _, by omega, by go_num, HO.out, HB.out.setCell (Nat.le_refl _) _, fun p hp => ?_⟩
        rw [getD_set _ _ _ _ (by rw [hLl.out]; exact hlt)]
        by_cases he : p = j
        · rw [if_pos he, he]
        · rw [if_neg he]; exact HL.out p (by omega)
      case measure => simp [intOf]; omega
    · obtain rfl : j = k := by omega
      have hlt' : ¬ (j : Int) < (j : Int) := by omega
      have hL : L = toI (List.range j) := by
        apply List.ext_getElem
        · rw [hLl.out, toI_length, List.length_range]
        · intro i h1 h2
          have := HL.out i (by rw [hLl.out] at h1; exact h1)
          simpa [List.getD, h1, toI] using this
      subst hL
      clear HL hLl
      have HO := hide hown
      have HB := hide hbel
      clear hown hbel
      go_wp2
      go_loopg [6] rest.length (fun gk _ wr => ∃ (pre : List (List Nat)) (s : List Nat) (r : List (List Nat)), Hid (pre ++ s :: r = List.range j :: rest) ∧ Hid (r.length = gk) ∧ Hid (Run n j s r) ∧ Hid (wr.ownsRow W.heap.size 3 1 (.slice (some ⟨W.heap.size, 0, none⟩) j j) j ((toI s).map (Value.int .i64))) ∧ Hid (J pre wr) ∧ Hid (RSet bk bn n j wr))
      case atStart => exact ⟨[], _, rest, rfl, rfl, hrun, HO.out, hJ _ _ _ h0 (Keeps.of_all HB.out), hRk _ _ ⟨hbk, hbn⟩ (Keeps.of_all HB.out)⟩
      case round =>
        clear HO HB hbk hbn h0 hlt hlt' hj
        obtain ⟨pre, s, r, hpre, hrl, hrn, hown, hJp, hRw⟩ := hrel
        obtain ⟨fn, tmps, assign, body, hy, hR⟩ := YieldAt.anyD (m' := 0) (hY pre s #[.slice (some ⟨W.heap.size, 0, none⟩) j j] wr hJp.out (by rw [← hpre.out]; exact ⟨r, by simp⟩) ⟨_, rfl, Rd.of_own hown.out⟩ (hown.out.lt _ rfl).2)
        have hls := hlen s (by rw [← hpre.out]; simp)
        obtain ⟨hsl, hsb⟩ := hls
        refine (wpIn_wide (n := 1)).1 ?_
        gi_wp2
        refine hR.mono ?_
        rintro e W3 ⟨rfl, hJ3, hk3⟩
        have own3 := hide (ownK hown.out hk3 hX)
        obtain ⟨hbk, hbn⟩ := hRk _ _ hRw.out hk3
        have HSZ := hide (Nat.le_trans (World.block_lt_of_cell? _ _ hbk) (Nat.le_refl _))
        have HJ3 := hide hJ3
        clear hy hR hJ3 hk3 hown hJp hRw
        gi_wp2
        refine wpIn_wide.2 ?_
        go_loopw [6] (fun v wq => ∃ (i q : Nat), v = .int .i64 ((i : Int) - 1) ∧ i ≤ j ∧ Hid (lastOf n j s i = lastOf n j s j) ∧ wq = W3.drewN q) (fun v _ => (intOf v + 1).toNat)
        case atStart => exact ⟨j, 0, rfl, Nat.le_refl _, rfl, rfl⟩
        case round =>
          obtain ⟨i, q, rfl, hij, hla, rfl⟩ := hrel
          cases i with
          | zero =>
            have e0 : (((0 : Nat) : Int) - 1) = -1 := by omega
            simp only [e0]
            clear e0
            go_wp2
            go_quiet (fail)
            go_wp2
            refine wpIn_wide.2 ?_
            go_wp2
            refine bodyPost_ret (results_none rfl _ _ _) rfl ?_
            have hr : r = [] := by
              have hrn' := hrn.out
              cases r with
              | nil => rfl
              | cons s' r' =>
                have h1 := hrn'.1
                simp only [nextSet, ← hla.out, lastOf] at h1
                cases h1
            refine ⟨⟨_, rfl⟩, ?_⟩
            have h2 := hpre.out
            rw [hr] at h2
            rw [← h2]
            exact hJ _ _ _ HJ3.out (Keeps.of_all (drewN_below _ _ _))
          | succ i =>
            have e0 : (((i + 1 : Nat) : Int) - 1) = (i : Int) := by omega
            simp only [e0]
            clear e0
            obtain ⟨c1, f1⟩ := own_cell own3.out i (by omega)
            rw [toI_getD] at c1
            have hx := hsb i
            obtain ⟨x, ex⟩ : ∃ x, s.getD i 0 = x := ⟨_, rfl⟩
            rw [ex] at c1 hx
            by_cases hv : x = n - j + i
            · have hb : ((x : Int) == (n : Int) - (j : Int) + (i : Int)) = true := by simp; omega
              have HX := hide ex
              have HV := hide hv
              clear ex hv
              go_wp2
              go_quiet (fail)
              go_wp2
              refine ⟨⟨i, _, rfl, by omega, ?_, rfl⟩, by simp [intOf]⟩
              have h3 := hla.out
              rw [lastOf, if_pos (HX.out.trans HV.out)] at h3
              exact h3
            · have hb : ((x : Int) == (n : Int) - (j : Int) + (i : Int)) = false := by simp; omega
              have hnx : nextSet n j s = some (fillFrom s i j) := by
                have h3 := hla.out
                rw [lastOf, if_neg (by rw [ex]; exact hv)] at h3
                simp only [nextSet, ← h3]
              have hrr : ∃ r', r = fillFrom s i j :: r' ∧ Run n j (fillFrom s i j) r' := by
                have hrn' := hrn.out
                cases r with
                | nil => rw [Run, hnx] at hrn'; cases hrn'
                | cons s' r' =>
                  have h1 := hrn'.1
                  rw [hnx] at h1
                  cases h1
                  exact ⟨r', rfl, hrn'.2⟩
              obtain ⟨r', er, hrun'⟩ := hrr
              have HX := hide ex
              have HV := hide hv
              have HRR := hide er
              have HRU := hide hrun'
              have O1 : Hid (∀ m, ((W3.drewN m).setCell ⟨W.heap.size, i, none⟩ (.int .i64 (x + 1))).ownsRow W.heap.size 3 1 (.slice (some ⟨W.heap.size, 0, none⟩) j j) j ((toI (fillFrom s i (i + 1))).map (Value.int .i64))) := by
                intro m
                have h4 := own_set (ownK own3.out (Keeps.of_all (X := fun _ => False) (drewN_below _ W3 m)) (fun _ h => h.elim)) i ((x : Int) + 1)
                have h5 := toI_set s i (x + 1)
                rw [show (((x + 1 : Nat)) : Int) = (x : Int) + 1 by omega] at h5
                rw [h5] at h4
                rw [← fill_first s i (by omega), ex]
                exact h4
              clear ex hv er hrun' hnx
              go_wp2
              go_quiet (fail)
              go_wp2
              refine wpIn_wide.2 ?_
              go_wp2
              go_loopw [7] (fun v wq => ∃ (p : Nat), v = .int .i64 p ∧ Hid (i < p ∧ p ≤ j) ∧ Hid (wq.ownsRow W.heap.size 3 1 (.slice (some ⟨W.heap.size, 0, none⟩) j j) j ((toI (fillFrom s i p)).map (Value.int .i64))) ∧ Hid (Keeps (fun k => k = W.heap.size) W3 wq)) (fun v _ => j - (intOf v).toNat)
              case atStart => exact ⟨i + 1, by go_num, ⟨by omega, by omega⟩, O1.out _, Keeps.setCell (X := fun k => k = W.heap.size) (p := ⟨W.heap.size, i, none⟩) (Keeps.of_all (drewN_below W3.heap.size W3 _)) rfl _⟩
              case round =>
                obtain ⟨p, rfl, hp, hown, hbel⟩ := hrel
                have hbk' : wr.cell? ⟨bk, 0, none⟩ = some (.int .i64 j) := hbel.out.cell hbk (by show ¬ bk = W.heap.size; omega)
                by_cases hlt : p < j
                · have hlt' : (p : Int) < (j : Int) := by omega
                  have hp1 : i < p := hp.out.1
                  obtain ⟨d, rfl⟩ : ∃ d, p = i + 1 + d := ⟨p - i - 1, by omega⟩
                  obtain ⟨c1, f1⟩ := own_cell hown.out (i + d) (by omega)
                  obtain ⟨c2, f2⟩ := own_cell hown.out (i + 1 + d) (by omega)
                  rw [toI_getD, fill_get s i (i + 1 + d) (i + d) (by omega) (by omega), if_neg (by omega), if_pos (by omega), HX.out] at c1
                  have e1 : x + 1 + (i + d - i) = x + 1 + d := by omega
                  rw [e1] at c1
                  have HO := own_set hown.out (i + 1 + d) ((x + 1 + d : Nat) + 1 : Int)
                  have h5 := toI_set (fillFrom s i (i + 1 + d)) (i + 1 + d) (x + 1 + d + 1)
                  rw [show ((x + 1 + d + 1 : Nat) : Int) = ((x + 1 + d : Nat) : Int) + 1 by omega] at h5
                  rw [h5] at HO
                  have h6 := fill_step s i (i + 1 + d) (by omega) (by omega)
                  rw [HX.out, show x + 1 + (i + 1 + d - i) = x + 1 + d + 1 by omega] at h6
                  rw [h6] at HO
                  have HO1 := hide HO
                  have em : ((i + 1 + d : Nat) : Int) - 1 = ((i + d : Nat) : Int) := by omega
                  clear HO h5 h6 e1 hown
                  obtain ⟨y, hy⟩ : ∃ y, x + 1 + d = y := ⟨_, rfl⟩
                  obtain ⟨p, hpp⟩ : ∃ p, i + 1 + d = p := ⟨_, rfl⟩
                  obtain ⟨p', hpp'⟩ : ∃ p', i + d = p' := ⟨_, rfl⟩
                  rw [hy] at c1 HO1
                  rw [hpp] at c2 f2 HO1 hlt' hlt hp em ⊢
                  rw [hpp'] at c1 f1 em
                  have hyb : y ≤ 4000 := by omega
                  have hpb : p < 1000 := by omega
                  have hpb' : p' < p := by omega
                  have HPP := hide hpp
                  clear hpp hpp' hy hbk hbn
                  go_wp2
                  refine ⟨⟨p + 1, by go_num, ⟨by have := HPP.out; omega, by omega⟩, HO1.out, Keeps.setCell (X := fun k => k = W.heap.size) (p := ⟨W.heap.size, p, none⟩) hbel.out rfl _⟩, by simp [intOf]; omega⟩
                · have hp2 := hp.out
                  obtain rfl : p = j := by omega
                  have hlt' : ¬ (p : Int) < (p : Int) := by omega
                  have hbn' : wr.cell? ⟨bn, 0, none⟩ = some (.int .i64 n) := hbel.out.cell hbn (by show ¬ bn = W.heap.size; omega)
                  have HBN := hide hbn'
                  clear hbk hbn hbn'
                  go_wp2
                  go_roundg r'.length
                  case measure => rw [← hrl.out, HRR.out]; simp
                  case rel => exact ⟨pre ++ [s], fillFrom s i p, r', (by rw [← hpre.out, HRR.out]; simp : _ = _), rfl, HRU.out, hown.out, hJ _ _ _ HJ3.out hbel.out, hbk', HBN.out⟩

end Go.Proofs.Ytneafmjbekafmaa
