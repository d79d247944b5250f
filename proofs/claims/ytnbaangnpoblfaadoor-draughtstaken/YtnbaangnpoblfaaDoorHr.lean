/-
  A region that draws its order and holds a call of the loop's body among its operations: a walk in one order, of what stays through all that is carried out. No conditions beyond those that each theorem bears.
-/
import Derived.Test.YtnbaangnpoblfaaDoorRq
namespace Go.Proofs.YtnbaangnpoblfaaDoor
open Go.RowKit

section
variable {l0 n : Nat} {P : Program} {ops : Array Oper} {Q : Exit → Act → World → Prop} {md : Region.Mode} {S : World → Prop}

/-- Whatever order is drawn; S holds behind each operation. -/
def AnyR (l0 n : Nat) (P : Program) (md : Region.Mode) (ops : Array Oper) (Q : Exit → Act → World → Prop) (S : World → Prop) : Nat → Array Bool → Act → World → Prop
  | 0, l, a, w => Region.ready md ops l = [] ∧ Q .normal a w
  | f + 1, l, a, w => (Region.ready md ops l = [] → Q .normal a w) ∧ ∀ i, i ∈ Region.ready md ops l → wpOpIn (Fence.wide.inRound l0) n P ops Q i (fun a' w' => S w' ∧ AnyR l0 n P md ops Q S f (l.setIfInBounds i true) a' w') a w

theorem AnyR.any : ∀ (f : Nat) (l : Array Bool) (a : Act) (w : World), AnyR l0 n P md ops Q S f l a w → wpAnyIn (Fence.wide.inRound l0) n P md ops Q f l a w
  | 0, _, _, _, h => h
  | f + 1, _, _, _, h => ⟨h.1, fun i hi => wpOpIn_mono (fun _ _ h' => AnyR.any f _ _ _ h'.2) (h.2 i hi)⟩

theorem AnyR.region {id : Nat} {a : Act} {w : World} (hm : P.follows .mixedOrders = true) (h : AnyR l0 n P .any ops Q S ops.size (Array.replicate ops.size false) a w.drew) : (Code.region id ops true).wpIn (Fence.wide.inRound l0) n P Q a w :=
  wpIn_region_any hm (AnyR.any _ _ _ _ h)

theorem AnyR.done {l : Array Bool} {a : Act} {w : World} (hr : Region.ready md ops l = []) (h : Q .normal a w) (f : Nat) : AnyR l0 n P md ops Q S f l a w := by
  cases f with
  | zero => exact ⟨hr, h⟩
  | succ f => exact ⟨fun _ => h, fun i hi => by rw [hr] at hi; cases hi⟩

theorem AnyR.one {l : Array Bool} {a : Act} {w : World} {i f : Nat} {o : Oper} (hr : Region.ready md ops l = [i]) (ho : ops[i]? = some o) (hw : Region.wanted o (yielded ops a.tmps) = true)
    (h : ∀ K : Act → World → Prop, Hid (∀ a' w', S w' → (S w' → AnyR l0 n P md ops Q S f (l.setIfInBounds i true) a' w') → K a' w') → o.wpIn (Fence.wide.inRound l0) n P a w K Q) : AnyR l0 n P md ops Q S (f + 1) l a w := by
  refine ⟨(fun e => by rw [hr] at e; cases e), fun j hj => ?_⟩
  rw [hr] at hj
  obtain rfl := List.mem_singleton.1 hj
  unfold wpOpIn
  simp only [ho, hw, if_true]
  exact h _ (fun a' w' hS hA => ⟨hS, hA hS⟩)

/-- What an operation does to a state into which another's value is laid ahead of it. -/
theorem AnyR.swap {j : Nat} {oi oj : Oper} {v : Value} (hj : ops[j]? = some oj) (hap : oi.apart ops oj = true) (hdj : ∀ c, oj.op ≠ .defer c) (hsi : ∀ cs b, oi.op ≠ .select cs b) (hsj : ∀ cs b, oj.op ≠ .select cs b)
    (hQ : ∀ c a w, Q (.panic c) (a.put oi.dst v) w → Q (.panic c) a w) {K : Act → World → Prop} {a : Act} {w : World} (hy : YieldsIf P ops S oi v a) (h : wpOpIn (Fence.wide.inRound l0) n P ops Q j K (a.put oi.dst v) w) :
    wpOpIn (Fence.wide.inRound l0) n P ops Q j (fun a' w' => YieldsIf P ops S oi v a' ∧ K (a'.put oi.dst v) w') a w := by
  obtain ⟨e1, e2, e3⟩ := Oper.apart_spec hap
  have stays : ∀ (b : Act) (u : Value), YieldsIf P ops S oi v b → YieldsIf P ops S oi v (b.put oj.dst u) ∧ (b.put oj.dst u).put oi.dst v = (b.put oi.dst v).put oj.dst u := fun b u hb =>
    ⟨hb.of_same (execOp_put oi hsi b oj.dst u e3) (wanted_put oi b oj.dst u e3), (Act.put_comm b v u e2).symm⟩
  have fin : ∀ (b : Act) (u : Value) (w' : World), YieldsIf P ops S oi v b → K ((b.put oi.dst v).put oj.dst u) w' → YieldsIf P ops S oi v (b.put oj.dst u) ∧ K ((b.put oj.dst u).put oi.dst v) w' := fun b u w' hb hk =>
    ⟨(stays b u hb).1, by rw [(stays b u hb).2]; exact hk⟩
  unfold wpOpIn at h ⊢
  simp only [hj] at h ⊢
  rw [wanted_put oj a oi.dst v e1] at h
  by_cases hw : Region.wanted oj (yielded ops a.tmps) = true
  · rw [if_pos hw] at h ⊢
    have h' := h.2
    refine ⟨fun _ _ => trivial, ?_⟩
    rw [Oper.semAt_eq _ _ _ hdj] at h' ⊢
    rw [execOp_put oj hsj a oi.dst v e1] at h'
    cases hrun : (execOp a.eval oj).run P w with
    | ok x w' =>
      rw [hrun] at h'
      cases x <;> simp only [Oper.uponIn] at h' ⊢
      case value u => exact fin a u w' hy h'
      case skip => exact fin a undef w' hy h'
      case defer d => exact fin { a with defers := d :: a.defers } undef w' (hy.of_same rfl rfl) (by rw [← Act.put_defers]; exact h')
      case enter f args => exact ⟨h'.1, h'.2.mono fun e w2 he => by
        cases e with
        | returned u => exact fin a u w2 hy he
        | panicked c => exact hQ _ _ _ he
        | outgrown => exact he⟩
      case row row args => exact ⟨h'.1, RowsIn.mono h'.2 fun u w2 he => fin a u w2 hy he⟩
      case round l f tmps assign body => exact ⟨h'.1, RoundIn.mono h'.2 fun e w2 he => by
        cases e with
        | returned u => exact fin a u w2 hy he
        | panicked c => exact hQ _ _ _ he
        | outgrown => exact he⟩
    | halt x w' =>
      rw [hrun] at h'
      cases x <;> simp only [Oper.uponIn] at h' ⊢
      case panic u => exact hQ _ _ _ h'
  · rw [if_neg hw] at h ⊢
    exact ⟨fun _ _ => trivial, fin a undef w hy h.2⟩

theorem AnyR.now {i : Nat} {o : Oper} (hdo : ∀ c, o.op ≠ .defer c) {v : Value} {a : Act} {w : World} {K : Act → World → Prop} (hi : ops[i]? = some o) (hy : YieldsIf P ops S o v a) (hS : S w) (h : K (a.put o.dst v) w) : wpOpIn (Fence.wide.inRound l0) n P ops Q i K a w := by
  unfold wpOpIn
  simp only [hi]
  rcases hy with ⟨hw, hv⟩ | ⟨hw, rfl⟩
  · rw [if_pos hw]
    refine ⟨fun _ _ => trivial, ?_⟩
    rw [Oper.semAt_eq _ _ _ hdo, hv w hS]
    exact h
  · rw [if_neg (by rw [hw]; simp)]
    exact ⟨fun _ _ => trivial, h⟩

theorem AnyR.ahead (hnd : noDefer ops = true) {i : Nat} {oi : Oper} {v : Value} (hi : ops[i]? = some oi) (hsel : Region.noSelect ops = true) (hQ : ∀ c a w, Q (.panic c) (a.put oi.dst v) w → Q (.panic c) a w) :
    ∀ (f : Nat) (l : Array Bool) (a : Act) (w : World), (∀ j oj, ops[j]? = some oj → j ≠ i → l.getD j true = false → (∀ e ∈ oj.after, Region.binds md e = true → e.on ≠ i) → oi.apart ops oj = true) →
      i ∈ Region.ready md ops l → YieldsIf P ops S oi v a → S w → AnyR l0 n P md ops Q S f (l.setIfInBounds i true) (a.put oi.dst v) w → AnyR l0 n P md ops Q S (f + 1) l a w := by
  have hs := Region.noSelect_spec hsel
  intro f
  induction f with
  | zero =>
    intro l a w _ hr hy hS H
    refine ⟨(fun e => by rw [e] at hr; cases hr), fun j hj => ?_⟩
    rcases Nat.decEq j i with hne | rfl
    · have := ready_mono hj hne
      rw [H.1] at this
      cases this
    · exact AnyR.now (noDefer_spec hnd _ oi · hi) hi hy hS ⟨hS, H⟩
  | succ f ih =>
    intro l a w hfree hr hy hS H
    refine ⟨(fun e => by rw [e] at hr; cases hr), fun j hj => ?_⟩
    rcases Nat.decEq j i with hne | rfl
    · obtain ⟨hun, oj, hoj, hall⟩ := mem_ready.1 hj
      have hno : ∀ e ∈ oj.after, Region.binds md e = true → e.on ≠ i := by
        intro e he hb heq
        have t1 := hall e he hb
        have t0 := (mem_ready.1 hr).1
        rw [heq] at t1
        by_cases hl : i < l.size
        · simp only [Array.getD_eq_getD_getElem?, Array.getElem?_eq_getElem hl, Option.getD_some] at t0
          simp [hl, t0] at t1
        · simp [Array.getElem?_eq_none (Nat.le_of_not_lt hl)] at t1
      refine wpOpIn_mono ?_ (AnyR.swap hoj (hfree j oj hoj hne hun hno) (noDefer_spec hnd j oj · hoj) (hs i oi · · hi) (hs j oj · · hoj) hQ hy (H.2 j (ready_mono hj hne)))
      rintro b w' ⟨hyb, hSb, hA⟩
      refine ⟨hSb, ih _ b w' ?_ (ready_mono hr (Ne.symm hne)) hyb hSb (by rw [Array.setIfInBounds_comm _ _ hne]; exact hA)⟩
      intro k ok hk hki hku hkn
      refine hfree k ok hk hki ?_ hkn
      rcases Nat.decEq j k with hjk | rfl
      · rwa [getD_set_ne true hjk] at hku
      · exact hun
    · exact AnyR.now (noDefer_spec hnd _ oi · hi) hi hy hS ⟨hS, H⟩

theorem AnyR.take (hnd : noDefer ops = true) {i : Nat} {oi : Oper} {v : Value} {f : Nat} {l : Array Bool} {a : Act} {w : World} (hi : ops[i]? = some oi) (hs : Region.noSelect ops = true) (hf : Region.free md ops l i = true) (hr : (Region.ready md ops l).contains i = true)
    (hQ : ∀ c a w, Q (.panic c) (a.put oi.dst v) w → Q (.panic c) a w) (hy : YieldsIf P ops S oi v a) (hS : S w) (h : AnyR l0 n P md ops Q S f (l.setIfInBounds i true) (a.put oi.dst v) w) : AnyR l0 n P md ops Q S (f + 1) l a w :=
  AnyR.ahead hnd hi hs hQ f l a w (Region.free_spec hi hf) (by simpa using hr) hy hS h

theorem AnyR.plain {o : Oper} {a : Act} {w : World} {K : Act → World → Prop} (hd : ∀ c, o.op ≠ .defer c) (h : o.wp P a w K Q) : o.wpIn (Fence.wide.inRound l0) n P a w K Q := oper_round hd h

/-- A call of an outer loop's body. -/
theorem AnyR.yields {o : Oper} {a : Act} {w : World} {K : Act → World → Prop} {l : Nat} {x f : Operand} {u : Value} {ts : Array TypeId} {R : Ending → World → Prop} (ho : o.op = .call { callee := .value f, args := #[x], argTypes := ts })
    (hf : a.eval f = .func (.yield l) #[] #[]) (hx : a.eval x = u) (h : YieldAt Fence.wide 0 P l #[u] w R) (hK : ∀ e w', R e w' → ∃ r, e = .returned r ∧ K (a.put o.dst r) w') : o.wpIn (Fence.wide.inRound l0) 1 P a w K Q := by
  obtain ⟨fn, tmps, assign, body, hrun, hR⟩ := h
  refine ⟨fun _ _ => trivial, ?_⟩
  rw [Oper.semAt_eq _ _ _ (fun c e => by rw [ho] at e; cases e)]
  have he : (execOp a.eval o).run P w = .ok (.round l fn tmps assign body) w := by
    clear hK
    generalize a.eval = ρ at *
    simp [execOp, ho, resolve, invoke, hf, hx, hrun, go_sem]
  rw [he]
  refine ⟨(fun e => by cases e), RoundIn.mono (F := Fence.wide.inRound l0) hR fun e w2 h2 => ?_⟩
  obtain ⟨r, rfl, hk⟩ := hK e w2 h2
  exact hk

end

end Go.Proofs.YtnbaangnpoblfaaDoor
